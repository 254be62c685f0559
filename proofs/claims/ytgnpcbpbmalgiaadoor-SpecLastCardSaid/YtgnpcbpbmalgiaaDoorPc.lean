/- What is said of a state behind calls: plainly, and by the statement's own helper. -/
import Derived.Test.YtgnpcbpbmalgiaaDoorPb
namespace Go.Proofs.YtgnpcbpbmalgiaaDoor
open Go.RowKit Go.Maps Go.WideMaps Go.WideElems Go.ChangeShapes Go.WideShapes

variable {er : Nat → Addr}

/-- Whether there is a value to be told, and the value. -/
def hasOf (key : Int) (s : PS) : Bool := if s.kind = 4 then (mget key s.kvs).isSome else decide (s.kind ≤ 2)
def valOf (key : Int) (s : PS) : Int := if s.kind = 4 then (mget key s.kvs).getD 0 else if s.kind ≤ 2 then s.n else 0
/-- What the statement keeps of a call that went through. -/
def keepH (key : Int) (c : PC) (h : Bool) : Bool := if c.1 = 7 ∧ c.2.1 = key then true else if c.1 = 9 ∧ c.2.1 = key then false else h
def keepV (key : Int) (c : PC) (v : Int) : Int := if c.1 = 2 then c.2.2 else if c.1 = 3 then v + c.2.2 else if c.1 = 7 ∧ c.2.1 = key then c.2.2 else if c.1 = 9 ∧ c.2.1 = key then 0 else v

theorem kept {s t : PS} {b : Nat} (hs : s.Ok b) {c : PC} {r g : Int} (hd : doR s c.1 c.2.1 c.2.2 = .ok (t, r, g)) (key : Int) : hasOf key t = keepH key c (hasOf key s) ∧ valOf key t = keepV key c (valOf key s) := by
  have hk : t.kind = s.kind := (hs.next hd).2
  obtain ⟨op, k, v⟩ := c
  simp only at hd
  by_cases h4 : s.kind = 4
  · have hof : ofZ op = 4 := by
      unfold doR at hd
      split at hd
      · cases hd
      · rename_i h1; rw [← h4]; exact Decidable.byContradiction h1
    rw [doR_map h4] at hd
    split at hd
    · cases hd
    split at hd
    · cases hd
    cases hd
    unfold hasOf valOf keepH keepV
    simp only [h4, if_true]
    rw [mget_ap hs.rises]
    rcases (of_kinds op).2.2.2 hof with rfl | rfl | rfl
    · by_cases e : key = k
      · subst e; simp
      · simp [e, Ne.symm e, show ¬ k = key from fun h => e h.symm]
    · simp
    · by_cases e : key = k
      · subst e; simp
      · simp [e, show ¬ k = key from fun h => e h.symm]
  · unfold hasOf valOf keepH keepV
    rw [hk, if_neg h4, if_neg h4, if_neg h4, if_neg h4]
    unfold doR at hd
    split at hd
    · cases hd
    rename_i h1
    have hof : ofZ op = s.kind := Decidable.byContradiction h1
    split at hd
    · cases hd
    split at hd
    · cases hd
    obtain ⟨o1, o2, o3, o4⟩ := of_kinds op
    have hkk := hs.kind
    have : s.kind = 1 ∨ s.kind = 2 ∨ s.kind = 3 := by omega
    rcases this with e | e | e
    · rcases o1 (hof.trans e) with rfl | rfl
      · rw [if_pos (.inl rfl)] at hd; cases hd; simp
      · rw [if_neg (by decide), if_pos rfl] at hd; cases hd; simp [e]
    · rcases o2 (hof.trans e) with rfl | rfl
      · rw [if_neg (by decide), if_neg (by decide), if_pos rfl] at hd; cases hd; simp [e]
      · rw [if_pos (.inr rfl)] at hd; cases hd; simp
    · rcases o3 (hof.trans e) with rfl | rfl
      · simp [e]
      · simp [e]

theorem ans1 {s : PS} {b : Nat} (hs : s.Ok b) (h : s.kind = 1) : doR s 1 0 0 = .ok (s, 3, s.n) := by
  unfold doR
  rw [h, if_neg (by decide), if_neg (by decide), if_neg (fun e => absurd e.1 (by decide)), if_pos (.inl rfl)]
theorem ans2 {s : PS} {b : Nat} (hs : s.Ok b) (h : s.kind = 2) : doR s 4 0 0 = .ok (s, 3, s.n) := by
  have hn := hs.cnt h
  unfold doR
  rw [h, if_neg (by decide), if_neg (by decide), if_neg (fun e => e.2 (by simpa using hn)), if_pos (.inr rfl)]
theorem ans4 {s : PS} (h : s.kind = 4) {key : Int} (h0 : 0 ≤ key) (h1 : key ≤ 1000) : doR s 8 key 0 = .ok (s, if (mget key s.kvs).isSome then 3 else 2, (mget key s.kvs).getD 0) := by
  rw [doR_map h, if_neg (by decide)]
  have hf : fitsB 8 key 0 = true := by
    unfold fitsB
    rw [decide_eq_true h0, decide_eq_true h1]
    simp [keyedZ, near]
  rw [if_neg (by rw [hf]; decide)]
  unfold apM ansM
  rw [if_neg (by decide), if_neg (by decide), if_neg (by decide)]
  cases mget key s.kvs <;> rfl

set_option maxRecDepth 100000 in
set_option maxHeartbeats 4000000 in
theorem last_true {s : PS} {b : Nat} (hb : b ≤ 1000000) (hs : s.Ok b) (key : Int) (w : World) (hG : Glob 129 er w) :
    Calls Tryd.prog 15 #[stv s.kind s.n s.text, .int .i64 s.kind, .int .i64 key, .bool (hasOf key s), .int .i64 (valOf key s)] w fun e w' => e = .returned (.bool true) ∧ Hid (Below w.heap.size w w') := by
  have hk := hs.kind
  have hkk : s.kind = 1 ∨ s.kind = 2 ∨ s.kind = 3 ∨ s.kind = 4 := by omega
  obtain ⟨V, hV⟩ : ∃ V, w.alloc (.cells #[.int .i64 s.kind, .int .i64 s.n, tv s.text] 27) = V := ⟨_, rfl⟩
  have hbV : Below w.heap.size w V := by rw [← hV]; exact (Below.refl _ _).alloc (Nat.le_refl _) _
  have hst : StAt V w.heap.size s.kind s.n s.text := by rw [← hV]; exact stAt_new w s.kind s.n s.text
  have hbox : Below w.heap.size w (V.alloc (.cells #[.int .i64 0, .int .i64 1, .int .i64 4, .int .i64 0, .int .i64 8] 3)) := hbV.alloc hbV.size _
  have hst2 : StAt (V.alloc (.cells #[.int .i64 0, .int .i64 1, .int .i64 4, .int .i64 0, .int .i64 8] 3)) w.heap.size s.kind s.n s.text := hst.below' ((Below.refl _ _).alloc (Nat.le_refl _) _)
  have hcl : ∀ j, (V.alloc (.cells #[.int .i64 0, .int .i64 1, .int .i64 4, .int .i64 0, .int .i64 8] 3)).cell? ⟨V.heap.size, j, none⟩ = (#[.int .i64 0, .int .i64 1, .int .i64 4, .int .i64 0, .int .i64 8] : Array Value)[j]? := fun j => World.cell?_alloc_new ..
  have l1 := hcl 1
  have l2 := hcl 2
  have l3 := hcl 3
  have l4 := hcl 4
  simp only [List.getElem?_toArray, List.getElem?_cons_succ, List.getElem?_cons_zero] at l1 l2 l3 l4
  have HG2 := Lib.hid (hG.below' hbox)
  have Hbox := Lib.hid hbox
  obtain ⟨c0, c1, c2, cz⟩ := hst2
  clear hbV hst hbox hcl hG
  rcases hkk with e | e | e | e
  · have hd := fun W (h : Glob 129 er W) => do_known hb hs (c := (1, 0, 0)) ⟨by unfold fits64; decide, by unfold fits64; decide⟩ (ans1 hs e) W h
    have hh : hasOf key s = true := by unfold hasOf; rw [e]; rfl
    have hv : valOf key s = s.n := by unfold valOf; rw [e]; rfl
    rw [hh, hv]
    rw [e] at hd c0 hV ⊢
    have Hd := Lib.hid hd
    clear hd hk e hh hv hs l2 l3 l4
    go_enter Tryd.func15, Tryd.ntmps15
    go_wp2_with (first | (go_at_call 12; refine (Hd.out _ HG2.out).mono ?_; rintro e w4 ⟨rfl, hb4⟩))
    go_ret
    exact ⟨rfl, Hbox.out.trans ((hb4.out.alloc hb4.out.size _).mono Hbox.out.size)⟩
  · have hd := fun W (h : Glob 129 er W) => do_known hb hs (c := (4, 0, 0)) ⟨by unfold fits64; decide, by unfold fits64; decide⟩ (ans2 hs e) W h
    have hh : hasOf key s = true := by unfold hasOf; rw [e]; rfl
    have hv : valOf key s = s.n := by unfold valOf; rw [e]; rfl
    rw [hh, hv]
    rw [e] at hd c0 hV ⊢
    have Hd := Lib.hid hd
    clear hd hk e hh hv hs l1 l3 l4
    go_enter Tryd.func15, Tryd.ntmps15
    go_wp2_with (first | (go_at_call 12; refine (Hd.out _ HG2.out).mono ?_; rintro e w4 ⟨rfl, hb4⟩))
    go_ret
    exact ⟨rfl, Hbox.out.trans ((hb4.out.alloc hb4.out.size _).mono Hbox.out.size)⟩
  · rw [e] at c0 hV ⊢
    clear hk e hs l1 l2 l4
    generalize hasOf key s = hh
    generalize valOf key s = hv
    go_enter Tryd.func15, Tryd.ntmps15
    go_wp2
    go_ret
    exact ⟨rfl, Hbox.out⟩
  · have hh : hasOf key s = (mget key s.kvs).isSome := by unfold hasOf; rw [if_pos e]
    have hv : valOf key s = (mget key s.kvs).getD 0 := by unfold valOf; rw [if_pos e]
    rw [hh, hv]
    have hkd : key < 0 ∨ 1000 < key ∨ (0 ≤ key ∧ key ≤ 1000) := by omega
    rcases hkd with h0 | h0 | ⟨h0, h1⟩
    · have n0 : decide (key < 0) = true := by simpa using h0
      rw [e] at c0 hV ⊢
      clear hk e hs l1 l2 l3 h0 hh hv
      generalize mget key s.kvs = mg
      go_enter Tryd.func15, Tryd.ntmps15
      go_wp2
      go_ret
      exact ⟨rfl, Hbox.out⟩
    · have n0 : decide (key < 0) = false := by simp; omega
      have n1 : decide (key > 1000) = true := by simpa using h0
      rw [e] at c0 hV ⊢
      clear hk e hs l1 l2 l3 h0 hh hv
      generalize mget key s.kvs = mg
      go_enter Tryd.func15, Tryd.ntmps15
      go_wp2
      go_ret
      exact ⟨rfl, Hbox.out⟩
    · have n0 : decide (key < 0) = false := by simp; omega
      have n1 : decide (key > 1000) = false := by simp; omega
      have hd := fun W (h : Glob 129 er W) => do_known hb hs (c := (8, key, 0)) ⟨by show fits64 key; unfold fits64; omega, by show fits64 0; unfold fits64; decide⟩ (ans4 e h0 h1) W h
      rw [e] at hd c0 hV ⊢
      cases hm : mget key s.kvs with
      | none =>
        rw [hm] at hd
        have Hd : Hid (∀ W, Glob 129 er W → Calls Tryd.prog 12 #[stv 4 s.n s.text, .int .i64 8, .int .i64 key, .int .i64 0] W fun e w' => e = .returned (.tuple #[stv 4 s.n s.text, .int .i64 2, .int .i64 0, .nilIface]) ∧ Hid (Below W.heap.size W w')) := fun W h => hd W h
        show Calls Tryd.prog 15 #[stv 4 s.n s.text, .int .i64 4, .int .i64 key, .bool false, .int .i64 0] w _
        clear hd hk e hs l1 l2 l3 h0 h1 hh hv hm
        go_enter Tryd.func15, Tryd.ntmps15
        go_wp2_with (first | (go_at_call 12; refine (Hd.out _ HG2.out).mono ?_; rintro e w4 ⟨rfl, hb4⟩))
        go_ret
        exact ⟨rfl, Hbox.out.trans ((hb4.out.alloc hb4.out.size _).mono Hbox.out.size)⟩
      | some v =>
        rw [hm] at hd
        have Hd : Hid (∀ W, Glob 129 er W → Calls Tryd.prog 12 #[stv 4 s.n s.text, .int .i64 8, .int .i64 key, .int .i64 0] W fun e w' => e = .returned (.tuple #[stv 4 s.n s.text, .int .i64 3, .int .i64 v, .nilIface]) ∧ Hid (Below W.heap.size W w')) := fun W h => hd W h
        show Calls Tryd.prog 15 #[stv 4 s.n s.text, .int .i64 4, .int .i64 key, .bool true, .int .i64 v] w _
        clear hd hk e hs l1 l2 l3 h0 h1 hh hv hm
        go_enter Tryd.func15, Tryd.ntmps15
        go_wp2_with (first | (go_at_call 12; refine (Hd.out _ HG2.out).mono ?_; rintro e w4 ⟨rfl, hb4⟩))
        go_ret
        exact ⟨rfl, Hbox.out.trans ((hb4.out.alloc hb4.out.size _).mono Hbox.out.size)⟩
end Go.Proofs.YtgnpcbpbmalgiaaDoor
