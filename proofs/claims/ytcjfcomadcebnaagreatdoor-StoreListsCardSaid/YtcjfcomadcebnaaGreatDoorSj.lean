/- New, Kind, Key, Len, Same, by contracts. -/
import Derived.Test.YtcjfcomadcebnaaGreatDoorSi
namespace Go.Proofs.YtcjfcomadcebnaaGreatDoor
open Go.RowKit Go.Maps Go.WideMaps Go.WideElems Go.ChangeShapes Go.WideShapes

variable {T : TypeId} {er : Nat → Addr}

theorem res54 (tmps : Array Value) (W : World) (Z : Nat) (k n : Int) (l : List UInt8) (v3 : Value) (h : StAt W Z k n l) (h2 : tmps.getD 2 undef = .pointer (some ⟨Z, 0, none⟩)) (h3 : tmps.getD 3 undef = v3) : (results Tryz.f54 tmps).run Tryz.prog W = .ok (.tuple #[stv k n l, v3]) W := by
  have hl := load_st h
  clear h
  have h2' : tmps[2]?.getD undef = .pointer (some ⟨Z, 0, none⟩) := by simpa using h2
  have h3' : tmps[3]?.getD undef = v3 := by simpa using h3
  simp [results, Tryz.results54, h2', h3', asAddr, hl]

/-- What New answers. -/
def newV (T : TypeId) (er : Nat → Addr) (k i : Int) : Value := if validO k i then .tuple #[stv k i [], .nilIface] else .tuple #[stv 0 0 [], errE T er 3]

set_option maxRecDepth 100000 in
theorem new_any (k i : Int) (w : World) (hG : Glob T er w) : Calls Tryz.prog 54 #[.agg #[.int .i64 k, .int .i64 i]] w fun e w' => e = .returned (newV T er k i) ∧ Hid (Below w.heap.size w w') := by
  obtain ⟨W1, hW1⟩ : ∃ W1, w.alloc (.cells #[.int .i64 k, .int .i64 i] 83) = W1 := ⟨_, rfl⟩
  have hal1 : Below w.heap.size w W1 := by rw [← hW1]; exact (Below.refl _ _).alloc (Nat.le_refl _) _
  have hs1 : W1.heap.size = w.heap.size + 1 := by rw [← hW1]; exact Array.size_push ..
  obtain ⟨c0, c1⟩ := obox w k i
  rw [hW1] at c0 c1
  obtain ⟨W, hW⟩ : ∃ W, W1.alloc (.cells #[.int .i64 0, .int .i64 0, .string ⟨#[]⟩] 34) = W := ⟨_, rfl⟩
  have hal2 : Below W1.heap.size W1 W := by rw [← hW]; exact (Below.refl _ _).alloc (Nat.le_refl _) _
  have hz : StAt W (w.heap.size + 1) 0 0 [] := by
    have := stAt_new W1 0 0 []
    rw [hs1] at this
    rw [← hW]; exact this
  have hlt : w.heap.size < W1.heap.size := by omega
  have q0 : W.cell? ⟨w.heap.size, 0, none⟩ = some (.int .i64 k) := (hal2.cell (p := ⟨w.heap.size, 0, none⟩) hlt).trans c0
  have q1 : W.cell? ⟨w.heap.size, 1, none⟩ = some (.int .i64 i) := (hal2.cell (p := ⟨w.heap.size, 1, none⟩) hlt).trans c1
  have hbW := hal1.trans (hal2.mono hal1.size)
  have Hv := Lib.hid (validObject_any k i W (hG.below' hbW))
  have HW : Hid (Below w.heap.size w W ∧ StAt W (w.heap.size + 1) 0 0 [] ∧ W.cell? ⟨w.heap.size, 0, none⟩ = some (.int .i64 k) ∧ W.cell? ⟨w.heap.size, 1, none⟩ = some (.int .i64 i)) := ⟨hbW, hz, q0, q1⟩
  have hltW : w.heap.size < W.heap.size := World.block_lt_of_cell? W _ q0
  obtain ⟨R, hR⟩ : ∃ R, R = newV T er k i := ⟨_, rfl⟩
  rw [← hR]
  unfold newV at hR
  unfold validOV at Hv
  generalize validO k i = b at *
  have HR := Lib.hid hR
  have Hlt := Lib.hid hltW
  clear hR hG hbW hz hal2 hal1 c0 c1 hlt hltW
  cases b
  · have Hv' : Hid (Calls Tryz.prog 71 #[.agg #[.int .i64 k, .int .i64 i]] W fun e w' => e = .returned (errE T er 3) ∧ Hid (Below W.heap.size W w')) := Hv
    have HR' : Hid (R = .tuple #[stv 0 0 [], errE T er 3]) := HR
    clear Hv HR
    go_enter Tryz.func54, Tryz.ntmps54
    go_wp2_with (first | (go_at_call 71; refine Hv'.out.mono ?_; rintro e w2 ⟨rfl, hb2⟩; have h2 : Hid (Below w.heap.size w w2 ∧ StAt w2 (w.heap.size + 1) 0 0 []) := ⟨HW.out.1.trans (hb2.out.mono HW.out.1.size), HW.out.2.1.below' hb2.out⟩; clear hb2 q0 q1; obtain ⟨d0, d1, d2, fz⟩ := h2.out.2))
    exact bodyPost_ret (res54 _ _ (w.heap.size + 1) 0 0 [] _ h2.out.2.set rfl rfl) rfl ⟨congrArg _ HR'.out.symm, setSt_below h2.out.1 (by omega) _ _ _⟩
  · have Hv' : Hid (Calls Tryz.prog 71 #[.agg #[.int .i64 k, .int .i64 i]] W fun e w' => e = .returned .nilIface ∧ Hid (Below W.heap.size W w')) := Hv
    have HR' : Hid (R = .tuple #[stv k i [], .nilIface]) := HR
    clear Hv HR
    go_enter Tryz.func54, Tryz.ntmps54
    go_wp2_with (first | (go_at_call 71; refine Hv'.out.mono ?_; rintro e w2 ⟨rfl, hb2⟩; have h2 : Hid (Below w.heap.size w w2 ∧ StAt w2 (w.heap.size + 1) 0 0 []) := ⟨HW.out.1.trans (hb2.out.mono HW.out.1.size), HW.out.2.1.below' hb2.out⟩; have q0' := (hb2.out.cell (p := ⟨w.heap.size, 0, none⟩) Hlt.out).trans HW.out.2.2.1; have q1' := (hb2.out.cell (p := ⟨w.heap.size, 1, none⟩) Hlt.out).trans HW.out.2.2.2; clear hb2 q0 q1; obtain ⟨d0, d1, d2, fz⟩ := h2.out.2))
    exact bodyPost_ret (res54 _ _ (w.heap.size + 1) k i [] _ h2.out.2.set rfl rfl) rfl ⟨congrArg _ HR'.out.symm, setSt_below h2.out.1 (by omega) _ _ _⟩

set_option maxRecDepth 100000 in
theorem kind_any (k n : Int) (l : List UInt8) (w : World) : Calls Tryz.prog 14 #[stv k n l] w fun e w' => e = .returned (.int .i64 k) ∧ Hid (Below w.heap.size w w') := by
  go_enter Tryz.func14, Tryz.ntmps14
  go_wp2
  go_ret
  exact ⟨rfl, (Below.refl _ _).alloc (Nat.le_refl _) _⟩

theorem same_any (k n k' n' : Int) (l l' : List UInt8) (w : World) : Calls Tryz.prog 44 #[stv k n l, stv k' n' l'] w fun e w' => e = .returned (.bool (decide (k = k') && decide (n = n') && decide (l = l'))) ∧ Hid (Below w.heap.size w w') := by
  have h2 : ∀ o o', Below w.heap.size w ((w.alloc o).alloc o') := fun o o' => by
    have h1 : Below w.heap.size w (w.alloc o) := (Below.refl _ _).alloc (Nat.le_refl _) _
    exact h1.alloc h1.size _
  have H2 := Lib.hid h2
  clear h2
  go_enter Tryz.func44, Tryz.ntmps44
  go_wp2
  all_goals
    go_ret
    refine ⟨?_, H2.out _ _⟩
    simp [*]

theorem wordL_len (t c : Int) : (wordL t c).length ≤ 16 := by
  unfold wordL
  split
  · rename_i h
    have : ∀ t : Nat, t < 7 → ∀ c : Nat, c < 10 → ((wrow t).getD c []).length ≤ 16 := by decide
    exact this _ (by omega) _ (by omega)
  · simp

/-- A state's key. -/
def keyT (k n : Int) (l : List UInt8) : List UInt8 := if k = 1 ∨ k = 2 then wordL 1 k ++ 32 :: Lib.itoa n else wordL 1 k ++ l

set_option maxRecDepth 100000 in
set_option maxHeartbeats 1000000 in
theorem key_any (k n : Int) (hn : fits64 n) (l : List UInt8) (hl : l.length ≤ 1000000000) (w : World) (hG : Glob T er w) : Calls Tryz.prog 12 #[stv k n l] w fun e w' => e = .returned (tv (keyT k n l)) ∧ Hid (Below w.heap.size w w') := by
  obtain ⟨W, hW⟩ : ∃ W, w.alloc (.cells #[.int .i64 k, .int .i64 n, tv l] 34) = W := ⟨_, rfl⟩
  have hal : Below w.heap.size w W := by rw [← hW]; exact (Below.refl _ _).alloc (Nat.le_refl _) _
  have hst : StAt W w.heap.size k n l := by rw [← hW]; exact stAt_new w k n l
  have hGW := hG.below' hal
  have Hw := Lib.hid (fun W (h : WordsAt W) => word_any 1 k W h)
  have Hp := Lib.hid (fun W (h : Glob T er W) => print_any n hn.1 hn.2 W h)
  have hil := itoa_len n hn.1 hn.2
  have hwl := wordL_len 1 k
  have Hk : Hid (Below w.heap.size w W ∧ StAt W w.heap.size k n l ∧ Glob T er W) := ⟨hal, hst, hGW⟩
  obtain ⟨R, hR⟩ : ∃ R, R = keyT k n l := ⟨_, rfl⟩
  rw [← hR]
  unfold keyT at hR
  obtain ⟨c0, c1, c2, fr⟩ := hst
  by_cases h12 : k = 1 ∨ k = 2
  · rw [if_pos h12] at hR
    have hcat : ((⟨(wordL 1 k).toArray⟩ : ByteArray) ++ ⟨#[32]⟩) ++ ⟨(Lib.itoa n).toArray⟩ = ⟨R.toArray⟩ := by
      rw [show (⟨#[32]⟩ : ByteArray) = ⟨[32].toArray⟩ from rfl, cat_tv, cat_tv, hR]; simp
    generalize wordL 1 k = x at *
    generalize Lib.itoa n = y at *
    have ht : (k == 1) = true ∨ ((k == 1) = false ∧ (k == 2) = true) := by
      rcases h12 with h | h
      · left; simpa using h
      · right; subst h; exact ⟨rfl, rfl⟩
    clear hR hal hGW hG h12
    rcases ht with ht | ⟨ht, ht2⟩
    all_goals
      go_enter Tryz.func12, Tryz.ntmps12
      go_wp2
      go_region_with (first | (go_at_call 39; refine (Hw.out _ (by first | exact Hk.out.2.2.drew.words | exact HG2.out.words)).mono ?_; rintro e w' ⟨rfl, rfl⟩) | (go_at_call 40; refine (Hp.out _ Hk.out.2.2.drew).mono ?_; rintro e w2 ⟨rfl, hb2⟩; have HG2 := Lib.hid (Hk.out.2.2.drew.below' hb2.out); have hst2 := Hk.out.2.1.drew.below' hb2.out; have H2 := Lib.hid ((below_drew Hk.out.1).trans (hb2.out.mono Hk.out.1.size)); clear hb2 c0 c1 c2 fr; obtain ⟨c0, c1, c2, fr⟩ := hst2))
      all_goals
        try rw [hcat]
        go_wp2
        go_ret
        exact ⟨rfl, H2.out⟩
  · rw [if_neg h12] at hR
    have hcat : (⟨(wordL 1 k).toArray⟩ : ByteArray) ++ ⟨l.toArray⟩ = ⟨R.toArray⟩ := by rw [cat_tv, hR]
    generalize wordL 1 k = x at *
    have e1 : (k == 1) = false := by simp; omega
    have e2 : (k == 2) = false := by simp; omega
    clear hR hal hGW hG h12
    go_enter Tryz.func12, Tryz.ntmps12
    go_wp2
    go_region_with (first | (go_at_call 39; refine (Hw.out _ Hk.out.2.2.drew.words).mono ?_; rintro e w' ⟨rfl, rfl⟩))
    all_goals
      try rw [hcat]
      go_wp2
      go_ret
      exact ⟨rfl, below_drew Hk.out.1⟩
end Go.Proofs.YtcjfcomadcebnaaGreatDoor
