/- What the document appends to events: begin, call, read, write, commit, by contracts. -/
import Derived.Test.YtdemoikadojepaaSa
namespace Go.Proofs.Ytdemoikadojepaa
open Go.RowKit Go.Maps Go.WideMaps Go.WideElems Go.ChangeShapes Go.WideShapes

/-- What a call gives that appends these events to a row of one's own. -/
def DocRes (B n m : Nat) (F G : List Int) (v : Value) (w : World) (e : Ending) (w' : World) : Prop :=
  ∃ v', e = .returned v' ∧ Hid (w'.ownsRow B 41 8 v' (n + m) (ints (F ++ G)) ∧ ∀ p, Told p v w v' w')
theorem alloc_le {w : World} {B : Nat} (h : B ≤ w.heap.size) (o : Obj) : B ≤ (w.alloc o).heap.size := Nat.le_trans h ((Below.refl 0 w).alloc (Nat.zero_le _) o).size
theorem below_own {B e size n : Nat} {v : Value} {xs : List Value} {w0 w1 w2 : World} (hb : Below B w0 w1) (hg : w1.grownBy w2 v.ownBlock) (hr : w1.ownsRow B e size v n xs) (hB : B ≤ w1.heap.size) : Below B w0 w2 :=
  hb.grown hg hB (fun k hk => (hr.lt k hk).1)
theorem told_below {B e size n : Nat} {v v' : Value} {xs : List Value} {a b : World} (h : ∀ p, Told p v a v' b) (hr : a.ownsRow B e size v n xs) (hB : B ≤ a.heap.size) : Below B a b :=
  ⟨(h 0).os, (h 0).tape, (h 0).output, (h 0).size, fun k hk => (h (k + 1)).block k (by omega) (by omega) (fun e => by have := (hr.lt k e.symm).1; omega)⟩
/-- Events appended behind the row that bears them was made. -/
theorem doc_step {B n m cap g : Nat} {v : Value} {xs ys : List Value} {w w3 : World} {o : Obj} (_hr : w.ownsRow B 41 8 v n xs) (_hB : B ≤ w.heap.size) (hown : w3.ownsRow B 41 8 (.slice (some ⟨g, 0, none⟩) (n + m) cap) (n + m) (xs ++ ys)) (hg : (w.alloc o).grownBy w3 v.ownBlock) (hat : v.ownBlock = some g ∨ g = (w.alloc o).heap.size) :
    w3.ownsRow B 41 8 (.slice (some ⟨g, 0, none⟩) (n + m) cap) (n + m) (xs ++ ys) ∧ ∀ p, Told p v w (.slice (some ⟨g, 0, none⟩) (n + m) cap) w3 := by
  have ha : Below w.heap.size w (w.alloc o) := (Below.refl _ w).alloc (Nat.le_refl _) o
  refine ⟨hown, fun p => ⟨hg.os.trans ha.os, hg.tape.trans ha.tape, hg.output.trans ha.output, Nat.le_trans ha.size hg.size, fun k hk _ hv => (hg.block k (Nat.lt_of_lt_of_le hk ha.size) hv).trans (ha.block k hk), ?_⟩⟩
  rcases hat with h | h
  · exact .inl h.symm
  · refine .inr fun k hk => ?_
    have h8 : g = k := by simpa [Value.ownBlock] using hk
    have := ha.size
    omega
/-- Another row is not written. -/
theorem told_other {B e size n : Nat} {v v' vo : Value} {xs : List Value} {a b : World} (h : ∀ p, Told p v a v' b) (ho : a.ownsRow B e size vo n xs) (hne : ∀ k, vo.ownBlock = some k → v.ownBlock ≠ some k) :
    b.ownsRow B e size vo n xs ∧ ∀ k, vo.ownBlock = some k → v'.ownBlock ≠ some k := by
  refine ⟨?_, fun k hk hk2 => ?_⟩
  · obtain ⟨hl, h0 | ⟨g, cap, cur, e1, hB, hg, r⟩⟩ := ho
    · exact ⟨hl, .inl h0⟩
    · exact ⟨hl, .inr ⟨g, cap, cur, e1, hB, ((h (g + 1)).block g (Array.getElem?_eq_some_iff.1 hg).1 (by omega) (fun e2 => hne g (by rw [e1]; rfl) e2.symm)).trans hg, r⟩⟩
  · rcases (h 0).own with h1 | h1
    · exact hne k hk (h1.symm.trans hk2)
    · have h2 := h1 k hk2
      have h3 := (ho.lt k hk).2
      omega

set_option maxHeartbeats 1000000 in
theorem dbegin_any (B : Nat) (v : Value) (n : Nat) (F : List Int) (hn : n ≤ 1000) (tx th : Int) (w : World) (h : w.ownsRow B 41 8 v n (ints F)) (hB : B ≤ w.heap.size) :
    Calls Try.prog 34 #[v, .int .i64 tx, .int .i64 th] w (DocRes B n 1 F [1, tx, th, 0, 0, 0, 0, 0] v w) := by
  obtain ⟨i0, hi, hz0, hz1, hz2⟩ := info_parts elem41
  have H := Lib.hid h
  have HB := Lib.hid hB
  clear h hB
  go_enter Try.func34, Try.ntmps34
  go_wp2_with (first
    | (at_builtin; refine wpList_append_lies _ rfl _ _ 24 rfl B 41 i0 _ 8 64 Try.underlying24 hi hz0 hz1 hz2 rfl (by decide) v (n) _ rfl (H.out.alloc _) ⟨w.heap.size, 0, none⟩ 1 1 (ints [1, tx, th, 0, 0, 0, 0, 0]) rfl rfl (news_new _ _ _) (ints_one _) (by decide) (by unfold maxLen; omega) (by omega) (alloc_le HB.out _) _ rfl ?_
       intro g3 cap3 w3 hown3 hgrow3 hat3 hlt3
       have H3 := Lib.hid (doc_step H.out HB.out hown3 hgrow3 hat3)
       clear hown3 hgrow3 hat3 hlt3)
    | go_in)
  go_ret
  refine ⟨_, rfl, row_eq H3.out.1 rfl (by simp), H3.out.2⟩

set_option maxHeartbeats 1000000 in
theorem dcommit_any (B : Nat) (v : Value) (n : Nat) (F : List Int) (hn : n ≤ 1000) (tx : Int) (w : World) (h : w.ownsRow B 41 8 v n (ints F)) (hB : B ≤ w.heap.size) :
    Calls Try.prog 31 #[v, .int .i64 tx] w (DocRes B n 2 F [4, tx, 0, 0, 0, 0, 0, 0, 5, tx, 0, 0, 0, 0, 0, 0] v w) := by
  obtain ⟨i0, hi, hz0, hz1, hz2⟩ := info_parts elem41
  have H := Lib.hid h
  have HB := Lib.hid hB
  clear h hB
  go_enter Try.func31, Try.ntmps31
  go_wp2_with (first
    | (at_builtin; refine wpList_append_lies _ rfl _ _ 24 rfl B 41 i0 _ 8 64 Try.underlying24 hi hz0 hz1 hz2 rfl (by decide) v (n) _ rfl (H.out.alloc _) ⟨w.heap.size, 0, none⟩ 1 1 (ints [4, tx, 0, 0, 0, 0, 0, 0]) rfl rfl (news_new _ _ _) (ints_one _) (by decide) (by unfold maxLen; omega) (by omega) (alloc_le HB.out _) _ rfl ?_
       intro g3 cap3 w3 hown3 hgrow3 hat3 hlt3
       have H3 := Lib.hid (doc_step H.out HB.out hown3 hgrow3 hat3)
       have HB3 : Hid (B ≤ w3.heap.size) := Nat.le_trans HB.out (H3.out.2 0).size
       clear hown3 hgrow3 hat3 hlt3 H)
    | (at_builtin; refine wpList_append_lies _ rfl _ _ 24 rfl B 41 i0 _ 8 64 Try.underlying24 hi hz0 hz1 hz2 rfl (by decide) (.slice (some ⟨g3, 0, none⟩) (n + 1) cap3) (n + 1) _ rfl (H3.out.1.alloc _) ⟨w3.heap.size, 0, none⟩ 1 1 (ints [5, tx, 0, 0, 0, 0, 0, 0]) rfl rfl (news_new _ _ _) (ints_one _) (by decide) (by unfold maxLen; omega) (by omega) (alloc_le HB3.out _) _ rfl ?_
       intro g4 cap4 w4 hown4 hgrow4 hat4 hlt4
       have H4 := Lib.hid (doc_step H3.out.1 HB3.out hown4 hgrow4 hat4)
       clear hown4 hgrow4 hat4 hlt4)
    | go_in)
  go_ret
  refine ⟨_, rfl, row_eq H4.out.1 rfl (by simp), fun p => (H3.out.2 p).trans (H4.out.2 p)⟩

set_option maxHeartbeats 1000000 in
theorem dcall_any (B : Nat) (v : Value) (n : Nat) (F : List Int) (hn : n ≤ 1000) (tx ob op ke va ret got : Int) (w : World) (h : w.ownsRow B 41 8 v n (ints F)) (hB : B ≤ w.heap.size) :
    Calls Try.prog 46 #[v, .int .i64 tx, .int .i64 ob, .int .i64 op, .int .i64 ke, .int .i64 va, .int .i64 ret, .int .i64 got] w (DocRes B n 2 F [2, tx, 0, ob, op, ke, va, 0, 3, tx, 0, 0, 0, 0, got, ret] v w) := by
  obtain ⟨i0, hi, hz0, hz1, hz2⟩ := info_parts elem41
  have H := Lib.hid h
  have HB := Lib.hid hB
  clear h hB
  go_enter Try.func46, Try.ntmps46
  go_wp2_with (first
    | (at_builtin; refine wpList_append_lies _ rfl _ _ 24 rfl B 41 i0 _ 8 64 Try.underlying24 hi hz0 hz1 hz2 rfl (by decide) v (n) _ rfl (H.out.alloc _) ⟨w.heap.size, 0, none⟩ 1 1 (ints [2, tx, 0, ob, op, ke, va, 0]) rfl rfl (news_new _ _ _) (ints_one _) (by decide) (by unfold maxLen; omega) (by omega) (alloc_le HB.out _) _ rfl ?_
       intro g3 cap3 w3 hown3 hgrow3 hat3 hlt3
       have H3 := Lib.hid (doc_step H.out HB.out hown3 hgrow3 hat3)
       have HB3 : Hid (B ≤ w3.heap.size) := Nat.le_trans HB.out (H3.out.2 0).size
       clear hown3 hgrow3 hat3 hlt3 H)
    | (at_builtin; refine wpList_append_lies _ rfl _ _ 24 rfl B 41 i0 _ 8 64 Try.underlying24 hi hz0 hz1 hz2 rfl (by decide) (.slice (some ⟨g3, 0, none⟩) (n + 1) cap3) (n + 1) _ rfl (H3.out.1.alloc _) ⟨w3.heap.size, 0, none⟩ 1 1 (ints [3, tx, 0, 0, 0, 0, got, ret]) rfl rfl (news_new _ _ _) (ints_one _) (by decide) (by unfold maxLen; omega) (by omega) (alloc_le HB3.out _) _ rfl ?_
       intro g4 cap4 w4 hown4 hgrow4 hat4 hlt4
       have H4 := Lib.hid (doc_step H3.out.1 HB3.out hown4 hgrow4 hat4)
       clear hown4 hgrow4 hat4 hlt4)
    | go_in)
  go_ret
  refine ⟨_, rfl, row_eq H4.out.1 rfl (by simp), fun p => (H3.out.2 p).trans (H4.out.2 p)⟩

theorem dread_any (B : Nat) (v : Value) (n : Nat) (F : List Int) (hn : n ≤ 1000) (tx ob val : Int) (w : World) (h : w.ownsRow B 41 8 v n (ints F)) (hB : B ≤ w.heap.size) :
    Calls Try.prog 33 #[v, .int .i64 tx, .int .i64 ob, .int .i64 val] w (DocRes B n 2 F [2, tx, 0, ob, 1, 0, 0, 0, 3, tx, 0, 0, 0, 0, val, 3] v w) := by
  have H := Lib.hid (dcall_any B v n F hn tx ob 1 0 0 3 val w h hB)
  clear h hB
  go_enter Try.func33, Try.ntmps33
  go_wp2_with (first | (go_at_call 46; refine H.out.mono ?_; rintro e w2 ⟨v2, rfl, h2⟩))
  go_ret
  exact ⟨_, rfl, h2.out⟩
theorem dwrite_any (B : Nat) (v : Value) (n : Nat) (F : List Int) (hn : n ≤ 1000) (tx ob val : Int) (w : World) (h : w.ownsRow B 41 8 v n (ints F)) (hB : B ≤ w.heap.size) :
    Calls Try.prog 32 #[v, .int .i64 tx, .int .i64 ob, .int .i64 val] w (DocRes B n 2 F [2, tx, 0, ob, 2, 0, val, 0, 3, tx, 0, 0, 0, 0, 0, 1] v w) := by
  have H := Lib.hid (dcall_any B v n F hn tx ob 2 0 val 1 0 w h hB)
  clear h hB
  go_enter Try.func32, Try.ntmps32
  go_wp2_with (first | (go_at_call 46; refine H.out.mono ?_; rintro e w2 ⟨v2, rfl, h2⟩))
  go_ret
  exact ⟨_, rfl, h2.out⟩
end Go.Proofs.Ytdemoikadojepaa
