/- What a builder does: begin, call, read, write, commit, by contracts. -/
import Derived.Test.YtdemoikadojepaaSa
namespace Go.Proofs.Ytdemoikadojepaa
open Go.RowKit Go.Maps Go.WideMaps Go.WideElems Go.ChangeShapes Go.WideShapes

/-- What a call of a builder's method gives that tells these events. -/
def BdRes (p B : Nat) (vo : Value) (n m : Nat) (F G : List Int) (v : Value) (w : World) (e : Ending) (w' : World) : Prop :=
  ∃ v', e = .returned (.tuple #[]) ∧ Hid (BdAt p B vo (n + m) (F ++ G) v' w' ∧ Told p v w v' w')

theorem begin_any (p B : Nat) (vo : Value) (n : Nat) (F : List Int) (hn : n ≤ 1000) (tx th : Int) (w : World) (v : Value) (h : BdAt p B vo n F v w) :
    Calls Try.prog 27 #[.pointer (some ⟨p, 0, none⟩), .int .i64 tx, .int .i64 th] w (BdRes p B vo n 1 F [1, tx, th, 0, 0, 0, 0, 0] v w) := by
  have H := Lib.hid (tell_any p B vo n F hn 1 tx th 0 0 0 0 0 w v h)
  clear h
  go_enter Try.func27, Try.ntmps27
  go_wp2_with (first | (go_at_call 47; refine H.out.mono ?_; rintro e w2 ⟨v2, rfl, h2⟩))
  refine bodyPost_end (results_none rfl _ _ _) rfl ?_
  exact ⟨_, rfl, h2.out⟩

set_option maxHeartbeats 1000000 in
theorem call_any (p B : Nat) (vo : Value) (n : Nat) (F : List Int) (hn : n ≤ 999) (k tx th ob op ke va re ret val : Int) (w : World) (v : Value) (h : BdAt p B vo n F v w) :
    Calls Try.prog 48 #[.pointer (some ⟨p, 0, none⟩), ev k tx th ob op ke va re, .int .i64 ret, .int .i64 val] w (BdRes p B vo n 2 F [2, tx, th, ob, op, ke, va, re, 3, tx, 0, 0, 0, 0, val, ret] v w) := by
  obtain ⟨W, hW, Hb, hs, Hx⟩ := cells_new w #[.int .i64 k, .int .i64 tx, .int .i64 th, .int .i64 ob, .int .i64 op, .int .i64 ke, .int .i64 va, .int .i64 re] 41
  obtain ⟨⟨e0, -⟩, -⟩ := row_eight Hx.out
  have ef := frozen_of_row _ _ 0 _ _ Hx.out
  obtain ⟨W1, hW1⟩ : ∃ W1, W.setCell ⟨w.heap.size, 0, none⟩ (.int .i64 2) = W1 := ⟨_, rfl⟩
  have Hx1 : Hid (W1.heap[w.heap.size]? = some (.cells #[.int .i64 2, .int .i64 tx, .int .i64 th, .int .i64 ob, .int .i64 op, .int .i64 ke, .int .i64 va, .int .i64 re] 41)) := by
    rw [← hW1]; exact heap_setCell_same W w.heap.size 0 _ _ _ Hx.out
  have Hb1 : Hid (Below w.heap.size w W1) := by rw [← hW1]; exact Hb.out.setCell (p := ⟨w.heap.size, 0, none⟩) (Nat.le_refl _) _
  have hs1 : Hid (w.heap.size < W1.heap.size) := Nat.lt_of_lt_of_le hs.out (by rw [← hW1]; exact ((Below.refl 0 W).setCell (p := ⟨w.heap.size, 0, none⟩) (Nat.zero_le _) _).size)
  obtain ⟨⟨d0, d1, d2, d3⟩, d4, d5, d6, d7⟩ := row_eight Hx1.out
  have H0 := Lib.hid h
  have H1 := Lib.hid (tell_any p B vo n F (by omega) 2 tx th ob op ke va re W1 v (h.below Hb1.out))
  clear h
  go_enter Try.func48, Try.ntmps48
  go_wp2_with (first
    | (go_at_call 47; refine H1.out.mono ?_; rintro e w2 ⟨v2, rfl, h2⟩
       have HX2 : Hid (w2.heap[w.heap.size]? = some (.cells #[.int .i64 2, .int .i64 tx, .int .i64 th, .int .i64 ob, .int .i64 op, .int .i64 ke, .int .i64 va, .int .i64 re] 41)) := (h2.out.2.block w.heap.size hs1.out (fun e => by have h3 := H0.out.lt; have h4 := H0.out.le; omega) (fun e => by have h3 := (H0.out.row.lt _ e.symm).2; omega)).trans Hx1.out
       obtain ⟨⟨-, c1, -⟩, -⟩ := row_eight HX2.out
       have H2 := Lib.hid (tell_any p B vo (n + 1) _ (by omega) 3 tx 0 0 0 0 val ret w2 _ h2.out.1)
       clear H1)
    | (go_at_call 47; refine H2.out.mono ?_; rintro e w3 ⟨v3, rfl, h3⟩))
  refine bodyPost_end (results_none rfl _ _ _) rfl ?_
  refine ⟨v3, rfl, ?_⟩
  have e1 : F ++ [2, tx, th, ob, op, ke, va, re, 3, tx, 0, 0, 0, 0, val, ret] = F ++ [2, tx, th, ob, op, ke, va, re] ++ [3, tx, 0, 0, 0, 0, val, ret] := by simp
  rw [e1]
  exact ⟨h3.out.1, ((Told.of Hb1.out).trans h2.out.2).trans h3.out.2⟩

theorem read_any (p B : Nat) (vo : Value) (n : Nat) (F : List Int) (hn : n ≤ 999) (tx ob val : Int) (w : World) (v : Value) (h : BdAt p B vo n F v w) :
    Calls Try.prog 28 #[.pointer (some ⟨p, 0, none⟩), .int .i64 tx, .int .i64 ob, .int .i64 val] w (BdRes p B vo n 2 F [2, tx, 0, ob, 1, 0, 0, 0, 3, tx, 0, 0, 0, 0, val, 3] v w) := by
  have H := Lib.hid (call_any p B vo n F hn 0 tx 0 ob 1 0 0 0 3 val w v h)
  clear h
  go_enter Try.func28, Try.ntmps28
  go_wp2_with (first | (go_at_call 48; refine H.out.mono ?_; rintro e w2 ⟨v2, rfl, h2⟩))
  refine bodyPost_end (results_none rfl _ _ _) rfl ?_
  exact ⟨_, rfl, h2.out⟩
theorem write_any (p B : Nat) (vo : Value) (n : Nat) (F : List Int) (hn : n ≤ 999) (tx ob val : Int) (w : World) (v : Value) (h : BdAt p B vo n F v w) :
    Calls Try.prog 29 #[.pointer (some ⟨p, 0, none⟩), .int .i64 tx, .int .i64 ob, .int .i64 val] w (BdRes p B vo n 2 F [2, tx, 0, ob, 2, 0, val, 0, 3, tx, 0, 0, 0, 0, 0, 1] v w) := by
  have H := Lib.hid (call_any p B vo n F hn 0 tx 0 ob 2 0 val 0 1 0 w v h)
  clear h
  go_enter Try.func29, Try.ntmps29
  go_wp2_with (first | (go_at_call 48; refine H.out.mono ?_; rintro e w2 ⟨v2, rfl, h2⟩))
  refine bodyPost_end (results_none rfl _ _ _) rfl ?_
  exact ⟨_, rfl, h2.out⟩
theorem commit_any (p B : Nat) (vo : Value) (n : Nat) (F : List Int) (hn : n ≤ 999) (tx : Int) (w : World) (v : Value) (h : BdAt p B vo n F v w) :
    Calls Try.prog 30 #[.pointer (some ⟨p, 0, none⟩), .int .i64 tx] w (BdRes p B vo n 2 F [4, tx, 0, 0, 0, 0, 0, 0, 5, tx, 0, 0, 0, 0, 0, 0] v w) := by
  have H1 := Lib.hid (tell_any p B vo n F (by omega) 4 tx 0 0 0 0 0 0 w v h)
  clear h
  go_enter Try.func30, Try.ntmps30
  go_wp2_with (first
    | (go_at_call 47; refine H1.out.mono ?_; rintro e w2 ⟨v2, rfl, h2⟩
       have H2 := Lib.hid (tell_any p B vo (n + 1) _ (by omega) 5 tx 0 0 0 0 0 0 w2 _ h2.out.1)
       clear H1)
    | (go_at_call 47; refine H2.out.mono ?_; rintro e w3 ⟨v3, rfl, h3⟩))
  refine bodyPost_end (results_none rfl _ _ _) rfl ?_
  refine ⟨v3, rfl, ?_⟩
  have e1 : F ++ [4, tx, 0, 0, 0, 0, 0, 0, 5, tx, 0, 0, 0, 0, 0, 0] = F ++ [4, tx, 0, 0, 0, 0, 0, 0] ++ [5, tx, 0, 0, 0, 0, 0, 0] := by simp
  rw [e1]
  exact ⟨h3.out.1, h2.out.2.trans h3.out.2⟩
end Go.Proofs.Ytdemoikadojepaa
