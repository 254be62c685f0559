/- Lists that never change: At, of states. -/
import Derived.Test.YtcjfcomadcebnaaGreatDoorLp
import Derived.Laws.ResultCell
namespace Go.Proofs.YtcjfcomadcebnaaGreatDoor
open Go.RowKit Go.Maps Go.WideMaps Go.WideElems Go.ChangeShapes Go.WideShapes

/-- A row of three, written cell by cell. -/
theorem row_set3 {W : World} {g : Nat} {x y z : Value} {t : TypeId} (h : W.heap[g]? = some (.cells #[x, y, z] t)) (p q r : Value) :
    (W.cell? ⟨g, 0, none⟩ = some x ∧ W.frozen? ⟨g, 0, none⟩ = false) ∧
    ((W.setCell ⟨g, 0, none⟩ p).cell? ⟨g, 1, none⟩ = some y ∧ (W.setCell ⟨g, 0, none⟩ p).frozen? ⟨g, 1, none⟩ = false) ∧
    (((W.setCell ⟨g, 0, none⟩ p).setCell ⟨g, 1, none⟩ q).cell? ⟨g, 2, none⟩ = some z ∧ ((W.setCell ⟨g, 0, none⟩ p).setCell ⟨g, 1, none⟩ q).frozen? ⟨g, 2, none⟩ = false) ∧
    (((W.setCell ⟨g, 0, none⟩ p).setCell ⟨g, 1, none⟩ q).setCell ⟨g, 2, none⟩ r).heap[g]? = some (.cells #[p, q, r] t) := by
  have h1 : (W.setCell ⟨g, 0, none⟩ p).heap[g]? = some (.cells #[p, y, z] t) := heap_setCell_same W g 0 _ t p h
  have h2 : ((W.setCell ⟨g, 0, none⟩ p).setCell ⟨g, 1, none⟩ q).heap[g]? = some (.cells #[p, q, z] t) := heap_setCell_same _ g 1 _ t q h1
  have h3 : (((W.setCell ⟨g, 0, none⟩ p).setCell ⟨g, 1, none⟩ q).setCell ⟨g, 2, none⟩ r).heap[g]? = some (.cells #[p, q, r] t) := heap_setCell_same _ g 2 _ t r h2
  exact ⟨⟨(row_three h).1, frozen_of_row _ g 0 _ t h⟩, ⟨(row_three h1).2.1, frozen_of_row _ g 1 _ t h1⟩, ⟨(row_three h2).2.2, frozen_of_row _ g 2 _ t h2⟩, h3⟩
theorem results_row_tmp {P : Program} {fn : Func} {p u : Tmp} {ty : TypeId} (h : fn.results = #[.cell p ty, .tmp u]) (tmps : Array Value) (w : World) (g : Nat) (t : TypeId) (cs : Array Value) (fr : Nat × Nat) (d : TypeDesc)
    (hp : tmps.getD p undef = .pointer (some ⟨g, 0, none⟩)) (hg : w.heap[g]? = some (.cells cs t fr))
    (hu : P.underlying ty = some d) (hd : (match d with | .struct _ | .array _ _ => true | _ => false) = true) (hi : (P.info? ty).map (·.size) = some cs.size) :
    (results fn tmps).run P w = .ok (.tuple #[.agg cs, tmps.getD u undef]) w := by
  rw [results_cell_tmp h, hp]
  simp [asAddr, run_loadVar_row w g t ty cs fr d hg hu hd hi, Result.andThen]
theorem box_new13 (w : World) (t : TypeId) (v : Value) (p q r : Value) (s : TypeId) : ∃ W1 W, w.alloc (.cells #[v] t) = W1 ∧ W1.alloc (.cells #[p, q, r] s) = W ∧ Hid (Below w.heap.size w W) ∧ Hid (w.heap.size < W1.heap.size) ∧ Hid (W1.heap.size < W.heap.size) ∧ Hid (Boxed W w.heap.size t v) ∧ Hid (W.heap[W1.heap.size]? = some (.cells #[p, q, r] s)) := by
  obtain ⟨W1, h1, Hb, hs, Hx⟩ := box_new w t v
  obtain ⟨W, h2, Hb2, hs2, Hy⟩ := cells_new W1 #[p, q, r] s
  exact ⟨W1, W, h1, h2, Hb.out.trans (Hb2.out.mono Hb.out.size), hs, hs2, boxed_below Hx.out Hb2.out hs.out, Hy⟩

set_option maxHeartbeats 1000000 in
set_option maxRecDepth 100000 in
theorem at_sta_in (a : Option Addr) (n c : Nat) (xs : List Value) (k : Nat) (hk : k < n) (p q : Int) (r : ByteArray) (hp : xs[k * 3]? = some (.int .i64 p)) (hq : xs[k * 3 + 1]? = some (.int .i64 q)) (hr : xs[k * 3 + 2]? = some (.string r)) (w : World) (h : SlAt w a xs) :
    Calls Tryz.prog 38 #[.agg #[.slice a n c], .int .i64 k] w fun e w' => e = .returned (.tuple #[.agg #[.int .i64 p, .int .i64 q, .string r], .bool true]) ∧ Hid (Below w.heap.size w w') := by
  obtain ⟨W1, W, hW1, hW, Hb, hs1, hs2, Hx, Hp⟩ := box_new13 w 27 (.slice a n c) (.int .i64 0) (.int .i64 0) (.string ⟨#[]⟩) 34
  have hs := Lib.hid (Nat.lt_trans hs1.out hs2.out)
  have hc0 := Hx.out.cell
  have Hh := Lib.hid (has_sta a n c k W)
  have e1 : (decide (0 ≤ (k : Int)) && decide ((k : Int) < (n : Int))) = true := by simp [hk]
  rw [e1] at Hh
  rcases h with ⟨_, h0⟩ | ⟨b, off, rfl, hbl, hc⟩
  · rw [h0] at hp; simp at hp
  have hb : b < w.heap.size := hbl (by intro e; rw [e] at hp; simp at hp)
  have u0 := Lib.hid ((Hb.out.cell (p := ⟨b, off + k * 3, none⟩) hb).trans (hc _ _ hp))
  have u1 := Lib.hid ((Hb.out.cell (p := ⟨b, off + (k * 3 + 1), none⟩) hb).trans (hc _ _ hq))
  have u2 := Lib.hid ((Hb.out.cell (p := ⟨b, off + (k * 3 + 2), none⟩) hb).trans (hc _ _ hr))
  have hbW := Lib.hid (Nat.lt_trans hb hs.out)
  clear hbl hc hp hq hr hb e1
  go_enter Tryz.func38, Tryz.ntmps38
  go_wp2_with (first | (go_at_call 61; refine Hh.out.mono ?_; rintro e w2 ⟨rfl, h2⟩; have hc2 := (boxed_below Hx.out h2.out hs.out).cell; have v0 := (h2.out.cell (p := ⟨b, off + k * 3, none⟩) hbW.out).trans u0.out; have v1 : w2.cell? ⟨b, off + k * 3 + 1, none⟩ = some (.int .i64 q) := (h2.out.cell (p := ⟨b, off + (k * 3 + 1), none⟩) hbW.out).trans u1.out; have v2 : w2.cell? ⟨b, off + k * 3 + 2, none⟩ = some (.string r) := (h2.out.cell (p := ⟨b, off + (k * 3 + 2), none⟩) hbW.out).trans u2.out; obtain ⟨⟨s0, f0⟩, ⟨s1, f1⟩, ⟨s2, f2⟩, hfin⟩ := row_set3 ((h2.out.block _ hs2.out).trans Hp.out) (.int .i64 p) (.int .i64 q) (.string r); have Hfin := Lib.hid hfin; clear hfin))
  refine bodyPost_ret (results_row_tmp rfl _ _ W1.heap.size 34 #[.int .i64 p, .int .i64 q, .string r] (0, 0) _ rfl Hfin.out Tryz.underlying34 rfl (by kernel_rfl)) rfl ?_
  exact ⟨rfl, (((Hb.out.trans (h2.out.mono Hb.out.size)).setCell (p := ⟨W1.heap.size, 0, none⟩) (Nat.le_of_lt hs1.out) _).setCell (p := ⟨W1.heap.size, 1, none⟩) (Nat.le_of_lt hs1.out) _).setCell (p := ⟨W1.heap.size, 2, none⟩) (Nat.le_of_lt hs1.out) _⟩

set_option maxHeartbeats 1000000 in
set_option maxRecDepth 100000 in
theorem at_sta_out (a : Option Addr) (n c : Nat) (i : Int) (hi : ¬(0 ≤ i ∧ i < n)) (w : World) :
    Calls Tryz.prog 38 #[.agg #[.slice a n c], .int .i64 i] w fun e w' => e = .returned (.tuple #[.agg #[.int .i64 0, .int .i64 0, .string ⟨#[]⟩], .bool false]) ∧ Hid (Below w.heap.size w w') := by
  obtain ⟨W1, W, hW1, hW, Hb, hs1, hs2, Hx, Hp⟩ := box_new13 w 27 (.slice a n c) (.int .i64 0) (.int .i64 0) (.string ⟨#[]⟩) 34
  have hs := Lib.hid (Nat.lt_trans hs1.out hs2.out)
  have hc0 := Hx.out.cell
  have Hh := Lib.hid (has_sta a n c i W)
  have e1 : (decide (0 ≤ i) && decide (i < (n : Int))) = false := by simpa using hi
  rw [e1] at Hh
  clear hi e1
  go_enter Tryz.func38, Tryz.ntmps38
  go_wp2_with (first | (go_at_call 61; refine Hh.out.mono ?_; rintro e w2 ⟨rfl, h2⟩; have hc2 := (boxed_below Hx.out h2.out hs.out).cell; obtain ⟨W3, hW3, Hb3, hs3, Hq⟩ := cells_new w2 #[.int .i64 0, .int .i64 0, .string ⟨#[]⟩] 34; obtain ⟨y0, y1, y2⟩ := row_three Hq.out; have HP := Lib.hid ((Hb3.out.block _ (Nat.lt_of_lt_of_le hs2.out h2.out.size)).trans ((h2.out.block _ hs2.out).trans Hp.out)); obtain ⟨⟨s0, f0⟩, ⟨s1, f1⟩, ⟨s2, f2⟩, hfin⟩ := row_set3 HP.out (.int .i64 0) (.int .i64 0) (.string ⟨#[]⟩); have Hfin := Lib.hid hfin; clear hfin))
  refine bodyPost_ret (results_row_tmp rfl _ _ W1.heap.size 34 #[.int .i64 0, .int .i64 0, .string ⟨#[]⟩] (0, 0) _ rfl Hfin.out Tryz.underlying34 rfl (by kernel_rfl)) rfl ?_
  exact ⟨rfl, (((Hb.out.trans ((h2.out.mono Hb.out.size).trans (Hb3.out.mono (Nat.le_trans Hb.out.size h2.out.size)))).setCell (p := ⟨W1.heap.size, 0, none⟩) (Nat.le_of_lt hs1.out) _).setCell (p := ⟨W1.heap.size, 1, none⟩) (Nat.le_of_lt hs1.out) _).setCell (p := ⟨W1.heap.size, 2, none⟩) (Nat.le_of_lt hs1.out) _⟩
end Go.Proofs.YtcjfcomadcebnaaGreatDoor
