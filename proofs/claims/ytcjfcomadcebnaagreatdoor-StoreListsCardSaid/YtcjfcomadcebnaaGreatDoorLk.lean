/- Lists that never change: Of, At, With, And, of numbers. -/
import Derived.Test.YtcjfcomadcebnaaGreatDoorLi
import Derived.Laws.OwnMore
import Derived.Laws.Rows
namespace Go.Proofs.YtcjfcomadcebnaaGreatDoor
open Go.RowKit Go.Maps Go.WideMaps Go.WideElems Go.ChangeShapes Go.WideShapes

theorem row_base {W : World} {B B' : Nat} {e : TypeId} {size n : Nat} {v : Value} {xs : List Value} (h : W.ownsRow B e size v n xs) (hB : B' ≤ B) : W.ownsRow B' e size v n xs :=
  ⟨h.1, h.2.imp id fun ⟨g, cap, cur, e, hb, r⟩ => ⟨g, cap, cur, e, Nat.le_trans hB hb, r⟩⟩
theorem boxed_below {W W' : World} {B B0 : Nat} {t : TypeId} {v : Value} (h : Boxed W B t v) (hb : Below B0 W W') (hB : B < B0) : Boxed W' B t v := (hb.block B hB).trans h
/-- A new box. -/
theorem box_new (w : World) (t : TypeId) (v : Value) : ∃ W, w.alloc (.cells #[v] t) = W ∧ Hid (Below w.heap.size w W) ∧ Hid (w.heap.size < W.heap.size) ∧ Hid (Boxed W w.heap.size t v) := by
  refine ⟨_, rfl, (Below.refl _ _).alloc (Nat.le_refl _) _, ?_, Boxed.new w t v⟩
  show _ < _
  simp

set_option maxRecDepth 100000 in
theorem of_int (a : Option Addr) (n c : Nat) (xs : List Value) (hx : xs.length = n * 1) (h1 : ∀ u ∈ xs, u.oneCell' = true) (hn : n ≤ 1000000) (w : World) (h : SlAt w a xs) :
    Calls Tryz.prog 22 #[.slice a n c] w fun e w' => ∃ v', e = .returned (.agg #[v']) ∧ Hid (w'.ownsRow w.heap.size 3 1 v' n xs ∧ Below w.heap.size w w') := by
  obtain ⟨W, hW, Hb, hs, Hx⟩ := box_new w 54 (.slice none 0 0)
  have Hcl := Lib.hid (clone_int a n c xs hx h1 hn W (h.below Hb.out))
  clear hx h1 hn h
  go_enter Tryz.func22, Tryz.ntmps22
  go_wp2_with (first | (go_at_call 46; refine Hcl.out.mono ?_; rintro e w2 ⟨v', rfl, h2⟩; obtain ⟨a2, c2, rfl, -, -⟩ := row_sl h2.out.1; have HX := Lib.hid (boxed_below Hx.out h2.out.2 hs.out); have hc2 := HX.out.cell; have hf2 := HX.out.frozen))
  refine bodyPost_ret (results_cell_row rfl _ _ w.heap.size 54 #[.slice a2 n c2] (0, 0) _ rfl (HX.out.set _) Tryz.underlying54 rfl (by kernel_rfl)) rfl ?_
  exact ⟨_, rfl, row_base (ownsRow_setCell_below h2.out.1 hs.out _) (Nat.le_of_lt hs.out), (Hb.out.trans (h2.out.2.mono Hb.out.size)).setCell (Nat.le_refl _) _⟩

set_option maxRecDepth 100000 in
theorem at_int (a : Option Addr) (n c : Nat) (zs : List Int) (hx : zs.length = n) (_hn : n ≤ 1000000) (i : Int) (w : World) (h : SlAt w a (zs.map (Value.int .i64))) :
    Calls Tryz.prog 25 #[.agg #[.slice a n c], .int .i64 i] w fun e w' => e = .returned (.tuple #[.int .i64 (if 0 ≤ i ∧ i < n then zs.getD i.toNat 0 else 0), .bool (decide (0 ≤ i) && decide (i < n))]) ∧ Hid (Below w.heap.size w w') := by
  obtain ⟨W, hW, Hb, hs, Hx⟩ := box_new w 54 (.slice a n c)
  have hc0 := Hx.out.cell
  have Hh := Lib.hid (has_int a n c i W)
  by_cases hi : 0 ≤ i ∧ i < n
  · rw [if_pos hi]
    have e1 : (decide (0 ≤ i) && decide (i < (n : Int))) = true := by simp [hi]
    rw [e1] at Hh ⊢
    obtain ⟨k, rfl⟩ : ∃ k : Nat, i = k := ⟨i.toNat, by omega⟩
    have hk : k < n := by omega
    rcases h with ⟨_, h0⟩ | ⟨b, off, rfl, hbl, hc⟩
    · exfalso
      have : zs = [] := by simpa using h0
      subst this; simp at hx; omega
    have hu : w.cell? ⟨b, off + k, none⟩ = some (.int .i64 (zs.getD k 0)) := hc k _ (by simp [hx, hk])
    have hb : b < w.heap.size := World.block_lt_of_cell? w _ hu
    have hu2 := Lib.hid ((Hb.out.cell (p := ⟨b, off + k, none⟩) hb).trans hu)
    simp only [Int.toNat_natCast]
    generalize hy : zs.getD k 0 = y at *
    have hbW := Lib.hid (Nat.lt_trans hb hs.out)
    clear hu hbl hc hy hb hx
    go_enter Tryz.func25, Tryz.ntmps25
    go_wp2_with (first | (go_at_call 47; refine Hh.out.mono ?_; rintro e w2 ⟨rfl, h2⟩; have hc2 := (boxed_below Hx.out h2.out hs.out).cell; have hu3 := (h2.out.cell (p := ⟨b, off + k, none⟩) hbW.out).trans hu2.out))
    go_ret2
    exact ⟨rfl, Hb.out.trans (h2.out.mono Hb.out.size)⟩
  · rw [if_neg hi]
    have e1 : (decide (0 ≤ i) && decide (i < (n : Int))) = false := by simpa using hi
    rw [e1] at Hh ⊢
    clear hi e1 h hx
    go_enter Tryz.func25, Tryz.ntmps25
    go_wp2_with (first | (go_at_call 47; refine Hh.out.mono ?_; rintro e w2 ⟨rfl, h2⟩; have hc2 := (boxed_below Hx.out h2.out hs.out).cell))
    go_ret2
    first | exact ⟨rfl, Hb.out.trans (h2.out.mono Hb.out.size)⟩ | exact ⟨rfl, (Hb.out.trans (h2.out.mono Hb.out.size)).alloc (Nat.le_trans Hb.out.size h2.out.size) _⟩

theorem row_pos {W : World} {B : Nat} {e : TypeId} {size n : Nat} {v : Value} {xs : List Value} (h : W.ownsRow B e size v n xs) (hn : 0 < n) : ∃ g c, v = .slice (some ⟨g, 0, none⟩) n c ∧ B ≤ g ∧ g < W.heap.size := by
  rcases h.2 with ⟨_, h0⟩ | ⟨g, cap, cur, rfl, hb, hg, _⟩
  · omega
  · exact ⟨g, cap, rfl, hb, (Array.getElem?_eq_some_iff.1 hg).1⟩

theorem boxed_setCell {W : World} {B : Nat} {t : TypeId} {v : Value} (h : Boxed W B t v) {p : Addr} (hp : p.block ≠ B) (u : Value) : Boxed (W.setCell p u) B t v := (Below.heap_setCell W p u B (fun e => hp e.symm)).trans h
/-- Two new boxes. -/
theorem box_new2 (w : World) (t u : TypeId) (v x : Value) : ∃ W1 W, w.alloc (.cells #[v] t) = W1 ∧ W1.alloc (.cells #[x] u) = W ∧ Hid (Below w.heap.size w W) ∧ Hid (w.heap.size < W1.heap.size) ∧ Hid (W1.heap.size < W.heap.size) ∧ Hid (Boxed W w.heap.size t v) ∧ Hid (Boxed W W1.heap.size u x) := by
  obtain ⟨W1, h1, Hb, hs, Hx⟩ := box_new w t v
  obtain ⟨W, h2, Hb2, hs2, Hy⟩ := box_new W1 u x
  exact ⟨W1, W, h1, h2, Hb.out.trans (Hb2.out.mono Hb.out.size), hs, hs2, boxed_below Hx.out Hb2.out hs.out, Hy⟩

set_option maxHeartbeats 1000000 in
set_option maxRecDepth 100000 in
theorem with_int_in (a : Option Addr) (n c : Nat) (xs : List Value) (hx : xs.length = n * 1) (h1 : ∀ u ∈ xs, u.oneCell' = true) (hn : n ≤ 1000000) (k : Nat) (hk : k < n) (x : Int) (w : World) (h : SlAt w a xs) :
    Calls Tryz.prog 23 #[.agg #[.slice a n c], .int .i64 k, .int .i64 x] w fun e w' => ∃ v', e = .returned (.agg #[v']) ∧ Hid (w'.ownsRow w.heap.size 3 1 v' n (xs.set k (.int .i64 x)) ∧ Below w.heap.size w w') := by
  obtain ⟨W1, W, hW1, hW, Hb, hs1, hs, Hx, Hy⟩ := box_new2 w 54 54 (.slice a n c) (.slice none 0 0)
  have hc0 := Hx.out.cell
  have Hh := Lib.hid (has_int a n c k W)
  have e1 : (decide (0 ≤ (k : Int)) && decide ((k : Int) < (n : Int))) = true := by simp [hk]
  rw [e1] at Hh
  have Ha := Lib.hid (fun W' (hb : Below w.heap.size w W') => all_int a n c xs hx h1 hn W' (h.below hb))
  have Hl := Lib.hid hx
  clear hx h1 h e1
  go_enter Tryz.func23, Tryz.ntmps23
  go_wp2_with (first
    | (go_at_call 47; refine Hh.out.mono ?_; rintro e w2 ⟨rfl, h2⟩; have hc2 := (boxed_below Hx.out h2.out (Nat.lt_trans hs1.out hs.out)).cell; have Hy2 := Lib.hid (boxed_below Hy.out h2.out hs.out); have Hb2 := Lib.hid (Hb.out.trans (h2.out.mono Hb.out.size)); have hs2 := Lib.hid (Nat.lt_of_lt_of_le hs.out h2.out.size))
    | (go_at_call 26; refine (Ha.out _ Hb2.out).mono ?_; rintro e w3 ⟨v', rfl, h3⟩; obtain ⟨g, c3, rfl, hg, -⟩ := row_pos h3.out.1 (by omega); have Hg := Lib.hid hg; clear hg; have hz := h3.out.1.frozenAt k; have Hy3 := Lib.hid (boxed_below Hy2.out h3.out.2 hs2.out); have Hy4 := Lib.hid (boxed_setCell Hy3.out (p := ⟨g, k, none⟩) (by have h8 := Hg.out; have h9 := hs2.out; show g ≠ _; omega) (.int .i64 x)); have hy3 := Hy4.out.cell; have hyf := Hy4.out.frozen; obtain ⟨u0, hu0⟩ : ∃ u0, xs[k]? = some u0 := ⟨_, List.getElem?_eq_getElem (by rw [Hl.out]; omega)⟩; have hu1 := h3.out.1.cells (g := g) rfl k _ hu0; rw [Addr.add_lit, Nat.zero_add] at hu1; clear hu0))
  refine bodyPost_ret (results_cell_row rfl _ _ W1.heap.size 54 #[.slice (some ⟨g, 0, none⟩) n c3] (0, 0) _ rfl (Hy4.out.set _) Tryz.underlying54 rfl (by kernel_rfl)) rfl ?_
  obtain ⟨hr, hgr⟩ := h3.out.1.stored k (.int .i64 x)
  have hge : w.heap.size ≤ g := Nat.le_trans (Nat.le_of_lt (Nat.lt_trans hs1.out hs2.out)) Hg.out
  exact ⟨_, rfl, row_base (ownsRow_setCell_below hr hs2.out _) (Nat.le_of_lt (Nat.lt_trans hs1.out hs2.out)), ((Hb2.out.trans (h3.out.2.mono Hb2.out.size)).setCell (p := ⟨g, k, none⟩) hge _).setCell (p := ⟨W1.heap.size, 0, none⟩) (Nat.le_of_lt hs1.out) _⟩

set_option maxRecDepth 100000 in
theorem with_int_out (a : Option Addr) (n c : Nat) (i : Int) (hi : ¬(0 ≤ i ∧ i < n)) (x : Int) (w : World) :
    Calls Tryz.prog 23 #[.agg #[.slice a n c], .int .i64 i, .int .i64 x] w fun e w' => e = .returned (.agg #[.slice a n c]) ∧ Hid (Below w.heap.size w w') := by
  obtain ⟨W1, W, hW1, hW, Hb, hs1, hs, Hx, Hy⟩ := box_new2 w 54 54 (.slice a n c) (.slice none 0 0)
  have hc0 := Hx.out.cell
  have Hh := Lib.hid (has_int a n c i W)
  have e1 : (decide (0 ≤ i) && decide (i < (n : Int))) = false := by simpa using hi
  rw [e1] at Hh
  clear hi e1
  go_enter Tryz.func23, Tryz.ntmps23
  go_wp2_with (first
    | (go_at_call 47; refine Hh.out.mono ?_; rintro e w2 ⟨rfl, h2⟩; have hc2 := (boxed_below Hx.out h2.out (Nat.lt_trans hs1.out hs.out)).cell; have Hy2 := Lib.hid (boxed_below Hy.out h2.out hs.out); have Hb2 := Lib.hid (Hb.out.trans (h2.out.mono Hb.out.size)); have hy2 := Hy2.out.cell; have hyf := Hy2.out.frozen))
  refine bodyPost_ret (results_cell_row rfl _ _ W1.heap.size 54 #[.slice a n c] (0, 0) _ rfl (Hy2.out.set _) Tryz.underlying54 rfl (by kernel_rfl)) rfl ?_
  exact ⟨rfl, Hb2.out.setCell (p := ⟨W1.heap.size, 0, none⟩) (Nat.le_of_lt hs1.out) _⟩
end Go.Proofs.YtcjfcomadcebnaaGreatDoor
