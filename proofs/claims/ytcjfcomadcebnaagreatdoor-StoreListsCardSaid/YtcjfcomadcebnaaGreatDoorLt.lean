/- Lists that never change: With, of states. -/
import Derived.Test.YtcjfcomadcebnaaGreatDoorLs
namespace Go.Proofs.YtcjfcomadcebnaaGreatDoor
open Go.RowKit Go.Maps Go.WideMaps Go.WideElems Go.ChangeShapes Go.WideShapes

/-- An element of three cells of a row of one's own, written cell by cell. -/
theorem own_set3 {W : World} {B g n c o : Nat} {e : TypeId} {size : Nat} {xs : List Value} (h : W.ownsRow B e size (.slice (some ⟨g, 0, none⟩) n c) n xs) (ho : o + 2 < xs.length) (p q r : Value) :
    (∃ u, W.cell? ⟨g, o, none⟩ = some u ∧ W.frozen? ⟨g, o, none⟩ = false) ∧
    (∃ u, (W.setCell ⟨g, o, none⟩ p).cell? ⟨g, o + 1, none⟩ = some u ∧ (W.setCell ⟨g, o, none⟩ p).frozen? ⟨g, o + 1, none⟩ = false) ∧
    (∃ u, ((W.setCell ⟨g, o, none⟩ p).setCell ⟨g, o + 1, none⟩ q).cell? ⟨g, o + 2, none⟩ = some u ∧ ((W.setCell ⟨g, o, none⟩ p).setCell ⟨g, o + 1, none⟩ q).frozen? ⟨g, o + 2, none⟩ = false) ∧
    (((W.setCell ⟨g, o, none⟩ p).setCell ⟨g, o + 1, none⟩ q).setCell ⟨g, o + 2, none⟩ r).ownsRow B e size (.slice (some ⟨g, 0, none⟩) n c) n (((xs.set o p).set (o + 1) q).set (o + 2) r) := by
  have cell : ∀ {W : World} {xs : List Value}, W.ownsRow B e size (.slice (some ⟨g, 0, none⟩) n c) n xs → ∀ j, j < xs.length → ∃ u, W.cell? ⟨g, j, none⟩ = some u ∧ W.frozen? ⟨g, j, none⟩ = false := by
    intro W xs h j hj
    have hc := h.cells (g := g) rfl j _ (List.getElem?_eq_getElem hj)
    rw [Addr.add_lit, Nat.zero_add] at hc
    exact ⟨_, hc, h.frozenAt j⟩
  have h1 := (h.stored o p).1
  have h2 := (h1.stored (o + 1) q).1
  have h3 := (h2.stored (o + 2) r).1
  exact ⟨cell h o (by omega), cell h1 (o + 1) (by simp; omega), cell h2 (o + 2) (by simp; omega), h3⟩

set_option maxHeartbeats 1000000 in
set_option maxRecDepth 100000 in
theorem with_sta_in (a : Option Addr) (n c : Nat) (xs : List Value) (hx : xs.length = n * 3) (h1 : ∀ u ∈ xs, u.oneCell' = true) (hn : n ≤ 1000000) (k : Nat) (hk : k < n) (p q : Int) (r : ByteArray) (w : World) (h : SlAt w a xs) :
    Calls Tryz.prog 50 #[.agg #[.slice a n c], .int .i64 k, .agg #[.int .i64 p, .int .i64 q, .string r]] w fun e w' => ∃ v', e = .returned (.agg #[v']) ∧ Hid (w'.ownsRow w.heap.size 34 3 v' n (((xs.set (k * 3) (.int .i64 p)).set (k * 3 + 1) (.int .i64 q)).set (k * 3 + 2) (.string r)) ∧ Below w.heap.size w w') := by
  obtain ⟨W0, W1, W, hW0, hW1, hW, Hb, hs0, hs01, hs, Hx, Hp, Hy⟩ := box_new3 w 27 27 (.slice a n c) (.slice none 0 0) (.int .i64 p) (.int .i64 q) (.string r) 34
  have hs1 := Lib.hid (Nat.lt_trans hs0.out hs01.out)
  have hc0 := Hx.out.cell
  have Hh := Lib.hid (has_sta a n c k W)
  have e1 : (decide (0 ≤ (k : Int)) && decide ((k : Int) < (n : Int))) = true := by simp [hk]
  rw [e1] at Hh
  have Ha := Lib.hid (fun W' (hb : Below w.heap.size w W') => all_sta a n c xs hx h1 hn W' (h.below hb))
  have Hl := Lib.hid hx
  clear hx h1 h e1
  go_enter Tryz.func50, Tryz.ntmps50
  go_wp2_with (first
    | (go_at_call 61; refine Hh.out.mono ?_; rintro e w2 ⟨rfl, h2⟩; have hc2 := (boxed_below Hx.out h2.out (Nat.lt_trans hs1.out hs.out)).cell; have Hy2 := Lib.hid (boxed_below Hy.out h2.out hs.out); have Hp2 := Lib.hid ((h2.out.block _ (Nat.lt_trans hs01.out hs.out)).trans Hp.out); have Hb2 := Lib.hid (Hb.out.trans (h2.out.mono Hb.out.size)); have hs2 := Lib.hid (Nat.lt_of_lt_of_le hs.out h2.out.size))
    | (go_at_call 67; refine (Ha.out _ Hb2.out).mono ?_; rintro e w3 ⟨v', rfl, h3⟩; obtain ⟨g, c3, rfl, hg, -⟩ := row_pos h3.out.1 (by omega); have Hg := Lib.hid hg; clear hg; obtain ⟨⟨u0, z0, f0⟩, ⟨u1, z1, f1⟩, ⟨u2, z2, f2⟩, hown⟩ := own_set3 h3.out.1 (o := k * 3) (by rw [Hl.out]; omega) (.int .i64 p) (.int .i64 q) (.string r); have Hown := Lib.hid hown; clear hown; obtain ⟨x0, x1, x2⟩ := row_three ((h3.out.2.block _ (Nat.lt_trans hs01.out hs2.out)).trans Hp2.out); have Hy3 := Lib.hid (boxed_below Hy2.out h3.out.2 hs2.out); have hne : g ≠ W1.heap.size := (by have h8 := Hg.out; have h9 := hs2.out; omega); have Hy4 := Lib.hid (boxed_setCell (boxed_setCell (boxed_setCell Hy3.out (p := ⟨g, k * 3, none⟩) hne (.int .i64 p)) (p := ⟨g, k * 3 + 1, none⟩) hne (.int .i64 q)) (p := ⟨g, k * 3 + 2, none⟩) hne (.string r)); have hy4 := Hy4.out.cell; have hyf := Hy4.out.frozen))
  refine bodyPost_ret (results_cell_row rfl _ _ W1.heap.size 27 #[.slice (some ⟨g, 0, none⟩) n c3] (0, 0) _ rfl (Hy4.out.set _) Tryz.underlying27 rfl (by kernel_rfl)) rfl ?_
  have hge : w.heap.size ≤ g := Nat.le_trans (Nat.le_of_lt (Nat.lt_trans hs1.out hs2.out)) Hg.out
  exact ⟨_, rfl, row_base (ownsRow_setCell_below Hown.out hs2.out _) (Nat.le_of_lt (Nat.lt_trans hs1.out hs2.out)), ((((Hb2.out.trans (h3.out.2.mono Hb2.out.size)).setCell (p := ⟨g, k * 3, none⟩) hge _).setCell (p := ⟨g, k * 3 + 1, none⟩) hge _).setCell (p := ⟨g, k * 3 + 2, none⟩) hge _).setCell (p := ⟨W1.heap.size, 0, none⟩) (Nat.le_of_lt hs1.out) _⟩

set_option maxRecDepth 100000 in
theorem with_sta_out (a : Option Addr) (n c : Nat) (i : Int) (hi : ¬(0 ≤ i ∧ i < n)) (p q : Int) (r : ByteArray) (w : World) :
    Calls Tryz.prog 50 #[.agg #[.slice a n c], .int .i64 i, .agg #[.int .i64 p, .int .i64 q, .string r]] w fun e w' => e = .returned (.agg #[.slice a n c]) ∧ Hid (Below w.heap.size w w') := by
  obtain ⟨W0, W1, W, hW0, hW1, hW, Hb, hs0, hs01, hs, Hx, Hp, Hy⟩ := box_new3 w 27 27 (.slice a n c) (.slice none 0 0) (.int .i64 p) (.int .i64 q) (.string r) 34
  have hs1 := Lib.hid (Nat.lt_trans hs0.out hs01.out)
  have hc0 := Hx.out.cell
  have Hh := Lib.hid (has_sta a n c i W)
  have e1 : (decide (0 ≤ i) && decide (i < (n : Int))) = false := by simpa using hi
  rw [e1] at Hh
  clear hi e1
  go_enter Tryz.func50, Tryz.ntmps50
  go_wp2_with (first
    | (go_at_call 61; refine Hh.out.mono ?_; rintro e w2 ⟨rfl, h2⟩; have hc2 := (boxed_below Hx.out h2.out (Nat.lt_trans hs1.out hs.out)).cell; have Hy2 := Lib.hid (boxed_below Hy.out h2.out hs.out); have Hb2 := Lib.hid (Hb.out.trans (h2.out.mono Hb.out.size)); have hy2 := Hy2.out.cell; have hyf := Hy2.out.frozen))
  refine bodyPost_ret (results_cell_row rfl _ _ W1.heap.size 27 #[.slice a n c] (0, 0) _ rfl (Hy2.out.set _) Tryz.underlying27 rfl (by kernel_rfl)) rfl ?_
  exact ⟨rfl, Hb2.out.setCell (p := ⟨W1.heap.size, 0, none⟩) (Nat.le_of_lt hs1.out) _⟩
end Go.Proofs.YtcjfcomadcebnaaGreatDoor
