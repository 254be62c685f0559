/- Lists that never change: And, of states. -/
import Derived.Test.YtcjfcomadcebnaaGreatDoorLo
import Derived.Maps.AppendAt
namespace Go.Proofs.YtcjfcomadcebnaaGreatDoor
open Go.RowKit Go.Maps Go.WideMaps Go.WideElems Go.ChangeShapes Go.WideShapes

theorem row_three {W : World} {B : Nat} {x y z : Value} {t : TypeId} (h : W.heap[B]? = some (.cells #[x, y, z] t)) : W.cell? ⟨B, 0, none⟩ = some x ∧ W.cell? ⟨B, 1, none⟩ = some y ∧ W.cell? ⟨B, 2, none⟩ = some z := by simp [World.cell?, h]
theorem cells_three_new (w : World) (x y z : Value) (t : TypeId) : ∀ j u, [x, y, z][j]? = some u → (w.alloc (.cells #[x, y, z] t)).cell? ((⟨w.heap.size, 0, none⟩ : Addr).add j) = some u := by
  intro j u h
  rw [Addr.add_lit, Nat.zero_add]
  have hg : (w.alloc (.cells #[x, y, z] t)).heap[w.heap.size]? = some (.cells #[x, y, z] t) := World.alloc_heap_new w _
  obtain ⟨h0, h1, h2⟩ := row_three hg
  match j, h with
  | 0, h => simp at h; subst h; exact h0
  | 1, h => simp at h; subst h; exact h1
  | 2, h => simp at h; subst h; exact h2
  | (j + 3), h => simp at h

/-- A new row of cells. -/
theorem cells_new (w : World) (cs : Array Value) (t : TypeId) : ∃ W, w.alloc (.cells cs t) = W ∧ Hid (Below w.heap.size w W) ∧ Hid (w.heap.size < W.heap.size) ∧ Hid (W.heap[w.heap.size]? = some (.cells cs t)) := by
  refine ⟨_, rfl, (Below.refl _ _).alloc (Nat.le_refl _) _, ?_, World.alloc_heap_new w _⟩
  show _ < _
  simp
theorem box_new3 (w : World) (t u : TypeId) (v x : Value) (p q r : Value) (s : TypeId) : ∃ W1 W2 W, w.alloc (.cells #[v] t) = W1 ∧ W1.alloc (.cells #[p, q, r] s) = W2 ∧ W2.alloc (.cells #[x] u) = W ∧ Hid (Below w.heap.size w W) ∧ Hid (w.heap.size < W1.heap.size) ∧ Hid (W1.heap.size < W2.heap.size) ∧ Hid (W2.heap.size < W.heap.size) ∧ Hid (Boxed W w.heap.size t v) ∧ Hid (W.heap[W1.heap.size]? = some (.cells #[p, q, r] s)) ∧ Hid (Boxed W W2.heap.size u x) := by
  obtain ⟨W1, h1, Hb, hs, Hx⟩ := box_new w t v
  obtain ⟨W2, h2, Hb2, hs2, Hy⟩ := cells_new W1 #[p, q, r] s
  obtain ⟨W, h3, Hb3, hs3, Hz⟩ := box_new W2 u x
  have hl := Nat.le_trans Hb.out.size Hb2.out.size
  exact ⟨W1, W2, W, h1, h2, h3, (Hb.out.trans (Hb2.out.mono Hb.out.size)).trans (Hb3.out.mono hl), hs, hs2, hs3, boxed_below (boxed_below Hx.out Hb2.out hs.out) Hb3.out (Nat.lt_trans hs.out hs2.out), (Hb3.out.block _ hs2.out).trans Hy.out, Hz⟩

set_option maxHeartbeats 1000000 in
set_option maxRecDepth 100000 in
theorem and_sta (a : Option Addr) (n c : Nat) (xs : List Value) (hx : xs.length = n * 3) (h1 : ∀ u ∈ xs, u.oneCell' = true) (hn : n ≤ 1000000) (k0 n0 : Int) (v0 : ByteArray) (w : World) (h : SlAt w a xs) (hc : a = none → c = 0) :
    Calls Tryz.prog 55 #[.agg #[.slice a n c], .agg #[.int .i64 k0, .int .i64 n0, .string v0]] w fun e w' => ∃ v', e = .returned (.agg #[v']) ∧ Hid (w'.ownsRow w.heap.size 34 3 v' (n + 1) (xs ++ [.int .i64 k0, .int .i64 n0, .string v0]) ∧ Below w.heap.size w w') := by
  obtain ⟨i0, hi, hz0, hz1, hz2⟩ := info_parts (P := Tryz.prog) (e := 34) (z := .agg #[.int .i64 0, .int .i64 0, .string ⟨#[]⟩]) (size := 3) (bytes := 32) (by kernel_rfl)
  obtain ⟨W0, W1, W, hW0, hW1, hW, Hb, hs0, hs01, hs, Hx, Hp, Hy⟩ := box_new3 w 27 27 (.slice a n c) (.slice none 0 0) (.int .i64 k0) (.int .i64 n0) (.string v0) 34
  have hs1 := Lib.hid (Nat.lt_trans hs0.out hs01.out)
  have hc0 := Hx.out.cell
  have Hl := Lib.hid hx
  have H1 := Lib.hid h1
  have H := Lib.hid (h.below Hb.out)
  have H0 := Lib.hid (fun (ea : a = none) => show xs = [] ∧ n = 0 from by rcases h with ⟨_, h0⟩ | ⟨b, off, e, _⟩; (subst h0; exact ⟨rfl, by simp at hx; omega⟩); (rw [ea] at e; cases e))
  have Hc := Lib.hid hc
  have Hu : Hid (∀ u ∈ [Value.int .i64 k0, Value.int .i64 n0, Value.string v0], u.oneCell' = true) := by intro u hu; simp at hu; rcases hu with rfl | rfl | rfl <;> rfl
  clear hx h1 h hc
  go_enter Tryz.func55, Tryz.ntmps55
  go_wp2_with (at_make; refine wpList_make_own _ rfl _ _ 25 rfl W.heap.size 34 i0 (.agg #[.int .i64 0, .int .i64 0, .string ⟨#[]⟩]) 3 Tryz.underlying25 hi hz0 hz1 _ _ _ (n + 1) rfl rfl (by simp) (by rw [hz2]; omega) (by unfold maxLen; omega) (Nat.le_refl _) ?_)
  intro w1 hown1 hgrow1
  have Hw1 : Hid (Below W.heap.size W w1) := (Below.refl _ W).grown hgrow1 (Nat.le_refl _) (fun k hk => by cases hk)
  have Hs1 := Lib.hid Hw1.out.size
  have hc1 := (boxed_below Hx.out Hw1.out (Nat.lt_trans hs1.out hs.out)).cell
  have Hy1 := Lib.hid (boxed_below Hy.out Hw1.out hs.out)
  have HP1 : Hid (w1.heap[W0.heap.size]? = _) := (Hw1.out.block _ (Nat.lt_trans hs01.out hs.out)).trans Hp.out
  obtain ⟨hp0, hp1, hp2⟩ := row_three HP1.out
  have Hown1 := Lib.hid hown1
  clear hown1 hgrow1 hc0
  generalize Value.slice (some ⟨W.heap.size, 0, none⟩) 0 (n + 1) = v1 at *
  have Hn : Hid (n ≤ 1000000) := hn
  clear hn
  rcases H.out with ⟨rfl, -⟩ | ⟨b, off, rfl, hbl, hcl⟩
  · obtain ⟨rfl, rfl⟩ := H0.out rfl
    obtain rfl := Hc.out rfl
    have Hr1 : Hid (W.heap.size ≤ (w1.alloc (.cells #[.int .i64 k0, .int .i64 n0, .string v0] 34)).heap.size) := by show _ ≤ _; simp; exact Nat.le_trans Hs1.out (Nat.le_succ _)
    go_wp2_with (first
      | (at_builtin; refine wpList_append_own_none rfl _ _ 25 rfl W.heap.size 34 i0 3 Tryz.underlying25 hi v1 0 [] rfl Hown1.out rfl ?_)
      | (at_builtin; refine wpList_append_own _ rfl _ _ 25 rfl W.heap.size 34 i0 (.agg #[.int .i64 0, .int .i64 0, .string ⟨#[]⟩]) 3 32 Tryz.underlying25 hi hz0 hz1 hz2 rfl (by decide) v1 0 [] rfl (Hown1.out.alloc _) ⟨w1.heap.size, 0, none⟩ 1 1 [.int .i64 k0, .int .i64 n0, .string v0] rfl rfl (cells_three_new _ _ _ _ _) Hu.out (by decide) (by decide) Hr1.out ?_))
    intro v3 w3 hown3 hgrow3 hnil3
    have Hal : Hid (Boxed (w1.alloc (.cells #[.int .i64 k0, .int .i64 n0, .string v0] 34)) W1.heap.size 27 (.slice none 0 0)) := Hy1.out.alloc _
    have Hw3 : Hid (Below W.heap.size W w3) := ((Hw1.out.alloc Hs1.out _).grown hgrow3 Hr1.out (fun k hk => (Hown1.out.lt k hk).1))
    have HB3 : Hid (Boxed w3 W1.heap.size 27 (.slice none 0 0)) := boxed_row Hal.out (Hown1.out.alloc _) hs.out hgrow3
    have hc3 := HB3.out.cell
    have hf3 := HB3.out.frozen
    have Hown3 := Lib.hid hown3
    clear hown3 hgrow3 hnil3
    obtain ⟨a3, c3, rfl, -, -⟩ := row_sl Hown3.out
    go_wp2_with fail
    refine bodyPost_ret (results_cell_row rfl _ _ W1.heap.size 27 #[.slice a3 _ c3] (0, 0) _ rfl (HB3.out.set _) Tryz.underlying27 rfl (by kernel_rfl)) rfl ?_
    have hle : w.heap.size ≤ W.heap.size := Hb.out.size
    exact ⟨_, rfl, row_base (ownsRow_setCell_below Hown3.out hs.out _) hle, (Hb.out.trans (Hw3.out.mono hle)).setCell (p := ⟨W1.heap.size, 0, none⟩) (Nat.le_of_lt hs1.out) _⟩
  · have Hcl : Hid (∀ j u, xs[j]? = some u → w1.cell? ((⟨b, off, none⟩ : Addr).add j) = some u) := fun j u hj => by
      rw [Addr.add_lit]
      exact (Hw1.out.cell (p := ⟨b, off + j, none⟩) (hbl (by intro e; rw [e] at hj; simp at hj))).trans (hcl j u hj)
    clear hcl hbl
    go_wp2_with (at_builtin; refine wpList_append_own _ rfl _ _ 25 rfl W.heap.size 34 i0 (.agg #[.int .i64 0, .int .i64 0, .string ⟨#[]⟩]) 3 32 Tryz.underlying25 hi hz0 hz1 hz2 rfl (by decide) v1 0 [] rfl Hown1.out ⟨b, off, none⟩ n c xs rfl Hl.out Hcl.out H1.out (by unfold maxLen; have := Hn.out; omega) (by have := Hn.out; omega) Hs1.out ?_)
    intro v2 w2 hown2 hgrow2 hnil2
    try simp only [List.nil_append, Nat.zero_add] at hown2
    have Hw2 : Hid (Below W.heap.size W w2) := Below.of_row Hw1.out Hown1.out (Nat.le_refl _) hgrow2 Hs1.out
    have Hy2 := Lib.hid (boxed_row Hy1.out Hown1.out hs.out hgrow2)
    clear hp0 hp1 hp2
    have HP2 : Hid (w2.heap[W0.heap.size]? = _) := (Hw2.out.block _ (Nat.lt_trans hs01.out hs.out)).trans Hp.out
    obtain ⟨hp0, hp1, hp2⟩ := row_three HP2.out
    have Hown2 := Lib.hid hown2
    have Hs2 := Lib.hid Hw2.out.size
    clear hown2 hgrow2 hnil2
    have Hr2 : Hid (W.heap.size ≤ (w2.alloc (.cells #[.int .i64 k0, .int .i64 n0, .string v0] 34)).heap.size) := by show _ ≤ _; simp; exact Nat.le_trans Hs2.out (Nat.le_succ _)
    go_wp2_with (at_builtin; refine wpList_append_own _ rfl _ _ 25 rfl W.heap.size 34 i0 (.agg #[.int .i64 0, .int .i64 0, .string ⟨#[]⟩]) 3 32 Tryz.underlying25 hi hz0 hz1 hz2 rfl (by decide) v2 n xs rfl (Hown2.out.alloc _) ⟨w2.heap.size, 0, none⟩ 1 1 [.int .i64 k0, .int .i64 n0, .string v0] rfl rfl (cells_three_new _ _ _ _ _) Hu.out (by unfold maxLen; have := Hn.out; omega) (by have := Hn.out; omega) Hr2.out ?_)
    intro v3 w3 hown3 hgrow3 hnil3
    have Hal : Hid (Boxed (w2.alloc (.cells #[.int .i64 k0, .int .i64 n0, .string v0] 34)) W1.heap.size 27 (.slice none 0 0)) := Hy2.out.alloc _
    have Hw3 : Hid (Below W.heap.size W w3) := ((Hw2.out.alloc Hs2.out _).grown hgrow3 Hr2.out (fun k hk => (Hown2.out.lt k hk).1))
    have HB3 : Hid (Boxed w3 W1.heap.size 27 (.slice none 0 0)) := boxed_row Hal.out (Hown2.out.alloc _) hs.out hgrow3
    have hc3 := HB3.out.cell
    have hf3 := HB3.out.frozen
    have Hown3 := Lib.hid hown3
    clear hown3 hgrow3 hnil3
    obtain ⟨a3, c3, rfl, -, -⟩ := row_sl Hown3.out
    go_wp2_with fail
    refine bodyPost_ret (results_cell_row rfl _ _ W1.heap.size 27 #[.slice a3 _ c3] (0, 0) _ rfl (HB3.out.set _) Tryz.underlying27 rfl (by kernel_rfl)) rfl ?_
    have hle : w.heap.size ≤ W.heap.size := Hb.out.size
    exact ⟨_, rfl, row_base (ownsRow_setCell_below Hown3.out hs.out _) hle, (Hb.out.trans (Hw3.out.mono hle)).setCell (p := ⟨W1.heap.size, 0, none⟩) (Nat.le_of_lt hs1.out) _⟩
end Go.Proofs.YtcjfcomadcebnaaGreatDoor
