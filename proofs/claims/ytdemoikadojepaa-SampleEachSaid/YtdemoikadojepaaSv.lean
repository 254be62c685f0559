/- The program and the schedule that catch the third engine, as the document gives them. -/
import Derived.Test.YtdemoikadojepaaSt
namespace Go.Proofs.Ytdemoikadojepaa
open Go.RowKit Go.Maps Go.WideMaps Go.WideElems Go.ChangeShapes Go.WideShapes

theorem elem53 : (Try.prog.info? 53).map (fun i => (i.zero, i.size, i.bytes)) = some (some (.slice none 0 0), 1, 24) := by kernel_rfl
theorem one_row {W : World} {q : Nat} {u : Value} {t : TypeId} (h : W.heap[q]? = some (.cells #[u] t)) : ∀ j v, [u][j]? = some v → W.cell? ((⟨q, 0, none⟩ : Addr).add j) = some v := World.news_of_block h
theorem box_set {W V : World} {p o : Nat} {u : Value} (h : W.setCell ⟨p, o, none⟩ u = V) {k : Nat} {x : Obj} (hne : p ≠ k) (hk : W.heap[k]? = some x) : V.heap[k]? = some x := by subst h; exact keepS hne hk

set_option maxHeartbeats 4000000 in
theorem dcaught_any (w : World) : Calls Try.prog 18 #[] w (CaughtRes w) := by
  obtain ⟨i0, hi, hz0, hz1, hz2⟩ := info_parts elem53
  obtain ⟨W1, hW1, Hb1, hs1, Hx1⟩ := cells_new w #[.slice none 0 0, .slice none 0 0] 45
  obtain ⟨W2, hW2, Hb2, hs2, Hx2⟩ := cells_new W1 #[.int .i64 0, .int .i64 0] 3
  obtain ⟨W3, hW3, Hb3, hs3, Hx3⟩ := cells_new W2 #[.slice (some ⟨W1.heap.size, 0, none⟩) 2 2, .slice none 0 0] 45
  obtain ⟨V3, hV3⟩ : ∃ V3, W3.setCell ⟨W2.heap.size, 1, none⟩ (.slice none 0 0) = V3 := ⟨_, rfl⟩
  have HbV : Hid (Below W2.heap.size W2 V3) := by
    show Below _ _ _
    rw [← hV3]; exact Hb3.out.setCell (p := ⟨W2.heap.size, 1, none⟩) (Nat.le_refl _) _
  have HxV : Hid (V3.heap[W2.heap.size]? = some (.cells #[.slice (some ⟨W1.heap.size, 0, none⟩) 2 2, .slice none 0 0] 45)) := by
    show _ = _
    rw [← hV3]; exact heap_setCell_same W3 W2.heap.size 1 _ _ _ Hx3.out
  have hsV : Hid (W2.heap.size < V3.heap.size) := (Array.getElem?_eq_some_iff.1 HxV.out).1
  obtain ⟨y0, y1⟩ := row_two Hx3.out
  have yf := frozen_of_row _ _ 1 _ _ Hx3.out
  have HbV2 : Hid (Below W2.heap.size W2 V3) := HbV.out
  clear Hb3 hs3 Hx3
  obtain ⟨W4, hW4, Hb4, hs4, Hx4⟩ := cells_new V3 #[.int .i64 2, .int .i64 0, .int .i64 1, .int .i64 2, .int .i64 1, .int .i64 1] 73
  obtain ⟨W5, hW5, Hb5, hs5, Hx5⟩ := cells_new W4 #[.slice (some ⟨V3.heap.size, 0, none⟩) 2 2] 74
  obtain ⟨W6, hW6, Hb6, hs6, Hx6⟩ := cells_new W5 #[.slice (some ⟨W4.heap.size, 0, none⟩) 1 1] 53
  have B13 : Hid (Below W1.heap.size W1 V3) := stepB Hb2.out HbV.out
  have B16 : Hid (Below W1.heap.size W1 W6) := stepB (stepB (stepB B13.out Hb4.out) Hb5.out) Hb6.out
  have B36 : Hid (Below V3.heap.size V3 W6) := stepB (stepB Hb4.out Hb5.out) Hb6.out
  obtain ⟨x0, x1⟩ := row_two (keepB B36.out HxV.out)
  obtain ⟨v0, v1⟩ := row_two HxV.out
  have Hone := Lib.hid (one_row Hx6.out)
  go_enter Try.func18, Try.ntmps18
  go_wp2_with (first
    | (at_builtin; refine wpList_append_own _ rfl _ _ 43 rfl W6.heap.size 53 i0 _ 1 24 Try.underlying43 hi hz0 hz1 hz2 rfl (by decide) (.slice none 0 0) 0 [] rfl (World.ownsRow_nil _ _ _ _) ⟨W5.heap.size, 0, none⟩ 1 1 [.slice (some ⟨W4.heap.size, 0, none⟩) 1 1] rfl rfl Hone.out (by simp [Value.oneCell']) (by unfold maxLen; omega) (by omega) (Nat.le_refl _) ?_
       intro v5 w5 hown5 hgrow5 hnil5
       have Hbg : Hid (Below W6.heap.size W6 w5) := ⟨hgrow5.os, hgrow5.tape, hgrow5.output, hgrow5.size, fun k hk => hgrow5.block k hk (by simp [Value.ownBlock])⟩
       obtain ⟨g5, c5, rfl, hg5, hg5l⟩ := row_pos hown5 (by omega)
       have Hown5 := Lib.hid hown5
       have Hbx5 := Lib.hid (keepB Hbg.out (keepB B36.out HxV.out))
       obtain ⟨-, z1⟩ := row_two Hbx5.out
       have zf := frozen_of_row _ _ 1 _ _ Hbx5.out
       clear hown5 hgrow5 hnil5 hg5l
       obtain ⟨W7, hW7⟩ : ∃ W7, w5.setCell ⟨W2.heap.size, 1, none⟩ (.slice (some ⟨g5, 0, none⟩) (0 + 1) c5) = W7 := ⟨_, rfl⟩
       have Hbx7 : Hid (W7.heap[W2.heap.size]? = some (.cells #[.slice (some ⟨W1.heap.size, 0, none⟩) 2 2, .slice (some ⟨g5, 0, none⟩) (0 + 1) c5] 45)) := by
         show _ = _
         rw [← hW7]; exact heap_setCell_same w5 W2.heap.size 1 _ _ _ Hbx5.out
       obtain ⟨u0, u1⟩ := row_two Hbx7.out
       have uf := frozen_of_row _ _ 1 _ _ Hbx7.out
       have L6 : Hid (W6.heap.size ≤ w5.heap.size) := Hbg.out.size
       have L7 : Hid (w5.heap.size ≤ W7.heap.size) := by
         show _ ≤ _
         rw [← hW7]; exact ((Below.refl 0 w5).setCell (p := ⟨W2.heap.size, 1, none⟩) (Nat.zero_le _) _).size
       have B17 : Hid (Below W1.heap.size W1 W7) := by
         show Below _ _ _
         rw [← hW7]; exact (stepB B16.out Hbg.out).setCell (p := ⟨W2.heap.size, 1, none⟩) (Nat.le_of_lt hs2.out) _
       have Q7 : Hid (W7.heap[W1.heap.size]? = some (.cells (ints [0, 0]).toArray 3)) := box_set hW7 (Nat.ne_of_gt hs2.out) (keepB Hbg.out (keepB B36.out (keepB HbV2.out Hx2.out)))
       have U7 : Hid (W7.heap[W4.heap.size]? = some (.cells #[.slice (some ⟨V3.heap.size, 0, none⟩) 2 2] 74)) := box_set hW7 (Nat.ne_of_lt (Nat.lt_trans hsV.out hs4.out)) (keepB Hbg.out (keepB Hb6.out Hx5.out))
       have A7 : Hid (W7.heap[V3.heap.size]? = some (.cells (ints [2, 0, 1, 2, 1, 1]).toArray 73)) := box_set hW7 (Nat.ne_of_lt hsV.out) (keepB Hbg.out (keepB Hb6.out (keepB Hb5.out Hx4.out)))
       have R7 : Hid (W7.ownsRow W6.heap.size 53 1 (.slice (some ⟨g5, 0, none⟩) (0 + 1) c5) (0 + 1) ([] ++ [.slice (some ⟨W4.heap.size, 0, none⟩) 1 1])) := by
         show World.ownsRow _ _ _ _ _ _ _
         rw [← hW7]; exact ownsRow_setCell_below Hown5.out (Nat.lt_trans hsV.out (Nat.lt_trans hs4.out (Nat.lt_trans hs5.out hs6.out))) _
       obtain ⟨W8, hW8, Hb8, hs8, Hx8⟩ := cells_new W7 #[.int .i64 1, .int .i64 0, .int .i64 0, .int .i64 1, .int .i64 1, .int .i64 0] 73
       obtain ⟨W9, hW9, Hb9, hs9, Hx9⟩ := cells_new W8 #[.slice (some ⟨W7.heap.size, 0, none⟩) 2 2] 74
       obtain ⟨W10, hW10, Hb10, hs10, Hx10⟩ := cells_new W9 #[.slice (some ⟨W8.heap.size, 0, none⟩) 1 1] 53
       have B710 : Hid (Below W7.heap.size W7 W10) := stepB (stepB Hb8.out Hb9.out) Hb10.out
       have R10 := Lib.hid (row_below R7.out B710.out)
       have Hone2 := Lib.hid (one_row Hx10.out)
       have L10 : Hid (W6.heap.size ≤ W10.heap.size) := Nat.le_trans L6.out (Nat.le_trans L7.out B710.out.size)
       clear Hbx5 Hown5 Hone x0 x1 v0 v1 y0 y1 yf)
    | (at_builtin; refine wpList_append_own _ rfl _ _ 43 rfl W6.heap.size 53 i0 _ 1 24 Try.underlying43 hi hz0 hz1 hz2 rfl (by decide) (.slice (some ⟨g5, 0, none⟩) 1 c5) 1 _ rfl R10.out ⟨W9.heap.size, 0, none⟩ 1 1 [.slice (some ⟨W8.heap.size, 0, none⟩) 1 1] rfl rfl Hone2.out (by simp [Value.oneCell']) (by unfold maxLen; omega) (by omega) L10.out ?_
       intro v8 w8 hown8 hgrow8 hnil8
       obtain ⟨g8, c8, rfl, hg8, hg8l⟩ := row_pos hown8 (by omega)
       have hkeep : ∀ {k : Nat} {x : Obj}, k ≠ g5 → W10.heap[k]? = some x → w8.heap[k]? = some x := fun {k x} hne hk => (hgrow8.block k (Array.getElem?_eq_some_iff.1 hk).1 (fun e => hne (by simpa [Value.ownBlock] using e))).trans hk
       have hg5u : g5 < W7.heap.size := (R7.out.lt g5 rfl).2
       have hl2 := hs2.out; have hl3 := hsV.out; have hl4 := hs4.out; have hl5 := hs5.out; have hl6 := hs6.out; have hl8 := hs8.out
       have Q8 : Hid (w8.heap[W1.heap.size]? = some (.cells (ints [0, 0]).toArray 3)) := hkeep (by omega) (keepB B710.out Q7.out)
       have U8 : Hid (w8.heap[W4.heap.size]? = some (.cells #[.slice (some ⟨V3.heap.size, 0, none⟩) 2 2] 74)) := hkeep (by omega) (keepB B710.out U7.out)
       have A8 : Hid (w8.heap[V3.heap.size]? = some (.cells (ints [2, 0, 1, 2, 1, 1]).toArray 73)) := hkeep (by omega) (keepB B710.out A7.out)
       have U9 : Hid (w8.heap[W8.heap.size]? = some (.cells #[.slice (some ⟨W7.heap.size, 0, none⟩) 2 2] 74)) := hkeep (by omega) (keepB Hb10.out Hx9.out)
       have A9 : Hid (w8.heap[W7.heap.size]? = some (.cells (ints [1, 0, 0, 1, 1, 0]).toArray 73)) := hkeep (by omega) (keepB Hb10.out (keepB Hb9.out Hx8.out))
       have Hbx8 : Hid (w8.heap[W2.heap.size]? = some (.cells #[.slice (some ⟨W1.heap.size, 0, none⟩) 2 2, .slice (some ⟨g5, 0, none⟩) (0 + 1) c5] 45)) := hkeep (by omega) (keepB B710.out Hbx7.out)
       have B18 : Hid (Below W1.heap.size W1 w8) := by
         have h110 := stepB B17.out B710.out
         exact ⟨hgrow8.os.trans h110.os, hgrow8.tape.trans h110.tape, hgrow8.output.trans h110.output, Nat.le_trans h110.size hgrow8.size, fun k hk => (hgrow8.block k (Nat.lt_of_lt_of_le hk h110.size) (fun e => by have e2 : k = g5 := (by simpa [Value.ownBlock] using e); omega)).trans (h110.block k hk)⟩
       have R8 := Lib.hid hown8
       obtain ⟨-, z3⟩ := row_two Hbx8.out
       have zg := frozen_of_row _ _ 1 _ _ Hbx8.out
       obtain ⟨W11, hW11⟩ : ∃ W11, w8.setCell ⟨W2.heap.size, 1, none⟩ (.slice (some ⟨g8, 0, none⟩) (1 + 1) c8) = W11 := ⟨_, rfl⟩
       have HX11 : Hid (W11.heap[W2.heap.size]? = some (.cells #[.slice (some ⟨W1.heap.size, 0, none⟩) 2 2, .slice (some ⟨g8, 0, none⟩) (1 + 1) c8] 45)) := by
         show _ = _
         rw [← hW11]; exact heap_setCell_same w8 W2.heap.size 1 _ _ _ Hbx8.out
       obtain ⟨t0, t1⟩ := row_two HX11.out
       have B111 : Hid (Below W1.heap.size W1 W11) := by
         show Below _ _ _
         rw [← hW11]; exact B18.out.setCell (p := ⟨W2.heap.size, 1, none⟩) (Nat.le_of_lt hs2.out) _
       have P11 : Hid (PgAt W1.heap.size W1.heap.size W4.heap.size W8.heap.size V3.heap.size W7.heap.size (.slice (some ⟨g8, 0, none⟩) 2 c8) W11) := by
         refine ⟨B111.out.size, box_set hW11 (by omega) Q8.out, ?_, box_set hW11 (by omega) U8.out, box_set hW11 (by omega) U9.out, box_set hW11 (by omega) A8.out, box_set hW11 (by omega) A9.out⟩
         rw [← hW11]
         exact row_base (ownsRow_setCell_below R8.out (show W2.heap.size < W6.heap.size by omega) _) (by omega)
       obtain ⟨W12, hW12, Hb12, hs12, Hx12⟩ := cells_new W11 #[.int .i64 1, .int .i64 1, .int .i64 1, .int .i64 0, .int .i64 0, .int .i64 0, .int .i64 0, .int .i64 0, .int .i64 0, .int .i64 0, .int .i64 0, .int .i64 1, .int .i64 1] 3
       have HS : Hid (W12.ownsRow W11.heap.size 3 1 (.slice (some ⟨W11.heap.size, 0, none⟩) 13 13) 13 (ints sched)) := ⟨rfl, .inr ⟨W11.heap.size, 13, _, rfl, Nat.le_refl _, Hx12.out, by decide, by unfold maxLen; decide, rfl, rfl⟩⟩
       have HR11 : Hid (W11.heap[w.heap.size]? = some (.cells #[.slice none 0 0, .slice none 0 0] 45)) := keepB B111.out Hx1.out
       have HB11 : Hid (Below w.heap.size w W11) := stepB Hb1.out B111.out
       have HR12 := Lib.hid (keepB Hb12.out HR11.out)
       obtain ⟨⟨r0, r1⟩, r2, r3⟩ := pair_facts HR12.out (.slice (some ⟨W1.heap.size, 0, none⟩) 2 2)
       have hrl : Hid (w.heap.size < W11.heap.size) := Nat.lt_of_lt_of_le hs1.out B111.out.size
       clear hown8 hgrow8 hnil8 hkeep hg5u hl2 hl3 hl4 hl5 hl6 hl8 hg8 hg8l)
    | go_in)
  have Hend := Lib.hid (caught_end (x := .slice (some ⟨W1.heap.size, 0, none⟩) 2 2) (y := .slice (some ⟨g8, 0, none⟩) 2 c8) HB11.out P11.out (Nat.le_refl _) hs1.out hrl.out HR11.out Hb12.out HS.out)
  refine bodyPost_ret (results_row_tmp rfl _ _ w.heap.size 45 #[.slice (some ⟨W1.heap.size, 0, none⟩) 2 2, .slice (some ⟨g8, 0, none⟩) 2 c8] (0, 0) _ rfl (set_pair HR12.out) Try.underlying45 rfl (by kernel_rfl)) rfl ?_
  exact ⟨_, _, _, _, _, _, _, rfl, Hend.out⟩
end Go.Proofs.Ytdemoikadojepaa
