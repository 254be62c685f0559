/- A list written over (spoil), by a contract; append to a list of whatever numbers. -/
import Derived.Test.YthgkloapnihpaaaRc
namespace Go.Proofs.Ythgkloapnihpaaa
open Go.RowKit Go.Maps Go.WideMaps Go.WideElems Go.ChangeShapes Go.WideShapes

/-- A number written over. -/
theorem put_int {B n c : Nat} {a : Option Addr} {V0 V : World} (hw : Wr B V0 V) (h : IntsW B n (.slice a n c) V) {k : Nat} (hk : k < n) (y : Int) :
    ∃ g off u V1, a = some ⟨g, off, none⟩ ∧ V.cell? ⟨g, off + k, none⟩ = some u ∧ V.frozen? ⟨g, off + k, none⟩ = false ∧ V.setCell ⟨g, off + k, none⟩ (iv y) = V1 ∧ Hid (Wr B V0 V1) := by
  obtain ⟨g, off, cur, e, -, hb, hg, hs⟩ := h.at hk
  exact ⟨g, off, _, _, e, (cell_of_row _ _ _ _ _ _ hg).trans (Array.getElem?_eq_getElem hs), frozen_of_row _ g _ _ 3 hg, rfl, hw.set hg (.inr ⟨rfl, y, rfl⟩) hb _⟩
set_option maxHeartbeats 8000000 in
set_option maxRecDepth 100000 in
theorem spoil_any (a : Option Addr) (n c : Nat) (B : Nat) (V : World) (h : IntsW B n (.slice a n c) V) (hn : n ≤ 100000) :
    Calls Try.prog 38 #[.slice a n c] V fun e w' => (∃ v, e = .returned v) ∧ Hid (Wr B V w') := by
  have H := Lib.hid h
  clear h
  go_enter Try.func38, Try.ntmps38
  go_wp2
  try go_frame
  go_loopw [2] (fun i wr => ∃ k : Nat, k ≤ n ∧ i = .int .i64 ((k : Nat) : Int) ∧ Hid (Wr B V wr)) (fun i _ => n - (intOf i).toNat)
  case atStart => exact ⟨0, Nat.zero_le _, rfl, Wr.refl _ _⟩
  case round =>
    obtain ⟨k, hk, rfl, HR⟩ := hrel
    obtain ⟨wb, hwb⟩ : ∃ wb, wb = wr := ⟨_, rfl⟩
    subst hwb
    by_cases hlt : k < n
    · obtain ⟨g, off, u, V1, rfl, hc, hf, hV1, HW⟩ := put_int HR.out (H.out.wr HR.out) hlt (-9)
      have hltI : (k : Int) < (n : Int) := by omega
      have Hlt : Hid (k < n) := hlt
      go_wp2
      go_roundw
      case rel => exact ⟨k + 1, Hlt.out, by go_num, HW.out⟩
      case measure => simp [intOf]; omega
    · have hkn : k = n := by omega
      subst hkn
      go_wp2
      go_end0
      exact ⟨⟨_, rfl⟩, HR.out⟩
/-- 'append' of one number to whatever numbers. -/
theorem wpList_append_w {w : World} {ops : Array Oper} {rest : List Oper} {o : Oper} {a : Act} {Q : Exit → Act → World → Prop} (hgd : o.guard = none) (s x : Operand)
    (ho : o.op = .call { callee := .builtin .append, args := #[s, x], argTypes := #[23, 23] })
    (B n : Nat) (v : Value) (y : Int) (hs : a.eval s = v) (hw : IntsW B n v w) (ad : Addr) (c : Nat) (hx : a.eval x = .slice (some ad) 1 c) (hnews : ∀ j u, [iv y][j]? = some u → w.cell? (ad.add j) = some u)
    (hl : n ≤ 1000000) (hB : B ≤ w.heap.size)
    (hK : ∀ v' w' zs, zs.length = n → IntsO w' B v' (zs ++ [y]) → Wr B w w' → wpList Try.prog ops Q rest (a.put o.dst v') w') : wpList Try.prog ops Q (o :: rest) a w := by
  obtain ⟨i0, hi, hz0, hz1, hz2⟩ := info_parts elem3
  obtain ⟨zs, rfl, h⟩ := hw
  have grows : ∀ v' w', w'.ownsRow w.heap.size 3 1 v' (zs.length + 1) (zs.map (Value.int .i64) ++ [iv y]) → w.grownBy w' none → wpList Try.prog ops Q rest (a.put o.dst v') w' := fun v' w' h1 h2 => by
    have h3 : IntsO w' w.heap.size v' (zs ++ [y]) := intsO_row (by rw [List.length_append, List.map_append]; exact h1)
    exact hK v' w' zs rfl (h3.low hB) (Wr.of hB ⟨h2.os, h2.tape, h2.output, h2.size, fun k hk => h2.block k hk (by simp)⟩)
  rcases h with ⟨rfl, rfl⟩ | ⟨g, off, cap, cur, rfl, hb, hg, hn, hm, hss, ht⟩
  · exact wpList_append_grows w hgd s x 23 ho 3 i0 (.int .i64 0) 1 8 Try.underlying23 hi hz0 hz1 hz2 rfl (by decide) none 0 0 [] hs (fun _ => ⟨rfl, rfl⟩) rfl (fun b e => by cases e) ad 1 c [iv y] hx rfl hnews (ints1 y) (by decide) (by decide) (by decide) grows
  · have hcell : ∀ j, w.cell? ⟨g, off + j, none⟩ = cur[off + j]? := fun j => by simp [World.cell?, hg]
    refine wpList_append_arg w hgd s x 23 ho 3 i0 (.int .i64 0) 1 8 Try.underlying23 hi hz0 hz1 hz2 rfl (by decide) g off zs.length cap (zs.map (Value.int .i64)) hs (by simp) (fun j u hj => ?_) ad 1 c [iv y] hx rfl hnews (ints1 y) (fun hr j hj => ⟨?_, by simp [World.frozen?, hg]⟩) (by unfold maxLen; omega) (by omega) (fun hr => ?_) (fun _ => grows)
    · rw [hcell]
      rw [← ht, List.getElem?_take] at hj
      split at hj
      · rw [List.getElem?_drop] at hj
        simpa using hj
      · cases hj
    · have hj0 : j = 0 := by simpa using hj
      subst hj0
      have := hcell (zs.length * 1)
      rw [Nat.add_zero, this, Array.getElem?_eq_getElem (by omega)]
      rfl
    · rw [Nat.mul_one]
      have hh := heap_setCells_same g 3 [iv y] (off + zs.length) w cur hg
      have hl2 : (zs ++ [y]).length = zs.length + 1 := by simp
      refine hK _ _ zs rfl (.inr ⟨g, off, cap, _, by rw [hl2], hb, hh, by rw [hl2]; exact hr, hm, by rw [putA_size]; exact hss, ?_⟩) ?_
      · rw [putA_drop _ _ _ _ (by simp; omega), ht, hl2, List.take_left' (by simp), List.map_append]
        rfl
      · exact (Wr.refl B w).set hg (.inr ⟨rfl, y, rfl⟩) hb _
/-- A part written anew. -/
theorem PartW.put {B K n m c i : Nat} {a : Option Addr} {V W : World} {x : Value} (h : PartW B K n (.slice a m c) V) (hw : Wr B V W) (hi : i < n) {k : Nat} (hk : k ≤ K) (hx : IntsW B k x W) :
    ∃ g u W1, a = some ⟨g, 0, none⟩ ∧ W.cell? ⟨g, i, none⟩ = some u ∧ W.frozen? ⟨g, i, none⟩ = false ∧ W.setCell ⟨g, i, none⟩ x = W1 ∧ Hid (PartW B K n (.slice a m c) W1 ∧ Below B V W1 ∧ ∀ v k', (IntsW B k' v W → IntsW B k' v W1) ∧ (RowE B k' v W → RowE B k' v W1)) := by
  obtain ⟨xs, ⟨hl, hr⟩, hxs⟩ := h.wr hw
  rcases hr with ⟨_, h0⟩ | ⟨g, cap, cur, e1, hb, hg, hnc, hm, hs, hxc⟩
  · omega
  · injection e1 with e1 e2 e3
    subst e1 e2 e3
    have hic : i < cur.size := by omega
    have hint : ∀ v k', IntsW B k' v W → IntsW B k' v (W.setCell ⟨g, i, none⟩ x) := fun v k' hv => by
      obtain ⟨zs, hz, hI⟩ := hv
      refine ⟨zs, hz, ?_⟩
      rcases hI with h0 | ⟨g2, off, cap2, cur2, rfl, hb2, hg2, r⟩
      · exact .inl h0
      · refine .inr ⟨g2, off, cap2, cur2, rfl, hb2, (Below.heap_setCell _ _ _ _ (fun e => ?_)).trans hg2, r⟩
        have e2 : g2 = g := e
        subst e2
        rw [hg] at hg2
        cases hg2
    refine ⟨g, _, _, rfl, (cell_of_row _ _ _ _ _ _ hg).trans (Array.getElem?_eq_getElem hic), frozen_of_row _ g _ _ 23 hg, rfl, ⟨xs.set i x, ⟨by rw [List.length_set]; exact hl, .inr ⟨g, c, cur.setIfInBounds i x, rfl, hb, heap_setCell_same W g i _ _ x hg, hnc, hm, by rw [Array.size_setIfInBounds]; exact hs, ?_⟩⟩, fun y hy => ?_⟩, hw.below.setCell (p := ⟨g, i, none⟩) hb _, fun v k' => ⟨hint v k', fun hv => ?_⟩⟩
    · rw [← hxc, Array.toList_setIfInBounds, List.take_set]
    · rcases List.mem_or_eq_of_mem_set hy with h1 | rfl
      · obtain ⟨k2, hk2, h2⟩ := hxs y h1
        exact ⟨k2, hk2, hint y k2 h2⟩
      · exact ⟨k, hk, hint _ k hx⟩
    · obtain ⟨ys, hyl, hyr⟩ := hv
      refine ⟨ys, hyl, ?_⟩
      rcases hyr with h0 | ⟨g2, cap2, cur2, rfl, hb2, hg2, r⟩
      · exact .inl h0
      · refine .inr ⟨g2, cap2, cur2, rfl, hb2, (Below.heap_setCell _ _ _ _ (fun e => ?_)).trans hg2, r⟩
        have e2 : g2 = g := e
        subst e2
        rw [hg] at hg2
        cases hg2
end Go.Proofs.Ythgkloapnihpaaa
