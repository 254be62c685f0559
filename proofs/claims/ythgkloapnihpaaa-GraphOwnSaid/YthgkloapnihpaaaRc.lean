/- What is answered, written over: numbers, edges, parts. -/
import Derived.Test.YthgkloapnihpaaaRb
namespace Go.Proofs.Ythgkloapnihpaaa
open Go.RowKit Go.Maps Go.WideMaps Go.WideElems Go.ChangeShapes Go.WideShapes

/-- From a place on rows of numbers and of edges may have been written over, nothing else; numbers stay numbers. -/
structure Wr (B : Nat) (V U : World) : Prop where
  below : Below B V U
  cells : ∀ (k : Nat) (cs : Array Value) (t : TypeId), V.heap[k]? = some (.cells cs t) → ∃ cs', U.heap[k]? = some (.cells cs' t) ∧ cs'.size = cs.size ∧ (t ≠ 3 → t ≠ 57 → cs' = cs) ∧ (t = 3 → ∀ (j : Nat) (x : Int), cs[j]? = some (iv x) → ∃ y : Int, cs'[j]? = some (iv y))
theorem Wr.refl (B : Nat) (V : World) : Wr B V V := ⟨Below.refl _ _, fun _ cs _ h => ⟨cs, h, rfl, fun _ _ => rfl, fun _ _ x h => ⟨x, h⟩⟩⟩
theorem Wr.trans {B : Nat} {V U W : World} (h : Wr B V U) (k : Wr B U W) : Wr B V W := by
  refine ⟨h.below.trans k.below, fun i cs t hc => ?_⟩
  obtain ⟨c1, h1, s1, e1, f1⟩ := h.cells i cs t hc
  obtain ⟨c2, h2, s2, e2, f2⟩ := k.cells i c1 t h1
  refine ⟨c2, h2, s2.trans s1, fun a b => (e2 a b).trans (e1 a b), fun a j x hx => ?_⟩
  obtain ⟨y, hy⟩ := f1 a j x hx
  exact f2 a j y hy
theorem Wr.of {B : Nat} {V U : World} (hB : B ≤ V.heap.size) (h : Below V.heap.size V U) : Wr B V U := ⟨h.mono hB, fun k cs _ hc => ⟨cs, (h.block k (Array.getElem?_eq_some_iff.1 hc).1).trans hc, rfl, fun _ _ => rfl, fun _ _ x h => ⟨x, h⟩⟩⟩
theorem Wr.set {B : Nat} {V U : World} {g : Nat} {cur : Array Value} {e : TypeId} {x : Value} (h : Wr B V U) (hg : U.heap[g]? = some (.cells cur e)) (he : e = 57 ∨ (e = 3 ∧ ∃ y, x = iv y)) (hB : B ≤ g) (o : Nat) : Wr B V (U.setCell ⟨g, o, none⟩ x) := by
  refine h.trans ⟨(Below.refl _ _).setCell (p := ⟨g, o, none⟩) hB _, fun i cs t hc => ?_⟩
  by_cases hi : g = i
  · subst hi
    rw [hg] at hc
    injection hc with hc
    injection hc with h1 h2
    subst h1 h2
    refine ⟨_, heap_setCell_same U g o _ _ x hg, by rw [Array.size_setIfInBounds], fun a b => ?_, fun a j z hz => ?_⟩
    · rcases he with he | ⟨he, -⟩
      · exact absurd he b
      · exact absurd he a
    · rcases he with he | ⟨-, y, rfl⟩
      · rw [he] at a
        cases a
      · rw [Array.getElem?_setIfInBounds]
        by_cases ho : o = j
        · subst ho
          have hlt := (Array.getElem?_eq_some_iff.1 hz).1
          rw [if_pos rfl, if_pos hlt]
          exact ⟨y, rfl⟩
        · rw [if_neg ho]
          exact ⟨z, hz⟩
  · exact ⟨cs, (Below.heap_setCell _ _ _ _ (fun e => hi e.symm)).trans hc, rfl, fun _ _ => rfl, fun _ _ x h => ⟨x, h⟩⟩
theorem ints_of : ∀ {l : List Value}, (∀ x ∈ l, ∃ y, x = iv y) → ∃ zs : List Int, l = zs.map (Value.int .i64)
  | [], _ => ⟨[], rfl⟩
  | x :: l, h => by
    obtain ⟨zs, hz⟩ := ints_of fun y hy => h y (List.mem_cons_of_mem _ hy)
    obtain ⟨y, rfl⟩ := h x (by simp)
    exact ⟨y :: zs, by rw [hz]; rfl⟩
/-- So many numbers, whatever they are. -/
def IntsW (B n : Nat) (v : Value) (W : World) : Prop := ∃ zs : List Int, zs.length = n ∧ IntsO W B v zs
theorem IntsO.w {B : Nat} {v : Value} {W : World} {zs : List Int} (h : IntsO W B v zs) : IntsW B zs.length v W := ⟨zs, rfl, h⟩
theorem IntsW.low {B C n : Nat} {v : Value} {W : World} (h : IntsW C n v W) (hb : B ≤ C) : IntsW B n v W := by
  obtain ⟨zs, h1, h2⟩ := h
  exact ⟨zs, h1, h2.low hb⟩
theorem IntsW.wr {B C n : Nat} {v : Value} {V U : World} (h : IntsW B n v V) (hw : Wr C V U) : IntsW B n v U := by
  obtain ⟨zs, rfl, h⟩ := h
  rcases h with ⟨rfl, rfl⟩ | ⟨g, off, cap, cur, rfl, hb, hg, hn, hm, hs, ht⟩
  · exact ⟨[], rfl, .inl ⟨rfl, rfl⟩⟩
  · obtain ⟨c1, h1, s1, -, f1⟩ := hw.cells g cur 3 hg
    obtain ⟨ys, hy⟩ : ∃ ys : List Int, (c1.toList.drop off).take zs.length = ys.map (Value.int .i64) := by
      refine ints_of fun x hx => ?_
      obtain ⟨j, hj, e⟩ := List.mem_iff_getElem.1 hx
      have hj2 : j < zs.length := by rw [List.length_take] at hj; omega
      have h3 : (zs.map (Value.int .i64))[j]? = some (iv (zs[j])) := by rw [List.getElem?_map, List.getElem?_eq_getElem hj2]; rfl
      rw [← ht, List.getElem?_take, if_pos hj2, List.getElem?_drop, Array.getElem?_toList] at h3
      obtain ⟨y, hy⟩ := f1 rfl _ _ h3
      rw [List.getElem_take, List.getElem_drop, Array.getElem_toList] at e
      have h4 := (Array.getElem?_eq_some_iff.1 hy).2
      exact ⟨y, e.symm.trans h4⟩
    have hl : ys.length = zs.length := by
      have := congrArg List.length hy
      have hcl : c1.toList.length = cur.size := (Array.length_toList (xs := c1)).trans s1
      rw [List.length_map, List.length_take, List.length_drop, hcl] at this
      omega
    exact ⟨ys, hl, .inr ⟨g, off, cap, c1, by rw [hl], hb, h1, by omega, hm, by omega, by rw [hl]; exact hy⟩⟩
theorem IntsW.at {B n c m : Nat} {a : Option Addr} {W : World} (h : IntsW B n (.slice a m c) W) {k : Nat} (hk : k < n) : ∃ g off cur, a = some ⟨g, off, none⟩ ∧ m = n ∧ B ≤ g ∧ W.heap[g]? = some (.cells cur 3) ∧ off + k < cur.size := by
  obtain ⟨zs, rfl, h⟩ := h
  rcases h with ⟨_, rfl⟩ | ⟨g, off, cap, cur, e1, hb, hg, hn, hm, hs, ht⟩
  · simp at hk
  · injection e1 with e1 e2 e3
    exact ⟨g, off, cur, e1, e2, hb, hg, by omega⟩
theorem IntsW.sl {B n : Nat} {v : Value} {W : World} (h : IntsW B n v W) : ∃ a c, v = .slice a n c := by
  obtain ⟨zs, rfl, h⟩ := h
  obtain ⟨a, c, e, -⟩ := h.sl
  exact ⟨a, c, e⟩
/-- A row of edges, whatever they are. -/
def RowE (B n : Nat) (v : Value) (W : World) : Prop := ∃ xs, W.ownsRow B 57 3 v n xs
theorem RowE.wr {B C n : Nat} {v : Value} {V U : World} (h : RowE B n v V) (hw : Wr C V U) : RowE B n v U := by
  obtain ⟨xs, hl, hr⟩ := h
  rcases hr with ⟨rfl, rfl⟩ | ⟨g, cap, cur, rfl, hb, hg, hn, hm, hs, hx⟩
  · exact ⟨[], by simp, .inl ⟨rfl, rfl⟩⟩
  · obtain ⟨c1, h1, s1, _⟩ := hw.cells g cur 57 hg
    refine ⟨c1.toList.take (n * 3), ?_, .inr ⟨g, cap, c1, rfl, hb, h1, hn, hm, s1.trans hs, rfl⟩⟩
    rw [List.length_take, Array.length_toList, s1, hs]
    exact Nat.min_eq_left (Nat.mul_le_mul_right _ hn)
theorem RowE.at {B n m c : Nat} {a : Option Addr} {W : World} (h : RowE B n (.slice a m c) W) (hn : 0 < n) : ∃ g cur, a = some ⟨g, 0, none⟩ ∧ B ≤ g ∧ W.heap[g]? = some (.cells cur 57) ∧ n * 3 ≤ cur.size := by
  obtain ⟨xs, hl, hr⟩ := h
  rcases hr with ⟨_, h0⟩ | ⟨g, cap, cur, e1, hb, hg, hnc, hm, hs, hx⟩
  · omega
  · injection e1 with e1 e2 e3
    exact ⟨g, cur, e1, hb, hg, by rw [hs]; exact Nat.mul_le_mul_right _ hnc⟩
/-- Parts, whatever they are. -/
def PartW (B K n : Nat) (v : Value) (W : World) : Prop := ∃ xs, W.ownsRow B 23 1 v n xs ∧ ∀ x ∈ xs, ∃ k, k ≤ K ∧ IntsW B k x W
theorem PartW.more {B K K2 n : Nat} {v : Value} {W : World} (h : PartW B K n v W) (hk : K ≤ K2) : PartW B K2 n v W := by
  obtain ⟨xs, h1, h2⟩ := h
  refine ⟨xs, h1, fun x hx => ?_⟩
  obtain ⟨k, h3, h4⟩ := h2 x hx
  exact ⟨k, Nat.le_trans h3 hk, h4⟩
theorem PartW.wr {B C K n : Nat} {v : Value} {V U : World} (h : PartW B K n v V) (hw : Wr C V U) : PartW B K n v U := by
  obtain ⟨xs, ⟨hl, hr⟩, hx⟩ := h
  refine ⟨xs, ⟨hl, ?_⟩, fun x h1 => ?_⟩
  · rcases hr with h0 | ⟨g, cap, cur, rfl, hb, hg, r⟩
    · exact .inl h0
    · obtain ⟨c1, h1, s1, e1, -⟩ := hw.cells g cur 23 hg
      rw [e1 (by decide) (by decide)] at h1
      exact .inr ⟨g, cap, cur, rfl, hb, h1, r⟩
  · obtain ⟨k, hk, h2⟩ := hx x h1
    exact ⟨k, hk, h2.wr hw⟩
theorem PartW.at {B K n m c : Nat} {a : Option Addr} {W : World} (h : PartW B K n (.slice a m c) W) {i : Nat} (hi : i < n) : ∃ g k a1 c1, a = some ⟨g, 0, none⟩ ∧ k ≤ K ∧ W.cell? ⟨g, i, none⟩ = some (.slice a1 k c1) ∧ IntsW B k (.slice a1 k c1) W := by
  obtain ⟨xs, ⟨hl, hr⟩, hx⟩ := h
  rcases hr with ⟨_, h0⟩ | ⟨g, cap, cur, e1, hb, hg, hnc, hm, hs, hxs⟩
  · omega
  · injection e1 with e1 e2 e3
    have hil : i < xs.length := by rw [hl]; omega
    obtain ⟨k, hk, h2⟩ := hx xs[i] (List.getElem_mem hil)
    obtain ⟨a1, c1, e⟩ := h2.sl
    have h3 : cur[i]? = some xs[i] := by
      have h4 : (cur.toList.take (n * 1))[i]? = xs[i]? := by rw [hxs]
      rw [List.getElem?_take, if_pos (by omega), Array.getElem?_toList, List.getElem?_eq_getElem hil] at h4
      exact h4
    rw [e] at h2 h3
    exact ⟨g, k, a1, c1, e1, hk, (cell_of_row _ _ _ _ _ _ hg).trans h3, h2⟩
end Go.Proofs.Ythgkloapnihpaaa
