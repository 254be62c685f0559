/- Two rows of one's own, written over. -/
import Derived.Test.YtcjfcomadcebnaaGreatDoorM11
import Derived.Test.YtcjfcomadcebnaaGreatDoorDw
namespace Go.Proofs.YtcjfcomadcebnaaGreatDoor
open Go.RowKit Go.Maps Go.WideMaps Go.WideElems Go.ChangeShapes Go.WideShapes

theorem own_cell1 {W : World} {B g n c j : Nat} {e : TypeId} {size : Nat} {xs : List Value} (h : W.ownsRow B e size (.slice (some ⟨g, 0, none⟩) n c) n xs) (hj : j < n * size) : ∃ u, W.cell? ⟨g, j, none⟩ = some u ∧ W.frozen? ⟨g, j, none⟩ = false := by
  have hl := h.1
  have hj' : j < xs.length := by omega
  have hc := h.cells (g := g) rfl j _ (List.getElem?_eq_getElem hj')
  rw [Addr.add_lit, Nat.zero_add] at hc
  exact ⟨_, hc, h.frozenAt j⟩
theorem row_addr1 {W : World} {B : Nat} {e : TypeId} {size n c : Nat} {a : Option Addr} {xs : List Value} (h : W.ownsRow B e size (.slice a n c) n xs) (hn : 0 < n) : ∃ g, a = some ⟨g, 0, none⟩ := by
  rcases h.2 with ⟨e, h0⟩ | ⟨g, cap, cur, e, _⟩
  · omega
  · cases e
    exact ⟨g, rfl⟩
/-- The last of a row that was appended to. -/
theorem row_last {W : World} {B n : Nat} {e : TypeId} {v u : Value} {xs : List Value} (h : W.ownsRow B e 1 v (n + 1) (xs ++ [u])) : ∃ g c, v = .slice (some ⟨g, 0, none⟩) (n + 1) c ∧ W.cell? ⟨g, n, none⟩ = some u := by
  obtain ⟨a, c, rfl, -, -⟩ := row_sl h
  obtain ⟨g, rfl⟩ := row_addr1 h (by omega)
  have hl := h.1
  have hn : xs.length = n := by simp at hl; exact hl
  have hc := h.cells (g := g) rfl n u (by rw [List.getElem?_append_right (by omega)]; simp [hn])
  rw [Addr.add_lit, Nat.zero_add] at hc
  exact ⟨g, c, rfl, hc⟩
theorem row_keep1 {W W' : World} {B e size n : Nat} {v : Value} {xs : List Value} {row : Option Nat} (h : W.ownsRow B e size v n xs) (hg : W.grownBy W' row) (hr : ∀ k, row = some k → v.ownBlock ≠ some k) : W'.ownsRow B e size v n xs :=
  ⟨h.1, h.2.imp id fun ⟨g, cap, cur, e1, hB, hgg, r⟩ => ⟨g, cap, cur, e1, hB, (hg.block g (Array.getElem?_eq_some_iff.1 hgg).1 (fun e2 => hr g e2.symm (by rw [e1]; rfl))).trans hgg, r⟩⟩
theorem row_last2 {W : World} {B n g c : Nat} {e : TypeId} {u : Value} {xs : List Value} (h : W.ownsRow B e 1 (.slice (some ⟨g, 0, none⟩) (n + 1) c) (n + 1) (xs ++ [u])) : W.cell? ⟨g, n, none⟩ = some u := by
  have hl := h.1
  have hn : xs.length = n := by simp at hl; exact hl
  have hc := h.cells (g := g) rfl n u (by rw [List.getElem?_append_right (by omega)]; simp [hn])
  rw [Addr.add_lit, Nat.zero_add] at hc
  exact hc
/-- Two rows of one's own, each in its own block. -/
structure Ow2 (B : Nat) (w2 : World) (vx vy : Value) (nx ny : Nat) (W : World) : Prop where
  x : ∃ cs, W.ownsRow B 3 1 vx nx cs
  y : ∃ cs, W.ownsRow B 3 1 vy ny cs
  xy : ∀ k, vx.ownBlock = some k → vy.ownBlock ≠ some k
  below : Below B w2 W
theorem below_set1 {B g j : Nat} {w W : World} (h : Below B w W) (hg : B ≤ g) (u : Value) (hB : B ≤ W.heap.size) (hw : W.grownBy (W.setCell ⟨g, j, none⟩ u) (some g)) : Below B w (W.setCell ⟨g, j, none⟩ u) :=
  h.grown hw hB (fun k e => by cases e; exact hg)
section
variable {B : Nat} {w2 : World} {nx ny : Nat} {W : World}
theorem Ow2.setX {g c : Nat} {vy : Value} (h : Ow2 B w2 (.slice (some ⟨g, 0, none⟩) nx c) vy nx ny W) (hB : B ≤ w2.heap.size) (j : Nat) (u : Value) : Ow2 B w2 (.slice (some ⟨g, 0, none⟩) nx c) vy nx ny (W.setCell ⟨g, j, none⟩ u) := by
  obtain ⟨xs, hx⟩ := h.x
  obtain ⟨ys, hy⟩ := h.y
  have hs := hx.stored j u
  refine ⟨⟨_, hs.1⟩, ⟨ys, row_keep1 hy hs.2 (fun k e => by cases e; exact h.xy g rfl)⟩, h.xy, below_set1 h.below (hx.lt g rfl).1 u (Nat.le_trans hB h.below.size) hs.2⟩
theorem Ow2.setY {g c : Nat} {vx : Value} (h : Ow2 B w2 vx (.slice (some ⟨g, 0, none⟩) ny c) nx ny W) (hB : B ≤ w2.heap.size) (j : Nat) (u : Value) : Ow2 B w2 vx (.slice (some ⟨g, 0, none⟩) ny c) nx ny (W.setCell ⟨g, j, none⟩ u) := by
  obtain ⟨xs, hx⟩ := h.x
  obtain ⟨ys, hy⟩ := h.y
  have hs := hy.stored j u
  refine ⟨⟨xs, row_keep1 hx hs.2 (fun k e => by cases e; exact fun e => h.xy g e rfl)⟩, ⟨_, hs.1⟩, h.xy, below_set1 h.below (hy.lt g rfl).1 u (Nat.le_trans hB h.below.size) hs.2⟩
end
/-- Rows of different times lie in different blocks. -/
theorem rows_apart1 {W W' : World} {B B' : Nat} {e e' : TypeId} {s s' n n' : Nat} {v v' : Value} {xs xs' : List Value} (h : W.ownsRow B e s v n xs) (h' : W'.ownsRow B' e' s' v' n' xs') (hB : W.heap.size ≤ B') : ∀ k, v.ownBlock = some k → v'.ownBlock ≠ some k := fun k hk hk' => by
  have h1 := (h.lt k hk).2
  have h2 := (h'.lt k hk').1
  omega
end Go.Proofs.YtcjfcomadcebnaaGreatDoor
