/- Histories as two rows; the four histories as numbers. -/
import Derived.Test.YtdemoikadojepaaSe
namespace Go.Proofs.Ytdemoikadojepaa
open Go.RowKit Go.Maps Go.WideMaps Go.WideElems Go.ChangeShapes Go.WideShapes
def staleE : List Int := [1, 1, 0, 0, 0, 0, 0, 0, 2, 1, 0, 0, 2, 0, 1, 0, 3, 1, 0, 0, 0, 0, 0, 1, 4, 1, 0, 0, 0, 0, 0, 0, 5, 1, 0, 0, 0, 0, 0, 0, 1, 2, 1, 0, 0, 0, 0, 0, 2, 2, 0, 0, 1, 0, 0, 0, 3, 2, 0, 0, 0, 0, 0, 3, 4, 2, 0, 0, 0, 0, 0, 0, 5, 2, 0, 0, 0, 0, 0, 0]
def staleO : List Int := [1, 0]
def tornE : List Int := [1, 2, 1, 0, 0, 0, 0, 0, 2, 2, 0, 0, 1, 0, 0, 0, 3, 2, 0, 0, 0, 0, 0, 3, 1, 1, 0, 0, 0, 0, 0, 0, 2, 1, 0, 0, 2, 0, 1, 0, 3, 1, 0, 0, 0, 0, 0, 1, 2, 1, 0, 1, 2, 0, 1, 0, 3, 1, 0, 0, 0, 0, 0, 1, 4, 1, 0, 0, 0, 0, 0, 0, 5, 1, 0, 0, 0, 0, 0, 0, 2, 2, 0, 1, 1, 0, 0, 0, 3, 2, 0, 0, 0, 0, 1, 3, 7, 2, 0, 0, 0, 0, 0, 0, 6, 2, 0, 0, 0, 0, 0, 0]
def tornO : List Int := [1, 0, 1, 0]
def earlyE : List Int := [1, 1, 0, 0, 0, 0, 0, 0, 2, 1, 0, 0, 2, 0, 1, 0, 3, 1, 0, 0, 0, 0, 0, 1, 1, 2, 1, 0, 0, 0, 0, 0, 2, 2, 0, 0, 1, 0, 0, 0, 3, 2, 0, 0, 0, 0, 1, 3, 4, 1, 0, 0, 0, 0, 0, 0, 5, 1, 0, 0, 0, 0, 0, 0, 4, 2, 0, 0, 0, 0, 0, 0, 5, 2, 0, 0, 0, 0, 0, 0]
def earlyO : List Int := [1, 0]
def plainE : List Int := [1, 1, 0, 0, 0, 0, 0, 0, 2, 1, 0, 0, 1, 0, 0, 0, 3, 1, 0, 0, 0, 0, 5, 3, 2, 1, 0, 1, 3, 0, 2, 0, 3, 1, 0, 0, 0, 0, 0, 1, 2, 1, 0, 2, 5, 0, 7, 0, 3, 1, 0, 0, 0, 0, 0, 1, 2, 1, 0, 3, 7, 1, 3, 0, 3, 1, 0, 0, 0, 0, 0, 1, 4, 1, 0, 0, 0, 0, 0, 0, 5, 1, 0, 0, 0, 0, 0, 0, 1, 2, 1, 0, 0, 0, 0, 0, 2, 2, 0, 0, 1, 0, 0, 0, 3, 2, 0, 0, 0, 0, 5, 3, 2, 2, 0, 1, 4, 0, 0, 0, 3, 2, 0, 0, 0, 0, 2, 3, 2, 2, 0, 2, 6, 0, 0, 0, 3, 2, 0, 0, 0, 0, 7, 3, 2, 2, 0, 2, 6, 0, 0, 0, 3, 2, 0, 0, 0, 0, 0, 2, 2, 2, 0, 3, 8, 1, 0, 0, 3, 2, 0, 0, 0, 0, 3, 3, 2, 2, 0, 3, 9, 1, 0, 0, 3, 2, 0, 0, 0, 0, 3, 3, 4, 2, 0, 0, 0, 0, 0, 0]
def plainO : List Int := [1, 5, 2, 0, 3, 0, 4, 0]

/-- A history: its objects and its events, rows of their own. -/
structure HistAt (B : Nat) (vo v : Value) (no n : Nat) (O F : List Int) (W : World) : Prop where
  le : B ≤ W.heap.size
  obj : W.ownsRow B 52 2 vo no (ints O)
  evs : W.ownsRow B 41 8 v n (ints F)
  apart : ∀ k, vo.ownBlock = some k → v.ownBlock ≠ some k
/-- What a call gives that answers a history. -/
def HistRes (no n : Nat) (O F : List Int) (w : World) (e : Ending) (w' : World) : Prop :=
  ∃ vo v, e = .returned (.agg #[vo, v]) ∧ Hid (HistAt w.heap.size vo v no n O F w' ∧ Below w.heap.size w w')
theorem HistAt.below {B : Nat} {vo v : Value} {no n : Nat} {O F : List Int} {W W' : World} (h : HistAt B vo v no n O F W) (hb : Below W.heap.size W W') : HistAt B vo v no n O F W' :=
  ⟨Nat.le_trans h.le hb.size, row_below h.obj hb, row_below h.evs hb, h.apart⟩
theorem HistAt.base {B B' : Nat} {vo v : Value} {no n : Nat} {O F : List Int} {W : World} (h : HistAt B vo v no n O F W) (hB : B' ≤ B) : HistAt B' vo v no n O F W :=
  ⟨Nat.le_trans hB h.le, row_base h.obj hB, row_base h.evs hB, h.apart⟩
/-- A builder without events. -/
theorem bd_start {p : Nat} {vo : Value} {W : World} (hp : W.heap[p]? = some (.cells #[vo, .slice none 0 0] 60)) : BdAt p W.heap.size vo 0 [] (.slice none 0 0) W :=
  ⟨hp, (Array.getElem?_eq_some_iff.1 hp).1, Nat.le_refl _, World.ownsRow_nil _ _ _ _⟩
/-- The result's box, in the worlds behind. -/
theorem told_row {p r : Nat} {v : Value} {W W' : World} {x : Obj} (ht : Told p (.slice none 0 0) W v W') (hr : W.heap[r]? = some x) (hne : r ≠ p) : W'.heap[r]? = some x :=
  (ht.block r (Array.getElem?_eq_some_iff.1 hr).1 hne (by simp [Value.ownBlock])).trans hr
theorem set_pair {W : World} {r : Nat} {x y u v : Value} {t : TypeId} (h : W.heap[r]? = some (.cells #[x, y] t)) : ((W.setCell ⟨r, 0, none⟩ u).setCell ⟨r, 1, none⟩ v).heap[r]? = some (.cells #[u, v] t) :=
  heap_setCell_same _ r 1 _ _ _ (heap_setCell_same W r 0 _ _ _ h)
/-- The result's box written over. -/
theorem pair_facts {W : World} {r : Nat} {x y : Value} {t : TypeId} (h : W.heap[r]? = some (.cells #[x, y] t)) (u : Value) :
    (W.cell? ⟨r, 0, none⟩ = some x ∧ W.frozen? ⟨r, 0, none⟩ = false) ∧ (W.setCell ⟨r, 0, none⟩ u).cell? ⟨r, 1, none⟩ = some y ∧ (W.setCell ⟨r, 0, none⟩ u).frozen? ⟨r, 1, none⟩ = false := by
  have h2 := heap_setCell_same W r 0 _ _ u h
  refine ⟨⟨(row_two h).1, frozen_of_row _ _ 0 _ _ h⟩, ?_, frozen_of_row _ _ 1 _ _ h2⟩
  exact (cell_of_row _ _ 1 _ _ _ h2).trans rfl
/-- The builder's history, laid into the result's box. -/
theorem hist_end {p r no n : Nat} {O F : List Int} {vo v : Value} {w w3 w5 wn : World} (h3 : Below w.heap.size w w3) (hr : w.heap.size ≤ r) (hrl : r < w3.heap.size) (hp : w.heap.size ≤ p) (ho : w5.ownsRow w3.heap.size 52 2 vo no (ints O)) (h5 : Told p (.slice none 0 0) w3 vo w5) (H : BdAt p w5.heap.size vo n F v wn) (ht : Told p (.slice none 0 0) w5 v wn) (hpl : p < w3.heap.size) :
    HistAt w.heap.size vo v no n O F ((wn.setCell ⟨r, 0, none⟩ vo).setCell ⟨r, 1, none⟩ v) ∧ Below w.heap.size w ((wn.setCell ⟨r, 0, none⟩ vo).setCell ⟨r, 1, none⟩ v) := by
  have hb5 : Below w.heap.size w w5 := h3.trans ⟨h5.os, h5.tape, h5.output, h5.size, fun k hk => h5.block k (Nat.lt_of_lt_of_le hk h3.size) (by omega) (by simp [Value.ownBlock])⟩
  have hbn : Below w.heap.size w wn := hb5.trans ⟨ht.os, ht.tape, ht.output, ht.size, fun k hk => ht.block k (Nat.lt_of_lt_of_le hk hb5.size) (by omega) (by simp [Value.ownBlock])⟩
  have hon : wn.ownsRow w3.heap.size 52 2 vo no (ints O) := row_kept ho fun k hk hk2 => ht.block k hk2 (by omega) (by simp [Value.ownBlock])
  have hend := (hbn.setCell (p := ⟨r, 0, none⟩) hr vo).setCell (p := ⟨r, 1, none⟩) hr v
  refine ⟨⟨hend.size, ?_, ?_, fun k hk => ?_⟩, hend⟩
  · exact row_base (ownsRow_setCell_below (ownsRow_setCell_below hon hrl _) hrl _) h3.size
  · have h6 : r < w5.heap.size := Nat.lt_of_lt_of_le hrl h5.size
    exact row_base (ownsRow_setCell_below (ownsRow_setCell_below H.row h6 _) h6 _) hb5.size
  · intro e
    have h7 := (H.row.lt k e).1
    have h8 := (ho.lt k hk).2
    omega
end Go.Proofs.Ytdemoikadojepaa
