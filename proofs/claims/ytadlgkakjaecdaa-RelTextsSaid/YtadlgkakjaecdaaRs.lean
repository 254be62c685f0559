/- A row of pairs behind the library's sort: the same row, the pairs in another order. -/
import Derived.Test.YtadlgkakjaecdaaRb
import Derived.Shelf.SlSortCmp.InsertionK
import Derived.Sort.OwnSorted
namespace Go.Proofs.Ytadlgkakjaecdaa
open Go.RowKit Go.Maps Go.WideMaps Go.WideElems Go.ChangeShapes Go.WideShapes
open Go.Sort (flatK get_flatK size_flatK grow putRowK putRow HoldsK Holds putCells mapBlock onCells heap_grow_old)

def enc2 (p : Pr) : List Value := [.int .i64 p.1, .int .i64 p.2]
/-- Pairs, as cells. -/
def flat (l : List Pr) : List Value := l.flatMap enc2
theorem flat_len (l : List Pr) : (flat l).length = l.length * 2 := by
  induction l with
  | nil => rfl
  | cons p l ih => show (_ :: _ :: flat l).length = _; simp [ih]; omega
theorem flat_snoc (l : List Pr) (p : Pr) : flat (l ++ [p]) = flat l ++ enc2 p := by simp [flat]
theorem flat_get : ∀ (l : List Pr) (k : Nat) (h : k < l.length), (flat l)[k * 2]? = some (.int .i64 l[k].1) ∧ (flat l)[k * 2 + 1]? = some (.int .i64 l[k].2)
  | p :: l, 0, _ => ⟨rfl, rfl⟩
  | p :: l, k + 1, h => by
    obtain ⟨h0, h1⟩ := flat_get l k (by simpa using h)
    have e : ∀ j, (flat (p :: l))[(k + 1) * 2 + j]? = (flat l)[k * 2 + j]? := fun j => by
      show (_ :: _ :: flat l)[_]? = _
      rw [show (k + 1) * 2 + j = (k * 2 + j) + 1 + 1 by omega, List.getElem?_cons_succ, List.getElem?_cons_succ]
    exact ⟨(e 0).trans h0, (e 1).trans h1⟩
theorem flat_one (l : List Pr) : ∀ u ∈ flat l, u.oneCell' = true := by
  intro u hu
  obtain ⟨p, _, hp⟩ := List.mem_flatMap.1 hu
  simp [enc2] at hp
  rcases hp with rfl | rfl <;> rfl
theorem flatK_flat (l : List Pr) : (flatK enc2 2 l.toArray).toList = flat l := by
  refine List.ext_getElem? fun t => ?_
  by_cases ht : t < l.length * 2
  · have h1 := get_flatK enc2 2 l.toArray t (by simpa using ht)
    have hk : t / 2 < l.length := by omega
    obtain ⟨g0, g1⟩ := flat_get l (t / 2) hk
    have hs : t < (flatK enc2 2 l.toArray).size := by simpa using ht
    rw [Array.getElem?_toList, Array.getElem?_eq_getElem hs, ← getElem!_pos _ t hs, h1]
    have e1 : l.toArray[t / 2]! = l[t / 2] := by simp [hk]
    rw [e1]
    rcases (show t % 2 = 0 ∨ t % 2 = 1 by omega) with e | e
    · have e2 : t = t / 2 * 2 := by omega
      rw [e]
      conv => rhs; rw [e2]
      rw [g0]; rfl
    · have e2 : t = t / 2 * 2 + 1 := by omega
      rw [e]
      conv => rhs; rw [e2]
      rw [g1]; rfl
  · rw [List.getElem?_eq_none (by simp; omega), List.getElem?_eq_none (by rw [flat_len]; omega)]

theorem holds_pairs {W : World} {B g n c : Nat} {l : List Pr} (h : W.ownsRow B 57 2 (.slice (some ⟨g, 0, none⟩) n c) n (flat l)) (hl : l.length = n) : HoldsK enc2 2 W g 0 l.toArray := by
  rcases h.2 with ⟨e, _⟩ | ⟨g', cap, cur, e, _, hg, _, _, _, ht⟩
  · cases e
  cases e
  intro j hj
  have hj' : j < l.length * 2 := by simpa using hj
  refine ⟨?_, by simp [World.frozen?, hg]⟩
  have h1 : (cur.toList.take (n * 2))[j]? = (flat l)[j]? := by rw [ht]
  rw [List.getElem?_take_of_lt (by omega)] at h1
  simp only [World.cell?, hg, Nat.zero_add, Option.isSome_none, Bool.false_eq_true, if_false]
  rw [← Array.getElem?_toList, h1, ← flatK_flat, Array.getElem?_toList, Array.getElem?_eq_getElem hj, getElem!_pos _ j hj]
  rfl
theorem heap_sortedK {w : World} {g m : Nat} {os : Array Obj} {cur : Array Value} {e : TypeId} {fr : Nat × Nat} (d : Array Pr) (hb : w.heap[g]? = some (.cells cur e fr)) :
    (sortWorldK enc2 2 w g 0 m d os).heap[g]? = some (.cells (putCells id 0 (flatK enc2 2 d) cur) e fr) := by
  have hg : g < w.heap.size := (Array.getElem?_eq_some_iff.1 hb).1
  unfold sortWorldK
  rw [heap_grow_old _ _ (by simpa [putRowK, putRow, mapBlock, Sort.ahead] using hg)]
  simp [putRowK, putRow, mapBlock, Sort.ahead, Array.getElem?_modify, hb, onCells]
theorem grownBy_sortedK {w : World} {g m : Nat} {os : Array Obj} (d : Array Pr) : w.grownBy (sortWorldK enc2 2 w g 0 m d os) (some g) := by
  refine ⟨rfl, rfl, rfl, by simp [sortWorldK, grow, putRowK, putRow, mapBlock, Sort.ahead], fun k hk hne => ?_⟩
  unfold sortWorldK
  rw [heap_grow_old _ _ (by simpa [putRowK, putRow, mapBlock, Sort.ahead] using hk)]
  have : g ≠ k := fun e => hne (by rw [e])
  simp [putRowK, putRow, mapBlock, Sort.ahead, Array.getElem?_modify, this]
theorem take_sortedK (cur : Array Value) (l : List Pr) (h : l.length * 2 ≤ cur.size) : (putCells id 0 (flatK enc2 2 l.toArray) cur).toList.take (l.length * 2) = flat l := by
  refine List.ext_getElem? fun j => ?_
  by_cases hj : j < l.length * 2
  · have hs : j < (flatK enc2 2 l.toArray).size := by simpa using hj
    have e2 : (flat l)[j]? = some (flatK enc2 2 l.toArray)[j] := by rw [← flatK_flat, Array.getElem?_toList, Array.getElem?_eq_getElem hs]
    have hc : j < cur.size := by omega
    rw [List.getElem?_take_of_lt hj, Array.getElem?_toList, e2]
    simp [putCells, hj, hc]
  · rw [List.getElem?_take_eq_none (by omega), List.getElem?_eq_none (by rw [flat_len]; omega)]
theorem row_sortedK {w : World} {B g n c m : Nat} {os : Array Obj} {l l' : List Pr} (h : w.ownsRow B 57 2 (.slice (some ⟨g, 0, none⟩) n c) n (flat l)) (hl : l'.length = n) : (sortWorldK enc2 2 w g 0 m l'.toArray os).ownsRow B 57 2 (.slice (some ⟨g, 0, none⟩) n c) n (flat l') := by
  rcases h.2 with ⟨e, _⟩ | ⟨g', cap, cur, e, hB, hg, h1, h2, h3, _⟩
  · cases e
  cases e
  exact ⟨by rw [flat_len, hl], .inr ⟨g, c, _, rfl, hB, heap_sortedK _ hg, h1, h2, by simp [putCells, h3], by rw [← hl]; exact take_sortedK cur l' (by omega)⟩⟩
end Go.Proofs.Ytadlgkakjaecdaa
