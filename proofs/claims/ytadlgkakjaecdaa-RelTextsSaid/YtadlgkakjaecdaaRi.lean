/- A row of numbers behind the library's sort: the same row, its numbers rising. -/
import Derived.Test.YtadlgkakjaecdaaFi
import Derived.Test.YtadlgkakjaecdaaSi
import Derived.Test.YtadlgkakjaecdaaPi
import Derived.Shelf.Sort.Plain
import Derived.Shelf.Slices.In.SortNone
namespace Go.Proofs.Ytadlgkakjaecdaa
open Go.RowKit Go.Maps Go.WideMaps Go.WideElems Go.ChangeShapes Go.WideShapes
open Go.Sort (grow putRow Holds putCells mapBlock onCells heap_grow_old)

/-- Numbers, as cells. -/
def intsC (l : List Int) : List Value := l.map (Value.int .i64)
theorem intsC_len (l : List Int) : (intsC l).length = l.length := by simp [intsC]
theorem intsC_snoc (l : List Int) (x : Int) : intsC (l ++ [x]) = intsC l ++ [.int .i64 x] := by simp [intsC]
theorem intsC_get (l : List Int) (k : Nat) (h : k < l.length) : (intsC l)[k]? = some (.int .i64 l[k]) := by simp [intsC, h]
theorem intsC_one (l : List Int) : ∀ u ∈ intsC l, u.oneCell' = true := by
  intro u hu
  obtain ⟨p, _, rfl⟩ := List.mem_map.1 hu
  rfl
theorem holds_ints {W : World} {B g n c : Nat} {l : List Int} (h : W.ownsRow B 3 1 (.slice (some ⟨g, 0, none⟩) n c) n (intsC l)) (hl : l.length = n) : Holds (Value.int .i64) W g 0 l.toArray := by
  rcases h.2 with ⟨e, _⟩ | ⟨g', cap, cur, e, _, hg, _, _, _, ht⟩
  · cases e
  cases e
  intro j hj
  have hj' : j < l.length := by simpa using hj
  refine ⟨?_, by simp [World.frozen?, hg]⟩
  have h1 : (cur.toList.take (n * 1))[j]? = (intsC l)[j]? := by rw [ht]
  rw [List.getElem?_take_of_lt (by omega)] at h1
  simp only [World.cell?, hg, Nat.zero_add, Option.isSome_none, Bool.false_eq_true, if_false]
  rw [← Array.getElem?_toList, h1, intsC_get l j hj']
  simp [hj']
theorem heap_sortedI {w : World} {g m : Nat} {os : Array Obj} {cur : Array Value} {e : TypeId} {fr : Nat × Nat} (d : Array Int) (hb : w.heap[g]? = some (.cells cur e fr)) :
    (grow (putRow (Value.int .i64) (Sort.ahead w m) g 0 d) os).heap[g]? = some (.cells (putCells (Value.int .i64) 0 d cur) e fr) := by
  have hg : g < w.heap.size := (Array.getElem?_eq_some_iff.1 hb).1
  rw [heap_grow_old _ _ (by simpa [putRow, mapBlock, Sort.ahead] using hg)]
  simp [putRow, mapBlock, Sort.ahead, Array.getElem?_modify, hb, onCells]
theorem grownBy_sortedI {w : World} {g m : Nat} {os : Array Obj} (d : Array Int) : w.grownBy (grow (putRow (Value.int .i64) (Sort.ahead w m) g 0 d) os) (some g) := by
  refine ⟨rfl, rfl, rfl, by simp [grow, putRow, mapBlock, Sort.ahead], fun k hk hne => ?_⟩
  rw [heap_grow_old _ _ (by simpa [putRow, mapBlock, Sort.ahead] using hk)]
  have : g ≠ k := fun e => hne (by rw [e])
  simp [putRow, mapBlock, Sort.ahead, Array.getElem?_modify, this]
theorem take_sortedI (cur : Array Value) (l : List Int) (h : l.length ≤ cur.size) : (putCells (Value.int .i64) 0 l.toArray cur).toList.take l.length = intsC l := by
  refine List.ext_getElem? fun j => ?_
  by_cases hj : j < l.length
  · have hc : j < cur.size := by omega
    rw [List.getElem?_take_of_lt hj, Array.getElem?_toList, intsC_get l j hj]
    simp [putCells, hj, hc]
  · rw [List.getElem?_take_eq_none (by omega), List.getElem?_eq_none (by rw [intsC_len]; omega)]
theorem row_sortedI {w : World} {B g n c m : Nat} {os : Array Obj} {l l' : List Int} (h : w.ownsRow B 3 1 (.slice (some ⟨g, 0, none⟩) n c) n (intsC l)) (hl : l'.length = n) : (grow (putRow (Value.int .i64) (Sort.ahead w m) g 0 l'.toArray) os).ownsRow B 3 1 (.slice (some ⟨g, 0, none⟩) n c) n (intsC l') := by
  rcases h.2 with ⟨e, _⟩ | ⟨g', cap, cur, e, hB, hg, h1, h2, h3, _⟩
  · cases e
  cases e
  exact ⟨by rw [intsC_len, hl]; omega, .inr ⟨g, c, _, rfl, hB, heap_sortedI _ hg, h1, h2, by simp [putCells, h3], by rw [← hl, Nat.mul_one]; exact take_sortedI cur l' (by omega)⟩⟩
theorem sort_ints (B n : Nat) (v : Value) (l : List Int) (w : World) (h : w.ownsRow B 3 1 v n (intsC l)) (hl : l.length = n) (hn : n ≤ 1000000) (hd : l.Nodup) :
    Calls Try.prog 38 #[v] w fun e w' => e = .returned (.tuple #[]) ∧ ∃ l', Hid (RiseI l' ∧ (∀ z, z ∈ l' ↔ z ∈ l) ∧ l'.length = n ∧ w'.ownsRow B 3 1 v n (intsC l') ∧ w.grownBy w' v.ownBlock) := by
  rcases h.2 with ⟨rfl, h0⟩ | ⟨g, cap, cur, rfl, hB, hg, _⟩
  · have hl0 : l = [] := List.eq_nil_of_length_eq_zero (hl.trans h0)
    subst hl0
    refine (Any.slices_Sort_int_none Try.sortInts none 0 w).mono fun e w' ⟨h1, h2⟩ => ⟨h1, [], List.Pairwise.nil, fun _ => Iff.rfl, hl, h2 ▸ h, h2 ▸ World.grownBy.refl w _⟩
  · have hgs : g < w.heap.size := (Array.getElem?_eq_some_iff.1 hg).1
    have hcon := Any.slices_Sort_int Try.sortInts g 0 cap l w (holds_ints h hl) hgs (by omega)
    rw [hl] at hcon
    refine hcon.mono fun e w' ⟨h1, m, os, hw⟩ => ⟨h1, l.mergeSort fun x y => decide (x ≤ y), ?_, ?_, ?_, ?_, ?_⟩
    · have hp := List.mergeSort_perm l fun x y => decide (x ≤ y)
      have hs := List.pairwise_mergeSort (le := fun x y : Int => decide (x ≤ y)) (fun a b c h1 h2 => by simp at *; omega) (fun a b => by simp; omega) l
      have hnd := hp.symm.nodup hd
      refine (hs.and hnd).imp (fun {p q} hpq => ?_)
      have h2 : p ≤ q := by simpa using hpq.1
      have h3 := hpq.2
      omega
    · intro z
      exact (List.mergeSort_perm l fun x y => decide (x ≤ y)).mem_iff
    · rw [List.length_mergeSort, hl]
    · rw [hw]
      exact row_sortedI h (by rw [List.length_mergeSort, hl])
    · rw [hw]
      exact grownBy_sortedI _
/-- A slice of numbers out of a row. -/
theorem row_slI {W : World} {B : Nat} {e : TypeId} {n : Nat} {v : Value} {l : List Int} (h : W.ownsRow B e 1 v n (intsC l)) : ∃ a c, v = .slice a n c ∧ l.length = n ∧ SlI W a l := by
  have hln : l.length = n := by
    have := h.1
    rw [intsC_len] at this
    omega
  rcases h.2 with ⟨rfl, h0⟩ | ⟨g, cap, cur, rfl, hb, hg, hn, hm, hs, ht⟩
  · subst h0
    exact ⟨none, 0, rfl, hln, .inl (List.eq_nil_of_length_eq_zero hln)⟩
  · refine ⟨_, cap, rfl, hln, .inr ⟨g, 0, rfl, fun _ => (Array.getElem?_eq_some_iff.1 hg).1, fun k x hk => ?_⟩⟩
    obtain ⟨hk1, rfl⟩ := List.getElem?_eq_some_iff.1 hk
    have h1 := h.cellAt k (by omega)
    rw [intsC_get l k hk1] at h1
    rw [Nat.zero_add]
    exact h1
end Go.Proofs.Ytadlgkakjaecdaa
