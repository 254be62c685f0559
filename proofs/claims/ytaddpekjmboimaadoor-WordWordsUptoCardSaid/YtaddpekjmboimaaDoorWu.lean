/- Texts that came in, and how bulky they are. -/
import Derived.Test.YtaddpekjmboimaaDoorArc
import Derived.Test.YtaddpekjmboimaaDoorRows
import Derived.Lib.Join
namespace Go.Proofs.YtaddpekjmboimaaDoor
open Go.RowKit Go.Maps Go.WideMaps Go.WideElems Go.ChangeShapes Go.WideShapes

theorem bulk_strs {H : Type} : ∀ xs : List ByteArray, Rows.uptoBulkAll (H := H) (strs xs) = xs.length + (xs.map (·.size)).sum
  | [] => rfl
  | x :: r => by
    have := bulk_strs (H := H) r
    have e : strs (H := H) (x :: r) = .lit (.string x.data.toList) :: strs r := rfl
    rw [e, Rows.uptoBulkAll, this, Rows.uptoBulk]
    simp; omega

/-- Texts that came in: their number and their letters together are at most the datum's bulk. -/
theorem texts_upto {H : Type} {enc : TypeId × Value → H} {W : World} {v : Value} {d : DataW H} {p : List MemPlace} (h : DataW.Trod enc Tryd.prog W 0 (fun _ => true) true 22 v d p) (hs : ∃ a n c, v = .slice a n c) :
    ∃ a c l, v = .slice a (l : List (List UInt8)).length c ∧ TAt W a l ∧ l.length ≤ c ∧ l.length + Lib.lens l ≤ Rows.uptoBulk d := by
  obtain ⟨a, n, c, rfl⟩ := hs
  by_cases hn : n = 0
  · exact ⟨a, c, [], by rw [hn]; rfl, .inl rfl, by simp, by simp [Lib.lens]⟩
  obtain ⟨fuel, hf⟩ := h
  rcases open_strings Tryd.underlying22 Tryd.underlying9 cells9 hf with ⟨e, _⟩ | ⟨a', len, cap, ss, e, _, hl, hmx, hz, ed, hcell, hwz⟩
  · simp [Value.cells] at e; omega
  have e' : Value.slice a n c = Value.slice (some a') len cap := by simpa [Value.cells] using e
  cases e'
  have ed1 : d = .slice (strs (ss.take n)) (strs (ss.drop n)) := (Prod.mk.inj ed).1
  have hnz : n ≤ ss.length := by rw [hz]; simp; omega
  have h0 := hcell 0 (by omega)
  have hsp := cell_spot (by simpa [Addr.add] using h0)
  have hll : ((ss.take n).map fun x : ByteArray => x.data.toList).length = n := by simp; omega
  refine ⟨some a', c, (ss.take n).map fun x => x.data.toList, by rw [hll], .inr ⟨a'.block, a'.off, congrArg some hsp, fun i hi => ?_⟩, by rw [hll]; exact hl, ?_⟩
  · have hi' : i < n := by rw [hll] at hi; exact hi
    have h1 := hcell i (by omega)
    rw [hsp, add_flat] at h1
    rw [h1]
    have hi2 : i < ss.length := by omega
    simp only [List.getElem?_map, List.getElem?_take, if_pos hi', List.getElem?_eq_getElem hi2, Option.map_some, Option.getD_some, tv, arr_of, List.getD]
  · rw [ed1, Rows.uptoBulk, bulk_strs, hll]
    have : Lib.lens ((ss.take n).map fun x : ByteArray => x.data.toList) = ((ss.take n).map (·.size)).sum := by
      unfold Lib.lens
      rw [List.map_map]
      rfl
    rw [this]
    simp; omega
end Go.Proofs.YtaddpekjmboimaaDoor
