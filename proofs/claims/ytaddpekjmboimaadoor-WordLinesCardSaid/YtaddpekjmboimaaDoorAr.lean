/- How the arguments of the statements lie in memory: bytes, texts. -/
import Derived.Test.YtaddpekjmboimaaDoorLd
import Derived.SliceStrings
namespace Go.Proofs.YtaddpekjmboimaaDoor
open Go.ChangeShapes Go.WideShapes Go.ChangeAt Go.RowKit Go.Deep

theorem cells5 : Tryd.prog.cellsOf 5 = 1 := by kernel_rfl

theorem cell_spot {w : World} {a : Addr} {v : Value} (h : w.cell? a = some v) : a = ⟨a.block, a.off, none⟩ := by
  obtain ⟨b, o, s⟩ := a
  cases s with
  | none => rfl
  | some _ => simp [World.cell?] at h; split at h <;> simp_all

theorem add_flat (b o n : Nat) : (⟨b, o, none⟩ : Addr).add n = ⟨b, o + n, none⟩ := by
  unfold Addr.add
  split
  · rename_i h; subst h; rfl
  · rfl

/-- Bytes that came in. -/
theorem bytes_in {H : Type} {enc : TypeId × Value → H} {W : World} {v : Value} {d : DataW H} {p : List MemPlace} (h : DataW.Trod enc Tryd.prog W 0 (fun _ => true) true 31 v d p) (hs : ∃ a n c, v = .slice a n c) :
    ∃ a c l, v = .slice a (l : List Nat).length c ∧ BAt W a l ∧ (∀ x ∈ l, x < 256) ∧ l.length ≤ 9223372036854775807 := by
  obtain ⟨a, n, c, rfl⟩ := hs
  by_cases hn : n = 0
  · exact ⟨a, c, [], by rw [hn]; rfl, .inl rfl, by simp, by simp⟩
  obtain ⟨fuel, hf⟩ := h
  rcases open_ints Tryd.underlying31 Tryd.underlying5 cells5 hf with ⟨e, _⟩ | ⟨a', len, cap, zs, e, _, hl, hmx, hz, _, hcell, hwz⟩
  · simp [Value.cells] at e; omega
  have e' : Value.slice a n c = Value.slice (some a') len cap := by simpa [Value.cells] using e
  cases e'
  have hnz : n ≤ zs.length := by rw [hz]; simp; omega
  have h0 := hcell 0 (by omega)
  have hsp := cell_spot (by simpa [Addr.add] using h0)
  have hb : ∀ i, (hi : i < n) → ∃ x : Nat, x < 256 ∧ zs.getD i 0 = (x : Int) := fun i hi => by
    have hi' : i < zs.length := by omega
    have hw := hwz (zs.getD i 0) (by simp [hi'])
    have hbd := bounds_u8 hw
    exact ⟨(zs.getD i 0).toNat, by omega, by omega⟩
  refine ⟨some a', c, (List.range n).map fun i => (zs.getD i 0).toNat, by simp, .inr ⟨a'.block, a'.off, congrArg some hsp, fun i hi => ?_⟩, ?_, by unfold maxLen at hmx; simp; omega⟩
  · have hi' : i < n := by simpa using hi
    have h1 := hcell i (by omega)
    rw [hsp, add_flat] at h1
    obtain ⟨x, hx, he⟩ := hb i hi'
    rw [h1]
    simp only [List.getElem?_map, List.getElem?_range hi', Option.map_some, Option.getD_some, he]
    simp
  · intro x hx
    simp only [List.mem_map, List.mem_range] at hx
    obtain ⟨i, hi, rfl⟩ := hx
    obtain ⟨y, hy, he⟩ := hb i hi
    rw [he]; simpa using hy

/-- Texts that came in. -/
theorem texts_in {H : Type} {enc : TypeId × Value → H} {W : World} {v : Value} {d : DataW H} {p : List MemPlace} (h : DataW.Trod enc Tryd.prog W 0 (fun _ => true) true 22 v d p) (hs : ∃ a n c, v = .slice a n c) :
    ∃ a c l, v = .slice a (l : List (List UInt8)).length c ∧ TAt W a l ∧ (∀ x ∈ l, x.length ≤ maxLen) ∧ l.length ≤ 9223372036854775807 := by
  obtain ⟨a, n, c, rfl⟩ := hs
  by_cases hn : n = 0
  · exact ⟨a, c, [], by rw [hn]; rfl, .inl rfl, by simp, by simp⟩
  obtain ⟨fuel, hf⟩ := h
  rcases open_strings Tryd.underlying22 Tryd.underlying9 cells9 hf with ⟨e, _⟩ | ⟨a', len, cap, ss, e, _, hl, hmx, hz, _, hcell, hwz⟩
  · simp [Value.cells] at e; omega
  have e' : Value.slice a n c = Value.slice (some a') len cap := by simpa [Value.cells] using e
  cases e'
  have hnz : n ≤ ss.length := by rw [hz]; simp; omega
  have h0 := hcell 0 (by omega)
  have hsp := cell_spot (by simpa [Addr.add] using h0)
  refine ⟨some a', c, (List.range n).map fun i => (ss.getD i ByteArray.empty).data.toList, by simp, .inr ⟨a'.block, a'.off, congrArg some hsp, fun i hi => ?_⟩, ?_, by unfold maxLen at hmx; simp; omega⟩
  · have hi' : i < n := by simpa using hi
    have h1 := hcell i (by omega)
    rw [hsp, add_flat] at h1
    rw [h1]
    simp only [List.getElem?_map, List.getElem?_range hi', Option.map_some, Option.getD_some, tv, arr_of]
  · intro x hx
    simp only [List.mem_map, List.mem_range] at hx
    obtain ⟨i, hi, rfl⟩ := hx
    have hi' : i < ss.length := by omega
    have := hwz (ss.getD i ByteArray.empty) (by simp [hi'])
    simpa using this
end Go.Proofs.YtaddpekjmboimaaDoor
