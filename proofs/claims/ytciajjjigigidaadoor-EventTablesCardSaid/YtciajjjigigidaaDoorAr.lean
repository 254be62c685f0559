/- How the arguments of the statements lie in memory, their capacities too. -/
import Derived.Test.YtciajjjigigidaaDoorLd
import Derived.SliceStrings
import Derived.Carry
namespace Go.Proofs.YtciajjjigigidaaDoor
open Go.ChangeShapes Go.WideShapes Go.ChangeAt Go.RowKit Go.Deep

theorem cells5 : Tryd.prog.cellsOf 5 = 1 := by kernel_rfl

theorem cell_spot {w : World} {a : Addr} {v : Value} (h : w.cell? a = some v) : a = ⟨a.block, a.off, none⟩ := by
  obtain ⟨b, o, s⟩ := a
  cases s with
  | none => rfl
  | some _ => simp [World.cell?] at h; split at h <;> simp_all

theorem add_flat (b o n : Nat) : (⟨b, o, none⟩ : Addr).add n = ⟨b, o + n, none⟩ := by
  unfold Addr.add
  split
  · rename_i h; subst h; rfl
  · rfl

/-- Bytes that came in, and their capacity. -/
theorem bytes_inc {H : Type} {enc : TypeId × Value → H} {W : World} {v : Value} {d : DataW H} {p : List MemPlace} (h : DataW.Trod enc Tryd.prog W 0 (fun _ => true) true 31 v d p) (hs : ∃ a n c, v = .slice a n c) :
    ∃ a c l, v = .slice a (l : List Nat).length c ∧ BAt W a l ∧ (∀ x ∈ l, x < 256) ∧ l.length ≤ 9223372036854775807 ∧ l.length ≤ c := by
  obtain ⟨a, n, c, rfl⟩ := hs
  by_cases hn : n = 0
  · exact ⟨a, c, [], by rw [hn]; rfl, .inl rfl, by simp, by simp, by simp⟩
  obtain ⟨fuel, hf⟩ := h
  rcases open_ints Tryd.underlying31 Tryd.underlying5 cells5 hf with ⟨e, _⟩ | ⟨a', len, cap, zs, e, _, hl, hmx, hz, _, hcell, hwz⟩
  · simp [Value.cells] at e; omega
  have e' : Value.slice a n c = Value.slice (some a') len cap := by simpa [Value.cells] using e
  cases e'
  have hnz : n ≤ zs.length := by rw [hz]; simp; omega
  have h0 := hcell 0 (by omega)
  have hsp := cell_spot (by simpa [Addr.add] using h0)
  have hb : ∀ i, (hi : i < n) → ∃ x : Nat, x < 256 ∧ zs.getD i 0 = (x : Int) := fun i hi => by
    have hi' : i < zs.length := by omega
    have hw := hwz (zs.getD i 0) (by simp [hi'])
    have hbd := bounds_u8 hw
    exact ⟨(zs.getD i 0).toNat, by omega, by omega⟩
  refine ⟨some a', c, (List.range n).map fun i => (zs.getD i 0).toNat, by simp, .inr ⟨a'.block, a'.off, congrArg some hsp, fun i hi => ?_⟩, ?_, by unfold maxLen at hmx; simp; omega, by simpa using hl⟩
  · have hi' : i < n := by simpa using hi
    have h1 := hcell i (by omega)
    rw [hsp, add_flat] at h1
    obtain ⟨x, hx, he⟩ := hb i hi'
    rw [h1]
    simp only [List.getElem?_map, List.getElem?_range hi', Option.map_some, Option.getD_some, he]
    simp
  · intro x hx
    simp only [List.mem_map, List.mem_range] at hx
    obtain ⟨i, hi, rfl⟩ := hx
    obtain ⟨y, hy, he⟩ := hb i hi
    rw [he]; simpa using hy


/-- Five parameters. -/
theorem trodAll_five {H : Type} {enc : TypeId × Value → H} {P : Program} {w : World} {base : Nat} {spare : Nat → Bool} {held : Bool} {t t' t'' t3 t4 : TypeId} {args : Array Value} {ds : List (DataW H)} {ps : List MemPlace} (h : DataW.TrodAll enc P w base spare held [t, t', t'', t3, t4] args.toList ds ps) :
    ∃ v v' v'' v3 v4 d d' d'' d3 d4 p p' p'' p3 p4, args = #[v, v', v'', v3, v4] ∧ ds = [d, d', d'', d3, d4] ∧ ps = p ++ p' ++ p'' ++ p3 ++ p4 ∧ DataW.Trod enc P w base spare held t v d p ∧ DataW.Trod enc P w base spare held t' v' d' p' ∧ DataW.Trod enc P w base spare held t'' v'' d'' p'' ∧ DataW.Trod enc P w base spare held t3 v3 d3 p3 ∧ DataW.Trod enc P w base spare held t4 v4 d4 p4 := by
  obtain ⟨v, vs, d, ds', p, q, hargs, rfl, rfl, hd, hrest⟩ := trodAll_cons h
  obtain ⟨v', vs', d', ds'', p', q', rfl, rfl, rfl, hd', hrest'⟩ := trodAll_cons hrest
  obtain ⟨v'', vs'', d'', ds''', p'', q'', rfl, rfl, rfl, hd'', hrest''⟩ := trodAll_cons hrest'
  obtain ⟨v3, vs3, d3, ds3, p3, q3, rfl, rfl, rfl, hd3, hrest3⟩ := trodAll_cons hrest''
  obtain ⟨v4, vs4, d4, ds4, p4, q4, rfl, rfl, rfl, hd4, hrest4⟩ := trodAll_cons hrest3
  obtain ⟨rfl, rfl, rfl⟩ := trodAll_nil hrest4
  exact ⟨v, v', v'', v3, v4, d, d', d'', d3, d4, p, p', p'', p3, p4, by cases args; simp_all, rfl, by simp, hd, hd', hd'', hd3, hd4⟩
theorem trodAll_mk5 {H : Type} {enc : TypeId × Value → H} {P : Program} {w : World} {base : Nat} {spare : Nat → Bool} {held : Bool} {t t' t'' t3 t4 : TypeId} {v v' v'' v3 v4 : Value} {d d' d'' d3 d4 : DataW H} {p p' p'' p3 p4 : List MemPlace} (h : DataW.Trod enc P w base spare held t v d p) (h' : DataW.Trod enc P w base spare held t' v' d' p')
    (h'' : DataW.Trod enc P w base spare held t'' v'' d'' p'') (h3 : DataW.Trod enc P w base spare held t3 v3 d3 p3) (h4 : DataW.Trod enc P w base spare held t4 v4 d4 p4) : DataW.TrodAll enc P w base spare held [t, t', t'', t3, t4] [v, v', v'', v3, v4] [d, d', d'', d3, d4] (p ++ (p' ++ (p'' ++ (p3 ++ p4)))) := ⟨p, p' ++ (p'' ++ (p3 ++ p4)), h, trodAll_mk4 h' h'' h3 h4, rfl⟩
end Go.Proofs.YtciajjjigigidaaDoor
