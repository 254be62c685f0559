/- How calls and an object lie in memory, as they came in. -/
import Derived.Test.YtgnpcbpbmalgiaaDoorAr
import Derived.Test.YtgnpcbpbmalgiaaDoorPb
namespace Go.Proofs.YtgnpcbpbmalgiaaDoor
open Go.ChangeShapes Go.WideShapes Go.ChangeAt Go.RowKit Go.Deep

theorem wf_fits {z : Int} (h : (Lit.int .i64 z).wf = true) : fits64 z := by
  unfold fits64
  have := bounds_i64 h
  omega
theorem int_fields {P : Program} {fs : Array Field} (h : (List.range fs.size).all (fun i => match fs[i]? with | some f => f.type == 3 | none => true) = true) (h3 : P.underlying 3 = some (.int .i64)) : ∀ (i : Nat) (f : Field), fs[i]? = some f → P.underlying f.type = some (.int .i64) := by
  intro i f hf
  have hlt := (Array.getElem?_eq_some_iff.1 hf).1
  have := List.all_eq_true.1 h i (List.mem_range.2 hlt)
  simp only [hf, beq_iff_eq] at this
  rw [this]; exact h3
/-- Calls that came in. -/
theorem calls_inc {H : Type} {enc : TypeId × Value → H} {W : World} {v : Value} {d : DataW H} {p : List MemPlace} (h : DataW.Trod enc Tryd.prog W 0 (fun _ => true) true 24 v d p) (hs : ∃ a n c, v = .slice a n c) :
    ∃ a c l, v = .slice a (l : List PC).length c ∧ CAt W a l ∧ CFit l := by
  obtain ⟨a, n, c, rfl⟩ := hs
  by_cases hn : n = 0
  · exact ⟨a, c, [], by rw [hn]; rfl, .inl rfl, fun _ h => absurd h (List.not_mem_nil)⟩
  obtain ⟨b, off, rfl, hb, _, _, hc⟩ := structs_inc (C := 3) Tryd.underlying24 Tryd.underlying37 (by kernel_rfl) (by kernel_rfl) rfl (by decide) (int_fields (by kernel_rfl) Tryd.underlying3) h hn
  refine ⟨_, c, (List.range n).map fun i => (cellNum W ⟨b, off + i * 3, none⟩, cellNum W ⟨b, off + i * 3 + 1, none⟩, cellNum W ⟨b, off + i * 3 + 2, none⟩), by simp, .inr ⟨b, off, rfl, hb, fun i hi => ?_⟩, fun x hx => ?_⟩
  · have hi' : i < n := by simpa using hi
    obtain ⟨z0, e0, _⟩ := hc i hi' 0 (by decide)
    obtain ⟨z1, e1, _⟩ := hc i hi' 1 (by decide)
    obtain ⟨z2, e2, _⟩ := hc i hi' 2 (by decide)
    rw [Nat.add_zero] at e0
    simp only [List.getElem?_map, List.getElem?_range hi', Option.map_some, Option.getD_some, cellNum, e0, e1, e2]
    exact ⟨trivial, trivial, trivial⟩
  · simp only [List.mem_map, List.mem_range] at hx
    obtain ⟨i, hi, rfl⟩ := hx
    obtain ⟨z1, e1, f1⟩ := hc i hi 1 (by decide)
    obtain ⟨z2, e2, f2⟩ := hc i hi 2 (by decide)
    simp only [cellNum, e1, e2]
    exact ⟨wf_fits f1, wf_fits f2⟩
set_option maxRecDepth 100000 in
/-- A call that came in. -/
theorem pc_inc {H : Type} {enc : TypeId × Value → H} {W : World} {b0 : Nat} {v : Value} {d : DataW H} {p : List MemPlace} (hv : Value.okWide Tryd.prog W .any b0 37 v) (h : DataW.Trod enc Tryd.prog W 0 (fun _ => true) true 37 v d p) :
    ∃ pc : PC, v = .agg #[.int .i64 pc.1, .int .i64 pc.2.1, .int .i64 pc.2.2] ∧ fits64 pc.2.1 ∧ fits64 pc.2.2 := by
  obtain ⟨v0, v1, v2, y0, y1, y2, n, rfl, _, _, h0, h1, h2⟩ := Go.Joins.open_agg3 Tryd.underlying37 (by kernel_rfl) (by kernel_rfl) hv h
  obtain ⟨a0, e0, _, _⟩ := DataW.trod_int Tryd.underlying3 h0
  obtain ⟨a1, e1, _, f1⟩ := DataW.trod_int Tryd.underlying3 h1
  obtain ⟨a2, e2, _, f2⟩ := DataW.trod_int Tryd.underlying3 h2
  simp only [List.cons.injEq, and_true] at e0 e1 e2
  subst e0; subst e1; subst e2
  exact ⟨(a0, a1, a2), rfl, wf_fits f1, wf_fits f2⟩
set_option maxRecDepth 100000 in
/-- An object that came in. -/
theorem obj_inc {H : Type} {enc : TypeId × Value → H} {W : World} {b0 : Nat} {v : Value} {d : DataW H} {p : List MemPlace} (hv : Value.okWide Tryd.prog W .any b0 23 v) (h : DataW.Trod enc Tryd.prog W 0 (fun _ => true) true 23 v d p) :
    ∃ k i : Int, v = .agg #[.int .i64 k, .int .i64 i] := by
  obtain ⟨v0, v1, y0, y1, n, rfl, _, _, h0, h1⟩ := Go.Joins.open_agg2 Tryd.underlying23 (by kernel_rfl) (by kernel_rfl) hv h
  obtain ⟨a0, e0, _, _⟩ := DataW.trod_int Tryd.underlying3 h0
  obtain ⟨a1, e1, _, f1⟩ := DataW.trod_int Tryd.underlying3 h1
  simp only [List.cons.injEq, and_true] at e0 e1
  subst e0; subst e1
  exact ⟨a0, a1, rfl⟩
end Go.Proofs.YtgnpcbpbmalgiaaDoor
