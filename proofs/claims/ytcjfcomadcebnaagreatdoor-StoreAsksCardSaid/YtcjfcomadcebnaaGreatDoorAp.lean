/- Numbers and a call that came in. -/
import Derived.Test.YtcjfcomadcebnaaGreatDoorM12
namespace Go.Proofs.YtcjfcomadcebnaaGreatDoor
open Go.ChangeShapes Go.WideShapes Go.ChangeAt Go.RowKit Go.Deep

set_option maxRecDepth 100000 in
/-- Whole numbers that came in, as a row. -/
theorem ints_sl {H : Type} {enc : TypeId × Value → H} {W : World} {base : Nat} {v : Value} {d : DataW H} {p : List MemPlace} (hv : Value.okWide Tryz.prog W .any base 37 v) (h : DataW.Trod enc Tryz.prog W 0 (fun _ => true) true 37 v d p) :
    ∃ a c, ∃ l : List Int, v = .slice a l.length c ∧ SlAt W a (ic l) := by
  obtain ⟨a, c, l, rfl, hi⟩ := ints_inc h (okWide_slice Tryz.underlying37 hv)
  have hs := slice_spot Tryz.underlying37 hv
  rcases hi with rfl | ⟨b, off, rfl, hc⟩
  · exact ⟨a, c, [], rfl, slAt_nil (hs.imp (fun h => ⟨h.1, rfl, h.2.2⟩) id)⟩
  · refine ⟨_, c, l, rfl, .inr ⟨b, off, rfl, fun hne => ?_, fun j u hj => ?_⟩⟩
    · have h0 : 0 < l.length := by
        cases l with
        | nil => exact absurd rfl hne
        | cons x l => simp
      exact World.block_lt_of_cell? W _ (hc 0 h0)
    · have hj' : j < l.length := by have := (List.getElem?_eq_some_iff.1 hj).1; simpa using this
      rw [hc j hj']
      rw [List.getElem?_map, List.getElem?_eq_getElem hj'] at hj
      rw [List.getElem?_eq_getElem hj']
      simpa using hj
set_option maxRecDepth 100000 in
/-- A call that came in. -/
theorem call_inc {H : Type} {enc : TypeId × Value → H} {W : World} {b0 : Nat} {v : Value} {d : DataW H} {p : List MemPlace} (hv : Value.okWide Tryz.prog W .any b0 68 v) (h : DataW.Trod enc Tryz.prog W 0 (fun _ => true) true 68 v d p) :
    ∃ co : CO, v = .agg #[.int .i64 co.obj, .int .i64 co.op, .int .i64 co.key, .int .i64 co.val] ∧ fits64 co.key ∧ fits64 co.val := by
  obtain ⟨v0, v1, v2, v3, y0, y1, y2, y3, n, rfl, _, _, h0, h1, h2, h3⟩ := Go.Joins.open_agg4 Tryz.underlying68 (by kernel_rfl) (by kernel_rfl) hv h
  obtain ⟨a0, e0, _, _⟩ := DataW.trod_int Tryz.underlying3 h0
  obtain ⟨a1, e1, _, f1⟩ := DataW.trod_int Tryz.underlying3 h1
  obtain ⟨a2, e2, _, f2⟩ := DataW.trod_int Tryz.underlying3 h2
  obtain ⟨a3, e3, _, f3⟩ := DataW.trod_int Tryz.underlying3 h3
  simp only [List.cons.injEq, and_true] at e0 e1 e2 e3
  subst e0; subst e1; subst e2; subst e3
  exact ⟨⟨a0, a1, a2, a3⟩, rfl, fits_wf f2, fits_wf f3⟩
end Go.Proofs.YtcjfcomadcebnaaGreatDoor
