/- What stands ahead and behind, as the document's list says it. -/
import Derived.Test.YtadlgkakjaecdaaAu
import Derived.Test.YtadlgkakjaecdaaFr
namespace Go.Proofs.Ytadlgkakjaecdaa
open Go.RowKit Go.Maps Go.WideMaps Go.WideElems Go.ChangeShapes Go.WideShapes

theorem ahead_doc (r b : Nat) (L : List Pr) (D : DU) (hn : L.length ≤ 1000000) (M : List Pr) (hM : ∀ q, q ∈ L ↔ q ∈ M) (x : Int) (w : World) (h : RelAt r b L D w) :
    Calls Try.prog 16 #[.pointer (some ⟨r, 0, none⟩), .int .i64 x] w fun e w' => ∃ a' c', e = .returned (.slice a' (aheadI M x).length c') ∧ Hid (SlI w' a' (aheadI M x) ∧ w'.ownsRow w.heap.size 3 1 (.slice a' (aheadI M x).length c') (aheadI M x).length (intsC (aheadI M x)) ∧ Below w.heap.size w w') := by
  refine (ahead_any r b L D hn x w h).mono ?_
  rintro e w' ⟨v, l, rfl, h1⟩
  have hl : l = aheadI M x := riseI_ext h1.out.1 (rise_aheadI M x) (fun z => (h1.out.2.1 z).trans ((hM _).trans (mem_aheadI M x z).symm))
  subst hl
  have hrow := h1.out.2.2.1
  obtain ⟨a, c, rfl, _, hs⟩ := row_slI hrow
  exact ⟨a, c, rfl, hs, hrow, h1.out.2.2.2⟩
theorem behind_doc (r b : Nat) (L : List Pr) (D : DU) (hn : L.length ≤ 1000000) (M : List Pr) (hM : ∀ q, q ∈ L ↔ q ∈ M) (x : Int) (w : World) (h : RelAt r b L D w) :
    Calls Try.prog 18 #[.pointer (some ⟨r, 0, none⟩), .int .i64 x] w fun e w' => ∃ a' c', e = .returned (.slice a' (behindI M x).length c') ∧ Hid (SlI w' a' (behindI M x) ∧ w'.ownsRow w.heap.size 3 1 (.slice a' (behindI M x).length c') (behindI M x).length (intsC (behindI M x)) ∧ Below w.heap.size w w') := by
  refine (behind_any r b L D hn x w h).mono ?_
  rintro e w' ⟨v, l, rfl, h1⟩
  have hl : l = behindI M x := riseI_ext h1.out.1 (rise_behindI M x) (fun z => (h1.out.2.1 z).trans ((hM _).trans (mem_behindI M x z).symm))
  subst hl
  have hrow := h1.out.2.2.1
  obtain ⟨a, c, rfl, _, hs⟩ := row_slI hrow
  exact ⟨a, c, rfl, hs, hrow, h1.out.2.2.2⟩
end Go.Proofs.Ytadlgkakjaecdaa
