/- What the listed variable gives a walk: the budget's error lies in its cell, a pointer; a world that meets the list. -/
import Derived.Test.YtgkdemdpknljkaaDoorCards
import Derived.Test.YtgkdemdpknljkaaDoorTie
import Derived.Test.YtgkdemdpknljkaaDoorBase
import Derived.ProofKit
import Derived.OpenShut
import Derived.ChangeSame
import Derived.ChangeVars
import Derived.LaidLaws
import Derived.LaidHandle
import Derived.MakeChecks
import Derived.Stop.ErrReads
import Derived.Deep.DeepHandedRow
import Derived.Deep.DeepWitnessRowRef
import Derived.Deep.Slices
import Derived.Deep.Fields
namespace Go.Proofs.YtgkdemdpknljkaaDoor
open Go.ChangeShapes Go.WideShapes Go.ChangeAt Go.RowKit

theorem own : ownKnob Tryd.prog.godebug = none := by kernel_rfl
theorem laidOut : laidOutB Tryd.prog = true := by kernel_rfl
theorem gName : Tryd.prog.globalNamed "umpire/api.ErrBudget" = some 0 := by kernel_rfl
theorem gType : (Tryd.prog.globals[0]?).map (·.type) = some 27 := by kernel_rfl
theorem cells105 : Tryd.prog.cellsOf 105 = 1 := by kernel_rfl
theorem cells9 : Tryd.prog.cellsOf 9 = 1 := by kernel_rfl
theorem star : "*" ++ "errors.errorString" = "*errors.errorString" := by decide
theorem row88 (u : TypeId) (h : Tryd.prog.typeName? 3 u = some "*errors.errorString") : u = 88 :=
  typeName_ptr_named (nm := "errors.errorString") (by rw [star]; kernel_rfl) (by kernel_rfl) (by decide) u (by rw [star]; exact h)

abbrev laidList : List (String × DataW Unit) := [("umpire/api.ErrBudget", Rows.laid_umpire_api_ErrBudget)]

theorem budget_of_laid {W : World} (hH : laidMetH Tryd.prog laidList W) : ∃ ea : Addr, W.cell? ⟨0, 0, none⟩ = some (.iface 88 (.pointer (some ea))) := by
  have h : laidMet Tryd.prog laidList W := by rw [← MakeChecks.laidMetH_plain Tryd.prog laidList W (by kernel_rfl)]; exact hH
  obtain ⟨ps, ⟨g0, t0, cs0, f0, p0, q0, hg0, ht0, hv0, hd0, hq0, e0⟩, hnd, hrows⟩ := h
  obtain rfl := Option.some.inj (gName.symm.trans hg0)
  obtain rfl := Option.some.inj (gType.symm.trans ht0)
  have hq0' : q0 = [] := hq0
  subst hq0'
  subst e0
  obtain ⟨l0⟩ := cs0
  have ok0 : ∀ u v, l0 = [.iface u v] → Value.okWide Tryd.prog W .any 0 u v := fun u v e => by
    subst e
    exact (hrows 0 0 (by simp [MemPlace.row])).2 u v (by simpa using World.var?_cell gName hv0 0)
  obtain ⟨a0, s0, rfl, hc0, hs0, hz0, rfl⟩ := errorString_of_trod Tryd.underlying27 row88 Tryd.underlying88 Tryd.underlying105 rfl rfl Tryd.underlying9 cells105 cells9 hd0 ok0
  exact ⟨a0, by simpa using World.var?_cell gName hv0 0⟩

abbrev budgetS : ByteArray := { data := #[116, 104, 101, 32, 115, 101, 97, 114, 99, 104, 32, 104, 97, 115, 32, 115, 101, 101, 110, 32, 116, 111, 111, 32, 109, 117, 99, 104] }
noncomputable def low : Nat := (World.holding Tryd.prog default ⟨#[], #[], []⟩).heap.size
noncomputable def laidWorld (os : Os) : World :=
  let w0 := World.holding Tryd.prog os ⟨#[.cells #[.string budgetS] 105], #[], []⟩
  { w0 with heap := w0.heap.modify 0 fun
      | .cells _ t frozen => .cells #[.iface 88 (.pointer (some ⟨low, 0, none⟩))] t frozen
      | o => o }
theorem laid_met (os : Os) (args : Array Value) : laidMet Tryd.prog laidList ((laidWorld os).forCall (fun _ _ => 0) ⟨#[], args, []⟩).memory :=
  laidMet_of_run (ps := [.cell 0 0, .cell low 0]) 8 (by kernel_rfl) (by kernel_rfl) (by kernel_rfl)
theorem laid_metH (os : Os) (args : Array Value) : laidMetH Tryd.prog laidList ((laidWorld os).forCall (fun _ _ => 0) ⟨#[], args, []⟩).memory := by
  rw [MakeChecks.laidMetH_plain Tryd.prog laidList _ (by kernel_rfl)]; exact laid_met os args
end Go.Proofs.YtgkdemdpknljkaaDoor
