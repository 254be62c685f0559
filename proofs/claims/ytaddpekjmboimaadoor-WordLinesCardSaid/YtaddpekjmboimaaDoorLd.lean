/- What the listed variables give a walk: each error lies in its cell, a pointer; the table of powers of ten lies whole; a world that meets the list. -/
import Derived.Test.YtaddpekjmboimaaDoorCards
import Derived.Test.YtaddpekjmboimaaDoorTie
import Derived.Test.YtaddpekjmboimaaDoorWf
import Derived.ProofKit
import Derived.OpenShut
import Derived.ChangeSame
import Derived.ChangeVars
import Derived.LaidLaws
import Derived.LaidSub
import Derived.LaidHandle
import Derived.MakeChecks
import Derived.Stop.ErrReads
import Derived.Deep.DeepHandedRow
import Derived.Deep.DeepWitnessRowRef
import Derived.Deep.Slices
import Derived.HandedShaped
namespace Go.Proofs.YtaddpekjmboimaaDoor
open Go.ChangeShapes Go.WideShapes Go.ChangeAt Go.RowKit

theorem own : ownKnob Tryd.prog.godebug = none := by kernel_rfl
theorem laidOut : laidOutB Tryd.prog = true := by kernel_rfl
theorem cells117 : Tryd.prog.cellsOf 117 = 1 := by kernel_rfl
theorem cells9 : Tryd.prog.cellsOf 9 = 1 := by kernel_rfl
theorem star : "*" ++ "errors.errorString" = "*errors.errorString" := by decide
theorem row115 (u : TypeId) (h : Tryd.prog.typeName? 3 u = some "*errors.errorString") : u = 115 :=
  typeName_ptr_named (nm := "errors.errorString") (by rw [star]; kernel_rfl) (by kernel_rfl) (by decide) u (by rw [star]; exact h)

abbrev laidList : List (String × DataW Unit) := Rows.wordBackRow.laid

set_option maxRecDepth 100000 in
theorem err_of_one {W : World} {name : String} {g : Nat} {text : List UInt8} (hg : Tryd.prog.globalNamed name = some g) (hty : (Tryd.prog.globals[g]?).map (·.type) = some 41)
    (h : laidMet Tryd.prog [(name, .iface "*errors.errorString" (.ptr (.agg [.lit (.string text)])))] W) : ∃ ea : Addr, W.cell? ⟨g, 0, none⟩ = some (.iface 115 (.pointer (some ea))) := by
  obtain ⟨ps, ⟨g0, t0, cs0, f0, p0, q0, hg0, ht0, hv0, hd0, hq0, e0⟩, hnd, hrows⟩ := h
  obtain rfl := Option.some.inj (hg.symm.trans hg0)
  obtain rfl := Option.some.inj (hty.symm.trans ht0)
  have hq0' : q0 = [] := hq0
  subst hq0'
  subst e0
  obtain ⟨l0⟩ := cs0
  have ok0 : ∀ u v, l0 = [.iface u v] → Value.okWide Tryd.prog W .any 0 u v := fun u v e => by
    subst e
    exact (hrows g 0 (by simp [MemPlace.row])).2 u v (by simpa using World.var?_cell hg hv0 0)
  obtain ⟨a0, s0, rfl, hc0, hs0, hz0, rfl⟩ := errorString_of_trod Tryd.underlying41 row115 Tryd.underlying115 Tryd.underlying117 rfl rfl Tryd.underlying9 cells117 cells9 hd0 ok0
  exact ⟨a0, by simpa using World.var?_cell hg hv0 0⟩

theorem one_of_laid {W : World} (hH : laidMetH Tryd.prog laidList W) (name : String) {one : List (String × DataW Unit)} (h1 : (laidList.filter fun x => x.1 == name) = one) (h2 : (one.all fun x => x.2.handleName?.isNone) = true) : laidMet Tryd.prog one W := by
  have h := hH.filter (fun x => x.1 == name)
  rw [h1, MakeChecks.laidMetH_plain Tryd.prog one W h2] at h
  exact h

theorem glob_of_laid {W : World} (hsh : W.ShapedOpen Tryd.prog) (hH : laidMetH Tryd.prog laidList W) : ∃ e0 e1 e2, Glob 115 e0 e1 e2 W := by
  obtain ⟨e0, h0⟩ := err_of_one (g := 0) (by kernel_rfl) (by kernel_rfl) (one_of_laid hH "umpire/api.ErrLong" (one := [("umpire/api.ErrLong", Rows.laid_umpire_api_ErrLong)]) (by kernel_rfl) (by kernel_rfl))
  obtain ⟨e1, h1⟩ := err_of_one (g := 1) (by kernel_rfl) (by kernel_rfl) (one_of_laid hH "umpire/api.ErrEnd" (one := [("umpire/api.ErrEnd", Rows.laid_umpire_api_ErrEnd)]) (by kernel_rfl) (by kernel_rfl))
  obtain ⟨e2, h2⟩ := err_of_one (g := 2) (by kernel_rfl) (by kernel_rfl) (one_of_laid hH "umpire/api.ErrNumber" (one := [("umpire/api.ErrNumber", Rows.laid_umpire_api_ErrNumber)]) (by kernel_rfl) (by kernel_rfl))
  obtain ⟨e4, h4⟩ := err_of_one (g := 4) (by kernel_rfl) (by kernel_rfl) (one_of_laid hH "strconv.ErrSyntax" (one := [("strconv.ErrSyntax", Rows.laid_strconv_ErrSyntax)]) (by kernel_rfl) (by kernel_rfl))
  obtain ⟨e5, h5⟩ := err_of_one (g := 5) (by kernel_rfl) (by kernel_rfl) (one_of_laid hH "strconv.ErrRange" (one := [("strconv.ErrRange", Rows.laid_strconv_ErrRange)]) (by kernel_rfl) (by kernel_rfl))
  have htab := Lib.tabIs_of_head (P := Tryd.prog) (W := W) (g := 8) (t := 119) (e := 60) (n := 20) (k := .u64) (zs := Lib.pow10Tab) (rest := []) (by kernel_rfl) (by kernel_rfl) (by kernel_rfl) (by kernel_rfl) (by kernel_rfl) (by kernel_rfl)
    (one_of_laid hH "internal/strconv.uint64pow10" (one := [("internal/strconv.uint64pow10", Lib.tabData .u64 Lib.pow10Tab)]) (by kernel_rfl) (by kernel_rfl))
  obtain ⟨m, hm⟩ := Tryd.laysM145.s1_3 W hsh
  have h8 := Lib.TabIs.cell htab (g := 8) (by kernel_rfl) 0 (by decide)
  exact ⟨e0, e1, e2, ⟨World.block_lt_of_cell? W _ h8, h0, h1, h2, ⟨m, hm⟩, ⟨_, _, h4⟩, ⟨_, _, h5⟩, htab⟩⟩

/-- The cells that a plain datum takes. -/
def flat1 : DataW Unit → List Value
  | .lit (.int k n) => [.int k n]
  | _ => []
def flat2 : DataW Unit → List Value
  | .agg ps => ps.flatMap fun x => match x with
    | .agg qs => qs.flatMap flat1
    | y => flat1 y
  | _ => []
def errText : DataW Unit → ByteArray
  | .iface _ (.ptr (.agg [.lit (.string s)])) => ⟨s.toArray⟩
  | _ => ⟨#[]⟩
noncomputable def low : Nat := (World.holding Tryd.prog default ⟨#[], #[], []⟩).heap.size
def filled (vs : Array Value) : Obj → Obj
  | .cells _ t fr => .cells vs t fr
  | o => o
noncomputable def laidWorld (os : Os) : World :=
  let w0 := World.holding Tryd.prog os ⟨#[.cells #[.string (errText Rows.laid_umpire_api_ErrLong)] 117, .cells #[.string (errText Rows.laid_umpire_api_ErrEnd)] 117, .cells #[.string (errText Rows.laid_umpire_api_ErrNumber)] 117, .cells #[.string (errText Rows.laid_strconv_ErrSyntax)] 117, .cells #[.string (errText Rows.laid_strconv_ErrRange)] 117], #[], []⟩
  let e := fun (h : Array Obj) (g k : Nat) => h.modify g (filled #[.iface 115 (.pointer (some ⟨low + k, 0, none⟩))])
  let t := fun (h : Array Obj) (g : Nat) (d : DataW Unit) => h.modify g (filled (flat2 d).toArray)
  { w0 with heap := t (t (t (t (t (e (e (e (e (e w0.heap 0 0) 1 1) 2 2) 4 3) 5 4) 6 Rows.laid_unicode_utf8_first) 7 Rows.laid_unicode_utf8_acceptRanges) 8 Rows.laid_internal_strconv_uint64pow10) 9 Rows.laid_math_bits_deBruijn32tab) 10 Rows.laid_math_bits_deBruijn64tab }

theorem laid_met (os : Os) (args : Array Value) : laidMet Tryd.prog laidList ((laidWorld os).forCall (fun _ _ => 0) ⟨#[], args, []⟩).memory :=
  laidMet_of_run' 8 (by kernel_rfl) (by kernel_rfl)
theorem laid_metH (os : Os) (args : Array Value) : laidMetH Tryd.prog laidList ((laidWorld os).forCall (fun _ _ => 0) ⟨#[], args, []⟩).memory := by
  rw [MakeChecks.laidMetH_plain Tryd.prog laidList _ (by kernel_rfl)]; exact laid_met os args
end Go.Proofs.YtaddpekjmboimaaDoor
