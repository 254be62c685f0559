/- Texts; what the variables hold. -/
import Derived.Test.YtcjfcomadcebnaaGreatDoorShelf
import Derived.Test.YtcjfcomadcebnaaGreatDoorEt
import Derived.WalkSmall
import Derived.Lib.LaidTab
import Derived.Lib.AppendIntMem
import Derived.Lib.AtoiErrMem
import Derived.Lib.Hide
import Derived.WalkKit
import Derived.WalkLawsBesides
import Derived.OneCell
import Derived.LoopN
import Derived.LoopTactic
import Derived.Below
import Derived.WalkSpells
import Derived.BigQuiet
import Derived.Deep.QuietTactic
import Derived.Outline
namespace Go.Proofs.YtcjfcomadcebnaaGreatDoor
open Go.RowKit Go.Maps Go.WideMaps Go.WideElems Go.ChangeShapes Go.WideShapes

/-- The tables of words lie in their variable. -/
def WordsAt (w : World) : Prop := ∀ i, i < 70 → w.cell? ⟨1, i, none⟩ = some (.string ⟨(wflat.getD i []).toArray⟩)
/-- The bounds of a field. -/
def bndL : List Int := [1, 1000, 0, 7, 0, 7, 1, 9, 0, 1000, 1, 3, -1000000000, 1000000000]
/-- The bounds lie in their variable. -/
def BoundsAt (w : World) : Prop := ∀ i, i < 14 → w.cell? ⟨5, i, none⟩ = some (.int .i64 (bndL.getD i 0))

/-- What the variables hold that the calls read. The errors: 0 op, 2 event, 3 object, 5 many, 6 code. -/
structure Glob (T : TypeId) (er : Nat → Addr) (w : World) : Prop where
  size : 13 ≤ w.heap.size
  eOp : w.cell? ⟨2, 0, none⟩ = some (.iface T (.pointer (some (er 0))))
  eEvent : w.cell? ⟨3, 0, none⟩ = some (.iface T (.pointer (some (er 2))))
  eObject : w.cell? ⟨0, 0, none⟩ = some (.iface T (.pointer (some (er 3))))
  eMany : w.cell? ⟨4, 0, none⟩ = some (.iface T (.pointer (some (er 5))))
  eCode : w.cell? ⟨6, 0, none⟩ = some (.iface T (.pointer (some (er 6))))
  maxLen : ∃ m, w.cell? ⟨7, 0, none⟩ = some (.int .i64 m)
  eSyntax : ∃ tp p, w.cell? ⟨11, 0, none⟩ = some (.iface tp p)
  eRange : ∃ tp p, w.cell? ⟨12, 0, none⟩ = some (.iface tp p)
  tab : Lib.TabIs Tryz.prog w "internal/strconv.uint64pow10" .u64 Lib.pow10Tab
  words : WordsAt w
  bounds : BoundsAt w

theorem globTab : Tryz.prog.globalNamed "internal/strconv.uint64pow10" = some 8 := by kernel_rfl

theorem low_cell {w w' : World} {B : Nat} (hb : Below B w w') (hB : 13 ≤ B) (g i : Nat) (hg : g < 13) : w'.cell? ⟨g, i, none⟩ = w.cell? ⟨g, i, none⟩ := hb.cell (p := ⟨g, i, none⟩) (by show g < B; omega)
theorem Glob.below {T : TypeId} {er : Nat → Addr} {w w' : World} {B : Nat} (h : Glob T er w) (hb : Below B w w') (hB : 13 ≤ B) : Glob T er w' := by
  have k := low_cell hb hB
  exact ⟨Nat.le_trans h.size hb.size, (k 2 0 (by decide)).trans h.eOp, (k 3 0 (by decide)).trans h.eEvent, (k 0 0 (by decide)).trans h.eObject, (k 4 0 (by decide)).trans h.eMany, (k 6 0 (by decide)).trans h.eCode,
    h.maxLen.imp fun m hm => (k 7 0 (by decide)).trans hm, h.eSyntax.imp fun _ => Exists.imp fun _ hm => (k 11 0 (by decide)).trans hm, h.eRange.imp fun _ => Exists.imp fun _ hm => (k 12 0 (by decide)).trans hm,
    var?_below hb globTab (by omega) h.tab, fun i hi => (k 1 i (by decide)).trans (h.words i hi), fun i hi => (k 5 i (by decide)).trans (h.bounds i hi)⟩
theorem Glob.below' {T : TypeId} {er : Nat → Addr} {w w' : World} (h : Glob T er w) (hb : Below w.heap.size w w') : Glob T er w' := h.below hb h.size
theorem Glob.drew {T : TypeId} {er : Nat → Addr} {w : World} (h : Glob T er w) : Glob T er w.drew := ⟨h.size, h.eOp, h.eEvent, h.eObject, h.eMany, h.eCode, h.maxLen, h.eSyntax, h.eRange, h.tab, h.words, h.bounds⟩
theorem Glob.drewN {T : TypeId} {er : Nat → Addr} {w : World} (h : Glob T er w) (q : Nat) : Glob T er (w.drewN q) := ⟨h.size, h.eOp, h.eEvent, h.eObject, h.eMany, h.eCode, h.maxLen, h.eSyntax, h.eRange, h.tab, h.words, h.bounds⟩

/-- A text of these bytes. -/
abbrev tv (l : List UInt8) : Value := .string ⟨l.toArray⟩
abbrev tc (ls : List (List UInt8)) : List Value := ls.map tv

theorem tv_eq (x y : List UInt8) : ((⟨x.toArray⟩ : ByteArray).toList == (⟨y.toArray⟩ : ByteArray).toList) = decide (x = y) := by
  rw [ByteArray.toList_eq, ByteArray.toList_eq]
  by_cases h : x = y
  · subst h; simp
  · rw [decide_eq_false h]; simpa using h

end Go.Proofs.YtcjfcomadcebnaaGreatDoor
