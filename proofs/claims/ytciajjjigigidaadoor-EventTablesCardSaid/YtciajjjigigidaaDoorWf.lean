/- Texts in memory: the same or not; what the variables hold; Print and Number. -/
import Derived.Test.YtciajjjigigidaaDoorWd
import Derived.Test.YtciajjjigigidaaDoorVw
import Derived.Test.YtciajjjigigidaaDoorEt
import Derived.WalkSmall
import Derived.Lib.LaidTab
import Derived.Lib.AppendIntMem
import Derived.Lib.AtoiErrMem
namespace Go.Proofs.YtciajjjigigidaaDoor
open Go.RowKit Go.Maps Go.WideMaps Go.WideElems Go.ChangeShapes Go.WideShapes

/-- The tables of words lie in their variable. -/
def WordsAt (w : World) : Prop := ∀ i, i < 70 → w.cell? ⟨0, i, none⟩ = some (.string ⟨(wflat.getD i []).toArray⟩)
/-- The bounds of a field. -/
def bndL : List Int := [1, 1000, 0, 7, 0, 7, 1, 9, 0, 1000, 1, 3, -1000000000, 1000000000]
/-- The bounds lie in their variable. -/
def BoundsAt (w : World) : Prop := ∀ i, i < 14 → w.cell? ⟨8, i, none⟩ = some (.int .i64 (bndL.getD i 0))

/-- What the variables hold that the calls read. The errors: 0 long, 1 end, 2 number, 3 code, 4 words, 5 word, 6 event, 7 object. -/
structure Glob (T : TypeId) (er : Nat → Addr) (w : World) : Prop where
  size : 16 ≤ w.heap.size
  eNumber : w.cell? ⟨9, 0, none⟩ = some (.iface T (.pointer (some (er 2))))
  eCode : w.cell? ⟨1, 0, none⟩ = some (.iface T (.pointer (some (er 3))))
  eWords : w.cell? ⟨2, 0, none⟩ = some (.iface T (.pointer (some (er 4))))
  eWord : w.cell? ⟨3, 0, none⟩ = some (.iface T (.pointer (some (er 5))))
  eEvent : w.cell? ⟨6, 0, none⟩ = some (.iface T (.pointer (some (er 6))))
  eObject : w.cell? ⟨7, 0, none⟩ = some (.iface T (.pointer (some (er 7))))
  maxLen : ∃ m, w.cell? ⟨10, 0, none⟩ = some (.int .i64 m)
  eSyntax : ∃ tp p, w.cell? ⟨12, 0, none⟩ = some (.iface tp p)
  eRange : ∃ tp p, w.cell? ⟨13, 0, none⟩ = some (.iface tp p)
  tab : Lib.TabIs Tryd.prog w "internal/strconv.uint64pow10" .u64 Lib.pow10Tab
  words : WordsAt w
  bounds : BoundsAt w

theorem globTab : Tryd.prog.globalNamed "internal/strconv.uint64pow10" = some 11 := by kernel_rfl

theorem low_cell {w w' : World} {B : Nat} (hb : Below B w w') (hB : 16 ≤ B) (g i : Nat) (hg : g < 16) : w'.cell? ⟨g, i, none⟩ = w.cell? ⟨g, i, none⟩ := hb.cell (p := ⟨g, i, none⟩) (by show g < B; omega)
theorem Glob.below {T : TypeId} {er : Nat → Addr} {w w' : World} {B : Nat} (h : Glob T er w) (hb : Below B w w') (hB : 16 ≤ B) : Glob T er w' := by
  have k := low_cell hb hB
  exact ⟨Nat.le_trans h.size hb.size, (k 9 0 (by decide)).trans h.eNumber, (k 1 0 (by decide)).trans h.eCode, (k 2 0 (by decide)).trans h.eWords, (k 3 0 (by decide)).trans h.eWord, (k 6 0 (by decide)).trans h.eEvent, (k 7 0 (by decide)).trans h.eObject,
    h.maxLen.imp fun m hm => (k 10 0 (by decide)).trans hm, h.eSyntax.imp fun _ => Exists.imp fun _ hm => (k 12 0 (by decide)).trans hm, h.eRange.imp fun _ => Exists.imp fun _ hm => (k 13 0 (by decide)).trans hm,
    var?_below hb globTab (by omega) h.tab, fun i hi => (k 0 i (by decide)).trans (h.words i hi), fun i hi => (k 8 i (by decide)).trans (h.bounds i hi)⟩
theorem Glob.below' {T : TypeId} {er : Nat → Addr} {w w' : World} (h : Glob T er w) (hb : Below w.heap.size w w') : Glob T er w' := h.below hb h.size
/-- The same, and the errors of Get. -/
structure GlobX (T : TypeId) (er : Nat → Addr) (w : World) : Prop extends Glob T er w where
  eLong : w.cell? ⟨4, 0, none⟩ = some (.iface T (.pointer (some (er 0))))
  eEnd : w.cell? ⟨5, 0, none⟩ = some (.iface T (.pointer (some (er 1))))
theorem GlobX.below' {T : TypeId} {er : Nat → Addr} {w w' : World} (h : GlobX T er w) (hb : Below w.heap.size w w') : GlobX T er w' :=
  ⟨h.toGlob.below' hb, (low_cell hb h.size 4 0 (by decide)).trans h.eLong, (low_cell hb h.size 5 0 (by decide)).trans h.eEnd⟩

/-- A text of these bytes. -/
abbrev tv (l : List UInt8) : Value := .string ⟨l.toArray⟩
abbrev tc (ls : List (List UInt8)) : List Value := ls.map tv

/-- The texts lie at a. -/
def TAt (w : World) (a : Option Addr) (ls : List (List UInt8)) : Prop := ls = [] ∨ ∃ b off, a = some ⟨b, off, none⟩ ∧ ∀ i, i < ls.length → w.cell? ⟨b, off + i, none⟩ = some (tv (ls[i]?.getD []))

theorem TAt.below {w w' : World} {B : Nat} {a : Option Addr} {l : List (List UInt8)} (h : TAt w a l) (hb : Below B w w') (hB : ∀ p, a = some p → l ≠ [] → p.block < B) : TAt w' a l := by
  rcases h with rfl | ⟨b, off, rfl, h⟩
  · exact .inl rfl
  · by_cases hl : l = []
    · exact .inl hl
    · exact .inr ⟨b, off, rfl, fun i hi => (hb.cell (p := ⟨b, off + i, none⟩) (hB ⟨b, off, none⟩ rfl hl)).trans (h i hi)⟩
theorem TAt.lt {w : World} {a : Option Addr} {l : List (List UInt8)} (h : TAt w a l) : ∀ p, a = some p → l ≠ [] → p.block < w.heap.size := fun p e hl => by
  rcases h with h | ⟨b, off, e', h⟩
  · exact absurd h hl
  · rw [e] at e'; cases e'
    have := h 0 (by cases l with | nil => exact absurd rfl hl | cons => simp)
    exact World.block_lt_of_cell? w _ this
theorem TAt.below' {w w' : World} {a : Option Addr} {l : List (List UInt8)} (h : TAt w a l) (hb : Below w.heap.size w w') : TAt w' a l := h.below hb h.lt
theorem tat_row {w : World} {base : Nat} {v : Value} {l : List (List UInt8)} (h : w.ownsRow base 9 1 v l.length (tc l)) : ∃ a c, v = .slice a l.length c ∧ TAt w a l := by
  rcases h.2 with ⟨e, h0⟩ | ⟨g, cap, cur, e, hb, hg, _⟩
  · exact ⟨none, 0, by rw [e, h0], .inl (List.eq_nil_of_length_eq_zero h0)⟩
  · refine ⟨_, cap, e, .inr ⟨g, 0, rfl, fun i hi => ?_⟩⟩
    have := h.cells (g := g) (by rw [e]; rfl) i (tv (l[i]?.getD [])) (by simp [hi])
    have ea : ((⟨g, 0, none⟩ : Addr).add i) = ⟨g, 0 + i, none⟩ := by simp [Addr.add]; omega
    rw [ea] at this; exact this

theorem tv_eq (x y : List UInt8) : ((⟨x.toArray⟩ : ByteArray).toList == (⟨y.toArray⟩ : ByteArray).toList) = decide (x = y) := by
  rw [ByteArray.toList_eq, ByteArray.toList_eq]
  by_cases h : x = y
  · subst h; simp
  · rw [decide_eq_false h]; simpa using h

theorem take_eq_step {α : Type} [DecidableEq α] {l l' : List α} {k : Nat} {d : α} (hl : l.length = l'.length) (hk : k < l.length) (ht : l.take k = l'.take k) : (l.take (k + 1) = l'.take (k + 1)) ↔ l[k]?.getD d = l'[k]?.getD d := by
  have hk' : k < l'.length := by omega
  have e1 : l.take (k + 1) = l.take k ++ [l[k]] := List.take_succ_eq_append_getElem hk
  have e2 : l'.take (k + 1) = l'.take k ++ [l'[k]] := List.take_succ_eq_append_getElem hk'
  have g1 : l[k]?.getD d = l[k] := by rw [List.getElem?_eq_getElem hk]; rfl
  have g2 : l'[k]?.getD d = l'[k] := by rw [List.getElem?_eq_getElem hk']; rfl
  rw [e1, e2, ht, g1, g2]
  constructor
  · intro h
    exact (List.cons.inj (List.append_cancel_left h)).1
  · intro h; rw [h]

end Go.Proofs.YtciajjjigigidaaDoor
