/- What the listed variables give a walk: each error lies in its cell, a pointer; the tables lie whole; a world that meets the list. -/
import Derived.Test.YtcjfcomadcebnaaGreatDoorCards
import Derived.Test.YtcjfcomadcebnaaGreatDoorTie
import Derived.Test.YtcjfcomadcebnaaGreatDoorWf
import Derived.ProofKit
import Derived.OpenShut
import Derived.ChangeSame
import Derived.ChangeVars
import Derived.LaidLaws
import Derived.LaidSub
import Derived.LaidHandle
import Derived.MakeChecks
import Derived.Stop.ErrReads
import Derived.Deep.DeepHandedRow
import Derived.Deep.DeepWitnessRowRef
import Derived.Deep.Slices
import Derived.HandedShaped
import Derived.Shelf.LaysM
namespace Go.Proofs.YtcjfcomadcebnaaGreatDoor
open Go.ChangeShapes Go.WideShapes Go.ChangeAt Go.RowKit

theorem own : ownKnob Tryz.prog.godebug = none := by kernel_rfl
theorem laidOut : laidOutB Tryz.prog = true := by kernel_rfl
theorem cellsE : Tryz.prog.cellsOf 214 = 1 := by kernel_rfl
theorem cells9 : Tryz.prog.cellsOf 9 = 1 := by kernel_rfl
theorem star : "*" ++ "errors.errorString" = "*errors.errorString" := by decide
theorem rowE (u : TypeId) (h : Tryz.prog.typeName? 3 u = some "*errors.errorString") : u = 212 :=
  typeName_ptr_named (nm := "errors.errorString") (by rw [star]; kernel_rfl) (by kernel_rfl) (by decide) u (by rw [star]; exact h)

set_option maxRecDepth 100000 in
theorem err_of_one {W : World} {name : String} {g : Nat} {text : List UInt8} (hg : Tryz.prog.globalNamed name = some g) (hty : (Tryz.prog.globals[g]?).map (·.type) = some 70)
    (h : laidMet Tryz.prog [(name, .iface "*errors.errorString" (.ptr (.agg [.lit (.string text)])))] W) : ∃ ea : Addr, W.cell? ⟨g, 0, none⟩ = some (.iface 212 (.pointer (some ea))) := by
  obtain ⟨ps, ⟨g0, t0, cs0, f0, p0, q0, hg0, ht0, hv0, hd0, hq0, e0⟩, hnd, hrows⟩ := h
  obtain rfl := Option.some.inj (hg.symm.trans hg0)
  obtain rfl := Option.some.inj (hty.symm.trans ht0)
  have hq0' : q0 = [] := hq0
  subst hq0'
  subst e0
  obtain ⟨l0⟩ := cs0
  have ok0 : ∀ u v, l0 = [.iface u v] → Value.okWide Tryz.prog W .any 0 u v := fun u v e => by
    subst e
    exact (hrows g 0 (by simp [MemPlace.row])).2 u v (by simpa using World.var?_cell hg hv0 0)
  obtain ⟨a0, s0, rfl, hc0, hs0, hz0, rfl⟩ := errorString_of_trod Tryz.underlying70 rowE Tryz.underlying212 Tryz.underlying214 rfl rfl Tryz.underlying9 cellsE cells9 hd0 ok0
  exact ⟨a0, by simpa using World.var?_cell hg hv0 0⟩

theorem one_of_list {L : List (String × DataW Unit)} {W : World} (hH : laidMetH Tryz.prog L W) (name : String) {one : List (String × DataW Unit)} (h1 : (L.filter fun x => x.1 == name) = one) (h2 : (one.all fun x => x.2.handleName?.isNone) = true) : laidMet Tryz.prog one W := by
  have h := hH.filter (fun x => x.1 == name)
  rw [h1, MakeChecks.laidMetH_plain Tryz.prog one W h2] at h
  exact h

/-- An array's parts, read. -/
theorem trod_arr {H : Type} {enc : TypeId × Value → H} {P : Program} {w : World} {base : Nat} {sp : Nat → Bool} {held : Bool} {fuel : Nat} {t e : TypeId} {n m : Nat} {cs : List Value} {ds : List (DataW H)} {p : List MemPlace}
    (ht : P.underlying t = some (.array n e)) (hm : P.cellsOf e = m) (h : DataW.trod enc P w base sp held fuel t cs = some (.agg ds, p)) :
    ∃ f, ∀ i, i < n → ∃ y, DataW.trod enc P w base sp held f e ((cs.drop (i * m)).take m) = some y ∧ ds[i]? = some y.1 := by
  cases fuel with
  | zero => simp [DataW.trod] at h
  | succ fuel =>
    simp only [DataW.trod, ht, hm] at h
    split at h
    · obtain ⟨xs, hx, he⟩ := Option.map_eq_some_iff.1 h
      refine ⟨fuel, fun i hi => ?_⟩
      obtain ⟨b, hb, hf⟩ := Lib.mapM_at hx i i (by simp [hi])
      refine ⟨b, hf, ?_⟩
      have := congrArg Prod.fst he
      have e2 : xs.map (·.1) = ds := by simpa using this
      rw [← e2]; simp [hb]
    · cases h

theorem take_one_at {cs : List Value} {i j m : Nat} {v : Value} (hj : j < m) (h : (((cs.drop i).take m).drop j).take 1 = [v]) : cs[i + j]? = some v := by
  have := congrArg (·[0]?) h
  simp only [List.getElem?_take, List.getElem?_drop] at this
  simpa [hj] using this

/-- The tables of words, as they are listed. -/
def wordsData {H : Type} : DataW H := .agg ((List.range 7).map fun a => .agg ((List.range 10).map fun b => .lit (.string (wflat.getD (a * 10 + b) []))))
theorem words_cells {H : Type} {enc : TypeId × Value → H} {W : World} {base : Nat} {sp : Nat → Bool} {held : Bool} {fuel : Nat} {cs : List Value} {p : List MemPlace}
    (h : DataW.trod enc Tryz.prog W base sp held fuel 114 cs = some (wordsData, p)) : ∀ i, i < 70 → cs[i]? = some (.string ⟨(wflat.getD i []).toArray⟩) := by
  obtain ⟨f, h1⟩ := trod_arr (n := 7) (e := 113) (m := 10) Tryz.underlying114 (by kernel_rfl) h
  intro i hi
  obtain ⟨a, b, ha, hb, rfl⟩ : ∃ a b, a < 7 ∧ b < 10 ∧ i = a * 10 + b := ⟨i / 10, i % 10, by omega, by omega, by omega⟩
  obtain ⟨y, hy, hd⟩ := h1 a ha
  have e1 : y.1 = .agg ((List.range 10).map fun b => .lit (.string (wflat.getD (a * 10 + b) []))) := by
    simp [ha] at hd
    exact hd.symm
  obtain ⟨y1, y2⟩ := y
  cases e1
  obtain ⟨f2, h2⟩ := trod_arr (n := 10) (e := 9) (m := 1) Tryz.underlying113 (by kernel_rfl) hy
  obtain ⟨z, hz, hd2⟩ := h2 b hb
  obtain ⟨s, hs, rfl, _⟩ := DataW.trod_string Tryz.underlying9 hz
  have e2 : s.data.toList = wflat.getD (a * 10 + b) [] := by
    simp [hb] at hd2
    exact hd2.symm
  rw [Nat.mul_one] at hs
  rw [take_one_at hb hs, ← e2, Array.toArray_toList]

/-- The bounds of the fields, as they are listed. -/
def boundsData {H : Type} : DataW H := .agg ((List.range 7).map fun a => .agg [.lit (.int .i64 (bndL.getD (2 * a) 0)), .lit (.int .i64 (bndL.getD (2 * a + 1) 0))])
theorem bounds_cells {H : Type} {enc : TypeId × Value → H} {W : World} {base : Nat} {sp : Nat → Bool} {held : Bool} {fuel : Nat} {cs : List Value} {p : List MemPlace}
    (h : DataW.trod enc Tryz.prog W base sp held fuel 161 cs = some (boundsData, p)) : ∀ i, i < 14 → cs[i]? = some (.int .i64 (bndL.getD i 0)) := by
  obtain ⟨f, h1⟩ := trod_arr (n := 7) (e := 160) (m := 2) Tryz.underlying161 (by kernel_rfl) h
  intro i hi
  obtain ⟨a, b, ha, hb, rfl⟩ : ∃ a b, a < 7 ∧ b < 2 ∧ i = a * 2 + b := ⟨i / 2, i % 2, by omega, by omega, by omega⟩
  obtain ⟨y, hy, hd⟩ := h1 a ha
  have e1 : y.1 = .agg [.lit (.int .i64 (bndL.getD (2 * a) 0)), .lit (.int .i64 (bndL.getD (2 * a + 1) 0))] := by
    simp [ha] at hd
    exact hd.symm
  obtain ⟨y1, y2⟩ := y
  cases e1
  obtain ⟨xs, n, _, hx, _, hxl, hxs⟩ := DataW.trod_struct Tryz.underlying160 hy
  have hx1 := congrArg Prod.fst hx
  have c3 : Tryz.prog.cellsOf 3 = 1 := by kernel_rfl
  have q : ∀ j, j < 2 → DataW.trod enc Tryz.prog W base sp held n 3 (((((cs.drop (a * 2)).take 2)).drop j).take 1) = xs[j]? := by
    intro j hj
    rcases (show j = 0 ∨ j = 1 by omega) with rfl | rfl
    · have : DataW.trod enc Tryz.prog W base sp held n 3 (((((cs.drop (a * 2)).take 2)).drop 0).take (Tryz.prog.cellsOf 3)) = xs[0]? := hxs 0 _ rfl
      rw [c3] at this; exact this
    · have : DataW.trod enc Tryz.prog W base sp held n 3 (((((cs.drop (a * 2)).take 2)).drop 1).take (Tryz.prog.cellsOf 3)) = xs[1]? := hxs 1 _ rfl
      rw [c3] at this; exact this
  have hq := q b hb
  have hm : xs.map (·.1) = [DataW.lit (.int .i64 (bndL.getD (2 * a) 0)), .lit (.int .i64 (bndL.getD (2 * a + 1) 0))] := by
    have := hx1
    simp only [DataW.agg.injEq] at this
    exact this.symm
  have hmb : (xs.map (·.1))[b]? = some (.lit (.int .i64 (bndL.getD (a * 2 + b) 0))) := by
    rw [hm]
    rcases (show b = 0 ∨ b = 1 by omega) with rfl | rfl
    · simp [Nat.mul_comm]
    · simp [Nat.mul_comm]
  rw [List.getElem?_map, Option.map_eq_some_iff] at hmb
  obtain ⟨z, hz1, hz2⟩ := hmb
  rw [hz1] at hq
  obtain ⟨k, hk1, rfl, _⟩ := DataW.trod_int Tryz.underlying3 hq
  rw [take_one_at hb hk1]
  simp only [DataW.lit.injEq, Lit.int.injEq, true_and] at hz2
  rw [hz2]

theorem var_lt {P : Program} {w : World} {n : String} {g : Nat} {cs : Array Value} (hg : P.globalNamed n = some g) (h : w.var? P n = some cs) : g < w.heap.size := by
  simp only [World.var?, hg, Option.bind_some] at h
  by_cases hl : g < w.heap.size
  · exact hl
  · have : w.heap[g]? = none := Array.getElem?_eq_none (by omega)
    rw [this] at h
    cases h

/-- What the list gives. The errors: 0 Object, 1 Op, 2 Event, 3 Many, 4 Code. -/
theorem glob_of_list {L : List (String × DataW Unit)} {W : World} (hsh : W.ShapedOpen Tryz.prog) (hH : laidMetH Tryz.prog L W)
    (l0 : (L.filter fun x => x.1 == "umpire/api.ErrObject") = [("umpire/api.ErrObject", Rows.laid_umpire_api_ErrObject)])
    (l1 : (L.filter fun x => x.1 == "umpire/api.ErrOp") = [("umpire/api.ErrOp", Rows.laid_umpire_api_ErrOp)])
    (l2 : (L.filter fun x => x.1 == "umpire/api.ErrEvent") = [("umpire/api.ErrEvent", Rows.laid_umpire_api_ErrEvent)])
    (l3 : (L.filter fun x => x.1 == "umpire/api.ErrMany") = [("umpire/api.ErrMany", Rows.laid_umpire_api_ErrMany)])
    (l4 : (L.filter fun x => x.1 == "umpire/api.ErrCode") = [("umpire/api.ErrCode", Rows.laid_umpire_api_ErrCode)])
    (l5 : (L.filter fun x => x.1 == "strconv.ErrSyntax") = [("strconv.ErrSyntax", Rows.laid_strconv_ErrSyntax)])
    (l6 : (L.filter fun x => x.1 == "strconv.ErrRange") = [("strconv.ErrRange", Rows.laid_strconv_ErrRange)])
    (lt : (L.filter fun x => x.1 == "internal/strconv.uint64pow10") = [("internal/strconv.uint64pow10", Lib.tabData .u64 Lib.pow10Tab)])
    (lw : (L.filter fun x => x.1 == "umpire/event.words") = [("umpire/event.words", wordsData)])
    (lb : (L.filter fun x => x.1 == "umpire/event.bounds") = [("umpire/event.bounds", boundsData)]) :
    ∃ er, Glob 212 er W := by
  obtain ⟨e0, h0⟩ := err_of_one (g := 0) (by kernel_rfl) (by kernel_rfl) (one_of_list hH _ l0 (by kernel_rfl))
  obtain ⟨e1, h1⟩ := err_of_one (g := 2) (by kernel_rfl) (by kernel_rfl) (one_of_list hH _ l1 (by kernel_rfl))
  obtain ⟨e2, h2⟩ := err_of_one (g := 3) (by kernel_rfl) (by kernel_rfl) (one_of_list hH _ l2 (by kernel_rfl))
  obtain ⟨e3, h3⟩ := err_of_one (g := 4) (by kernel_rfl) (by kernel_rfl) (one_of_list hH _ l3 (by kernel_rfl))
  obtain ⟨e4, h4⟩ := err_of_one (g := 6) (by kernel_rfl) (by kernel_rfl) (one_of_list hH _ l4 (by kernel_rfl))
  obtain ⟨e5, h5⟩ := err_of_one (g := 11) (by kernel_rfl) (by kernel_rfl) (one_of_list hH _ l5 (by kernel_rfl))
  obtain ⟨e6, h6⟩ := err_of_one (g := 12) (by kernel_rfl) (by kernel_rfl) (one_of_list hH _ l6 (by kernel_rfl))
  have htab := Lib.tabIs_of_head (P := Tryz.prog) (W := W) (g := 8) (t := 188) (e := 176) (n := 20) (k := .u64) (zs := Lib.pow10Tab) (rest := []) (by kernel_rfl) (by kernel_rfl) (by kernel_rfl) (by kernel_rfl) (by kernel_rfl) (by kernel_rfl) (one_of_list hH _ lt (by kernel_rfl))
  obtain ⟨m, hm⟩ := cell_of_shapedOpen_int (zero := #[.int .i64 0]) (t := 3) (g := 7) hsh (of_decide_eq_true (by kernel_rfl)) (by kernel_rfl) rfl (by kernel_rfl) (by kernel_rfl) Tryz.underlying3
  have hwords : WordsAt W := by
    obtain ⟨ps, ⟨g0, t0, cs0, f0, p0, q0, hg0, ht0, hv0, hd0, hq0, _⟩, _, _⟩ := one_of_list hH _ lw (by kernel_rfl)
    obtain rfl := Option.some.inj ((show Tryz.prog.globalNamed "umpire/event.words" = some 1 by kernel_rfl).symm.trans hg0)
    obtain rfl := Option.some.inj ((show (Tryz.prog.globals[1]?).map (·.type) = some 114 by kernel_rfl).symm.trans ht0)
    intro i hi
    rw [World.var?_cell hg0 hv0 i]
    have := words_cells hd0 i hi
    simpa using this
  have hbounds : BoundsAt W := by
    obtain ⟨ps, ⟨g0, t0, cs0, f0, p0, q0, hg0, ht0, hv0, hd0, hq0, _⟩, _, _⟩ := one_of_list hH _ lb (by kernel_rfl)
    obtain rfl := Option.some.inj ((show Tryz.prog.globalNamed "umpire/event.bounds" = some 5 by kernel_rfl).symm.trans hg0)
    obtain rfl := Option.some.inj ((show (Tryz.prog.globals[5]?).map (·.type) = some 161 by kernel_rfl).symm.trans ht0)
    intro i hi
    rw [World.var?_cell hg0 hv0 i]
    have := bounds_cells hd0 i hi
    simpa using this
  have hsz : 13 ≤ W.heap.size := by
    obtain ⟨ps, ⟨g0, t0, cs0, f0, p0, q0, hg0, ht0, hv0, hd0, hq0, _⟩, _, _⟩ := one_of_list hH _ l6 (by kernel_rfl)
    obtain rfl := Option.some.inj ((show Tryz.prog.globalNamed "strconv.ErrRange" = some 12 by kernel_rfl).symm.trans hg0)
    exact var_lt hg0 hv0
  exact ⟨fun | 0 => e1 | 2 => e2 | 3 => e0 | 5 => e3 | _ => e4, ⟨hsz, h1, h2, h0, h3, h4, ⟨m, hm⟩, ⟨_, _, h5⟩, ⟨_, _, h6⟩, htab, hwords, hbounds⟩⟩

/-- The cells that a plain datum takes. -/
def flat1 : DataW Unit → List Value
  | .lit (.int k n) => [.int k n]
  | .lit (.string s) => [.string ⟨s.toArray⟩]
  | _ => []
def flat2 : DataW Unit → List Value
  | .agg ps => ps.flatMap fun x => match x with
    | .agg qs => qs.flatMap flat1
    | y => flat1 y
  | _ => []
def errText : DataW Unit → ByteArray
  | .iface _ (.ptr (.agg [.lit (.string s)])) => ⟨s.toArray⟩
  | _ => ⟨#[]⟩
noncomputable def low : Nat := (World.holding Tryz.prog default ⟨#[], #[], []⟩).heap.size
def filled (vs : Array Value) : Obj → Obj
  | .cells _ t fr => .cells vs t fr
  | o => o
noncomputable def laidWorld (os : Os) : World :=
  let w0 := World.holding Tryz.prog os ⟨#[.cells #[.string (errText Rows.laid_umpire_api_ErrObject)] 214, .cells #[.string (errText Rows.laid_umpire_api_ErrOp)] 214, .cells #[.string (errText Rows.laid_umpire_api_ErrEvent)] 214, .cells #[.string (errText Rows.laid_umpire_api_ErrMany)] 214, .cells #[.string (errText Rows.laid_umpire_api_ErrCode)] 214, .cells #[.string (errText Rows.laid_strconv_ErrSyntax)] 214, .cells #[.string (errText Rows.laid_strconv_ErrRange)] 214], #[], []⟩
  let e := fun (h : Array Obj) (g k : Nat) => h.modify g (filled #[.iface 212 (.pointer (some ⟨low + k, 0, none⟩))])
  let t := fun (h : Array Obj) (g : Nat) (d : DataW Unit) => h.modify g (filled (flat2 d).toArray)
  { w0 with heap := t (t (t (t (t (e (e (e (e (e (e (e w0.heap 0 0) 2 1) 3 2) 4 3) 6 4) 11 5) 12 6) 1 Rows.laid_umpire_event_words) 5 Rows.laid_umpire_event_bounds) 8 Rows.laid_internal_strconv_uint64pow10) 9 Rows.laid_math_bits_deBruijn32tab) 10 Rows.laid_math_bits_deBruijn64tab }

theorem laid_met (os : Os) (args : Array Value) : laidMet Tryz.prog Rows.storeAsksRow.laid ((laidWorld os).forCall (fun _ _ => 0) ⟨#[], args, []⟩).memory :=
  laidMet_of_run' 8 (by kernel_rfl) (by kernel_rfl)
end Go.Proofs.YtcjfcomadcebnaaGreatDoor

