/- For every budget, every list of numbers and every number MemoSets answers true and leaves its arguments as they were, and the card that ties the budget's error to the program's text. Conditions: those of the given card alone. -/
import Derived.Test.YtgkdemdpknljkaaDoorLs3
import Derived.Test.YtgkdemdpknljkaaDoorQcard
namespace Go.Proofs.YtgkdemdpknljkaaDoor
open Go.ChangeShapes Go.WideShapes Go.ChangeAt Go.RowKit Go.Deep

theorem int_top {n : Int} (h : (Lit.int .i64 n).wf = true) : n ≤ 9223372036854775807 := by
  simp only [Lit.wf] at h
  simpa [IntKind.wrap] using (bounds_i64 h).2

/-- A list of numbers that came in: each number lies in its cell. -/
theorem ints_in {H : Type} {enc : TypeId × Value → H} {W : World} {v : Value} {d : DataW H} {p : List MemPlace} (h : DataW.Trod enc Tryd.prog W 0 (fun _ => true) true 22 v d p) (hs : ∃ a n c, v = .slice a n c) :
    ∃ a n c, v = .slice a n c ∧ (n = 0 ∨ ∃ (b off : Nat) (A : Nat → Int), a = some ⟨b, off, none⟩ ∧ ∀ i, i < n → W.cell? ⟨b, off + i, none⟩ = some (.int .i64 (A i)) ∧ (Lit.int .i64 (A i)).wf = true) := by
  obtain ⟨a, n, c, rfl⟩ := hs
  refine ⟨a, n, c, rfl, ?_⟩
  by_cases hn : n = 0
  · exact .inl hn
  right
  obtain ⟨fuel, hf⟩ := h
  rcases open_ints Tryd.underlying22 Tryd.underlying3 Tryd.cells3 hf with ⟨e, _⟩ | ⟨a', len, cap, zs, e, _, hl, _, hz, _, hcell, hwz⟩
  · simp [Value.cells] at e; omega
  have e' : Value.slice a n c = Value.slice (some a') len cap := by simpa [Value.cells] using e
  cases e'
  have hnz : n ≤ zs.length := by rw [hz]; simp; omega
  have h0 := hcell 0 (by omega)
  have hsp := cell_spot (by simpa [Addr.add] using h0)
  refine ⟨a'.block, a'.off, fun i => zs.getD i 0, by rw [← hsp], fun i hi => ?_⟩
  have h1 := hcell i (by omega)
  rw [hsp, add_flat] at h1
  refine ⟨h1, hwz _ ?_⟩
  have hi' : i < zs.length := by omega
  simp [hi']

theorem sets_all (most ask : Int) (a : Option Addr) (n c : Nat) (W : World) (ea : Addr) (hg : W.cell? ⟨0, 0, none⟩ = some (.iface 88 (.pointer (some ea)))) (hm : (Lit.int .i64 most).wf = true) (hask : (Lit.int .i64 ask).wf = true)
    (ho : n = 0 ∨ ∃ (b off : Nat) (A : Nat → Int), a = some ⟨b, off, none⟩ ∧ ∀ i, i < n → W.cell? ⟨b, off + i, none⟩ = some (.int .i64 (A i)) ∧ (Lit.int .i64 (A i)).wf = true) :
    Calls Tryd.prog 3 #[.int .i64 most, .slice a n c, .int .i64 ask] W fun e w' => e = .returned (.bool true) ∧ Only (fun _ => False) W w' := by
  by_cases hn0 : n = 0
  · subst hn0; exact sets_zero most ask a c W ea hg
  rcases ho with h | ⟨b, off, A, rfl, hc⟩
  · exact absurd h hn0
  by_cases hb : 300 < n
  · exact sets_many most ask _ n c W ea hg hb
  by_cases hneg : most < 0
  · exact sets_neg b off n c A most ask W ea hg (by omega) (fun i hi => (hc i hi).1) (fun i hi => (hc i hi).2) (by omega) hneg (int_top hm) hask
  · exact sets_pos b off n c A most ask W ea hg (by omega) (fun i hi => (hc i hi).1) (fun i hi => (hc i hi).2) (by omega) (by omega) (int_top hm) hask

theorem readsS (os : Os) {H : Type} (enc : TypeId × Value → H) : ∃ places, DataW.whole enc Tryd.prog ((laidWorld os).forCall (fun _ _ => 0) ⟨#[], #[.int .i64 0, .slice none 0 0, .int .i64 0], []⟩).memory Tryd.f3.params.toList Rows.memoSetsSpec.vars false #[Value.int .i64 0, Value.slice none 0 0, Value.int .i64 0].toList 8 = some ([.lit (.int .i64 0), .nil, .lit (.int .i64 0)], [], places) :=
  ⟨[], by kernel_rfl⟩

set_option maxRecDepth 100000 in
theorem sets_lifted (os : Os) (started : os.Started) (H : Type) (enc : TypeId × Value → H) (F : Stop.Interp) :
    ReturnsInHanded {} Tryd.checked os 3 .any ((OpenSpec.ofChange Rows.memoSetsSpec).preRow enc Tryd.prog Tryd.f3 Rows.memoSetsRow.domain false Rows.memoSetsRow.laid) (((OpenSpec.ofChange Rows.memoSetsSpec).at F).post enc Tryd.prog Tryd.f3 false true false false) := by
  obtain ⟨places, hx⟩ := readsS os enc
  refine returnsInHanded_of_row (C := Tryd.checked) (s := OpenSpec.ofChange Rows.memoSetsSpec) own started (by kernel_rfl) Tryd.func3
    (witness_row_atRef (enc := enc) (C := Tryd.checked) false (laidWorld os) #[.int .i64 0, .slice none 0 0, .int .i64 0] rfl (by kernel_rfl) (by kernel_rfl) (by kernel_rfl)
      (OpenSpec.preRow_of_cond 8 hx (by kernel_rfl) (fun k hk => by cases hk) (by kernel_rfl) (laid_met os _))) ?_
  intro W base args ds gs before hval0 hW _ _ _ hL _ _
  have hval : ∀ (j : Nat) t v, Tryd.f3.params[j]? = some t → args[j]? = some v → Value.okWide Tryd.prog W .any base t v := hval0
  have hW' := hW
  obtain ⟨p, q, hA0, hV, rfl, _, _⟩ := hW
  have hA : DataW.TrodAll enc Tryd.prog W 0 (fun _ => true) true Tryd.f3.params.toList args.toList ds p := hA0
  rw [Tryd.params3] at hA hval
  obtain ⟨v0, v1, v2, d0, d1, d2, p0, p1, p2, rfl, rfl, rfl, h0, h1, h2⟩ := trodAll_three hA
  obtain ⟨rfl, rfl⟩ := trodVars_none hV
  have hsl := okWide_slice Tryd.underlying22 (hval 1 22 v1 rfl rfl)
  obtain ⟨most, rfl, rfl, rfl, wm⟩ := open_int Tryd.underlying3 (hval 0 3 v0 rfl rfl) h0
  obtain ⟨ask, rfl, rfl, rfl, wa⟩ := open_int Tryd.underlying3 (hval 2 3 v2 rfl rfl) h2
  have hlt : ∀ x ∈ p1, x.block < W.heap.size := fun x hx => by simpa using hW'.lt x (by simpa using hx)
  clear hA0 hval0 hA
  obtain ⟨a, n, c, rfl, hor⟩ := ints_in h1 hsl
  obtain ⟨ea, hg⟩ := budget_of_laid hL
  refine (sets_all most ask a n c W ea hg wm wa hor).mono ?_
  rintro e W' ⟨rfl, ho⟩
  have hb := onlyF_below ho
  have e1 : ((OpenSpec.ofChange Rows.memoSetsSpec).at F).fn H ([.lit (.int .i64 most), d1, .lit (.int .i64 ask)] ++ []) = { results := [.lit (.bool true)], args := [.lit (.int .i64 most), d1, .lit (.int .i64 ask)] } := rfl
  refine ⟨_, rfl, _, _, _, [], [] ++ (p1 ++ []), [], hW', ?_, ?_, ?_, hb.frame _, fun h => by cases h⟩
  · rw [e1]; exact trodAll_mk1 (shut_bool Tryd.underlying4 true)
  · rw [e1]; exact trodAll_mk3 (shut_int Tryd.underlying3 wm) (Below.trod laidOut (by kernel_rfl) (of_decide_eq_true (by kernel_rfl)) h1 hb hlt) (shut_int Tryd.underlying3 wa)
  · rw [e1]; rfl

theorem sets_said : Rows.MemoSetsSaid :=
  OpenClaim.holds_of_cond 3 Tryd.f3 rfl rfl rfl rfl rfl rfl rfl ⟨rfl, rfl, rfl, rfl, rfl⟩ rfl rfl rfl rfl rfl (by kernel_rfl) Tryd.func3 (by kernel_rfl)
    (of_decide_eq_true (by kernel_rfl)) (by unfold Func.isWrapper; first | (rw [if_pos (by decide +kernel)]; kernel_rfl) | (rw [if_neg (by decide +kernel)]; exact ⟨rfl, rfl⟩))
    (fun os started H enc _ F => by rw [OpenClaim.pre_eq_preRow]; exact sets_lifted os started H enc F)

theorem sets_plain (f : FuncId) (fn : Func) (hf : Tryd.pinned.checked.prog.funcNamed "umpire/umpirelaw11.MemoSets" = some f) (hfn : Tryd.pinned.checked.prog.funcs[f]? = some fn) :
    true = Tryd.pinned.checked.prog.looks [] ∧ ∀ (j : Nat) t, fn.params[j]? = some t → Tryd.pinned.checked.prog.wantsStandIn t = false := by
  obtain rfl : f = 3 := Option.some.inj ((show Tryd.prog.funcNamed "umpire/umpirelaw11.MemoSets" = some 3 by kernel_rfl).symm.trans hf) |>.symm
  obtain rfl : fn = Tryd.f3 := (Option.some.inj (Tryd.func3.symm.trans hfn)).symm
  refine ⟨by kernel_rfl, fun j t ht => ?_⟩
  rw [Tryd.params3] at ht
  have hm : t = 3 ∨ t = 22 := by
    have := Array.mem_of_getElem? ht
    simp at this
    rcases this with h | h | h
    · exact .inl h
    · exact .inr h
    · exact .inl h
  rcases hm with rfl | rfl
  · exact (show Tryd.prog.wantsStandIn 3 = false by kernel_rfl)
  · exact (show Tryd.prog.wantsStandIn 22 = false by kernel_rfl)

theorem sets_card : Rows.MemoSetsCardSaid :=
  Claim7.holds_tied_plain_at .later [] _ _ _ _ sets_said (fun _ h => by cases h) (by kernel_rfl) (fun _ h => by cases h) memoSets_row_tie rfl ⟨rfl, rfl⟩ (by kernel_rfl) rfl sets_plain (by kernel_rfl)
end Go.Proofs.YtgkdemdpknljkaaDoor
