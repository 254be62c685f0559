/- For every budget, every list of numbers, every place to stop and every number to add MemoEach answers true and leaves its arguments as they were, and the card that ties the budget's error to the program's text. Conditions: those of the given card alone. -/
import Derived.Test.YtgkdemdpknljkaaDoorEam
import Derived.Test.YtgkdemdpknljkaaDoorScard
namespace Go.Proofs.YtgkdemdpknljkaaDoor
open Go.ChangeShapes Go.WideShapes Go.ChangeAt Go.RowKit Go.Deep

theorem each_all (most stop more : Int) (a : Option Addr) (n c : Nat) (W : World) (ea : Addr) (hg : W.cell? ⟨0, 0, none⟩ = some (.iface 88 (.pointer (some ea)))) (hm : (Lit.int .i64 most).wf = true) (hmore : (Lit.int .i64 more).wf = true)
    (ho : n = 0 ∨ ∃ (b off : Nat) (A : Nat → Int), a = some ⟨b, off, none⟩ ∧ ∀ i, i < n → W.cell? ⟨b, off + i, none⟩ = some (.int .i64 (A i)) ∧ (Lit.int .i64 (A i)).wf = true) :
    Calls Tryd.prog 4 #[.int .i64 most, .slice a n c, .int .i64 stop, .int .i64 more] W fun e w' => e = .returned (.bool true) ∧ Only (fun _ => False) W w' := by
  rcases ho with rfl | ⟨b, off, A, rfl, hc⟩
  · exact each_any a 0 0 0 c (fun h => by omega) (fun _ => 0) most _ stop more W ea hg (fun i hi => by omega) (fun i hi => by omega) hmore rfl (int_top hm)
  · exact each_any _ b off n c (fun _ => rfl) A most _ stop more W ea hg (fun i hi => (hc i hi).1) (fun i hi => (hc i hi).2) hmore rfl (int_top hm)

theorem readsE (os : Os) {H : Type} (enc : TypeId × Value → H) : ∃ places, DataW.whole enc Tryd.prog ((laidWorld os).forCall (fun _ _ => 0) ⟨#[], #[.int .i64 0, .slice none 0 0, .int .i64 0, .int .i64 0], []⟩).memory Tryd.f4.params.toList Rows.memoEachSpec.vars false #[Value.int .i64 0, Value.slice none 0 0, Value.int .i64 0, Value.int .i64 0].toList 8 = some ([.lit (.int .i64 0), .nil, .lit (.int .i64 0), .lit (.int .i64 0)], [], places) :=
  ⟨[], by kernel_rfl⟩

set_option maxRecDepth 100000 in
theorem each_lifted (os : Os) (started : os.Started) (H : Type) (enc : TypeId × Value → H) (F : Stop.Interp) :
    ReturnsInHanded {} Tryd.checked os 4 .any ((OpenSpec.ofChange Rows.memoEachSpec).preRow enc Tryd.prog Tryd.f4 Rows.memoEachRow.domain false Rows.memoEachRow.laid) (((OpenSpec.ofChange Rows.memoEachSpec).at F).post enc Tryd.prog Tryd.f4 false true false false) := by
  obtain ⟨places, hx⟩ := readsE os enc
  refine returnsInHanded_of_row (C := Tryd.checked) (s := OpenSpec.ofChange Rows.memoEachSpec) own started (by kernel_rfl) Tryd.func4
    (witness_row_atRef (enc := enc) (C := Tryd.checked) false (laidWorld os) #[.int .i64 0, .slice none 0 0, .int .i64 0, .int .i64 0] rfl (by kernel_rfl) (by kernel_rfl) (by kernel_rfl)
      (OpenSpec.preRow_of_cond 8 hx (by kernel_rfl) (fun k hk => by cases hk) (by kernel_rfl) (laid_met os _))) ?_
  intro W base args ds gs before hval0 hW _ _ _ hL _ _
  have hval : ∀ (j : Nat) t v, Tryd.f4.params[j]? = some t → args[j]? = some v → Value.okWide Tryd.prog W .any base t v := hval0
  have hW' := hW
  obtain ⟨p, q, hA0, hV, rfl, _, _⟩ := hW
  have hA : DataW.TrodAll enc Tryd.prog W 0 (fun _ => true) true Tryd.f4.params.toList args.toList ds p := hA0
  rw [Tryd.params4] at hA hval
  obtain ⟨v0, v1, v2, v3, d0, d1, d2, d3, p0, p1, p2, p3, rfl, rfl, rfl, h0, h1, h2, h3⟩ := trodAll_four hA
  obtain ⟨rfl, rfl⟩ := trodVars_none hV
  have hsl := okWide_slice Tryd.underlying22 (hval 1 22 v1 rfl rfl)
  obtain ⟨most, rfl, rfl, rfl, wm⟩ := open_int Tryd.underlying3 (hval 0 3 v0 rfl rfl) h0
  obtain ⟨stop, rfl, rfl, rfl, ws⟩ := open_int Tryd.underlying3 (hval 2 3 v2 rfl rfl) h2
  obtain ⟨more, rfl, rfl, rfl, wa⟩ := open_int Tryd.underlying3 (hval 3 3 v3 rfl rfl) h3
  have hlt : ∀ x ∈ p1, x.block < W.heap.size := fun x hx => by simpa using hW'.lt x (by simpa using hx)
  clear hA0 hval0 hA
  obtain ⟨a, n, c, rfl, hor⟩ := ints_in h1 hsl
  obtain ⟨ea, hg⟩ := budget_of_laid hL
  refine (each_all most stop more a n c W ea hg wm wa hor).mono ?_
  rintro e W' ⟨rfl, ho⟩
  have hb := onlyF_below ho
  have e1 : ((OpenSpec.ofChange Rows.memoEachSpec).at F).fn H ([.lit (.int .i64 most), d1, .lit (.int .i64 stop), .lit (.int .i64 more)] ++ []) = { results := [.lit (.bool true)], args := [.lit (.int .i64 most), d1, .lit (.int .i64 stop), .lit (.int .i64 more)] } := rfl
  refine ⟨_, rfl, _, _, _, [], [] ++ (p1 ++ ([] ++ [])), [], hW', ?_, ?_, ?_, hb.frame _, fun h => by cases h⟩
  · rw [e1]; exact trodAll_mk1 (shut_bool Tryd.underlying4 true)
  · rw [e1]; exact trodAll_mk4 (shut_int Tryd.underlying3 wm) (Below.trod laidOut (by kernel_rfl) (of_decide_eq_true (by kernel_rfl)) h1 hb hlt) (shut_int Tryd.underlying3 ws) (shut_int Tryd.underlying3 wa)
  · rw [e1]; rfl

theorem each_said : Rows.MemoEachSaid :=
  OpenClaim.holds_of_cond 4 Tryd.f4 rfl rfl rfl rfl rfl rfl rfl ⟨rfl, rfl, rfl, rfl, rfl⟩ rfl rfl rfl rfl rfl (by kernel_rfl) Tryd.func4 (by kernel_rfl)
    (of_decide_eq_true (by kernel_rfl)) (by unfold Func.isWrapper; first | (rw [if_pos (by decide +kernel)]; kernel_rfl) | (rw [if_neg (by decide +kernel)]; exact ⟨rfl, rfl⟩))
    (fun os started H enc _ F => by rw [OpenClaim.pre_eq_preRow]; exact each_lifted os started H enc F)

theorem each_plain (f : FuncId) (fn : Func) (hf : Tryd.pinned.checked.prog.funcNamed "umpire/umpirelaw11.MemoEach" = some f) (hfn : Tryd.pinned.checked.prog.funcs[f]? = some fn) :
    true = Tryd.pinned.checked.prog.looks [] ∧ ∀ (j : Nat) t, fn.params[j]? = some t → Tryd.pinned.checked.prog.wantsStandIn t = false := by
  obtain rfl : f = 4 := Option.some.inj ((show Tryd.prog.funcNamed "umpire/umpirelaw11.MemoEach" = some 4 by kernel_rfl).symm.trans hf) |>.symm
  obtain rfl : fn = Tryd.f4 := (Option.some.inj (Tryd.func4.symm.trans hfn)).symm
  refine ⟨by kernel_rfl, fun j t ht => ?_⟩
  rw [Tryd.params4] at ht
  have hm : t = 3 ∨ t = 22 := by
    have := Array.mem_of_getElem? ht
    simp at this
    rcases this with h | h | h <;> simp [h]
  rcases hm with rfl | rfl
  · exact (show Tryd.prog.wantsStandIn 3 = false by kernel_rfl)
  · exact (show Tryd.prog.wantsStandIn 22 = false by kernel_rfl)

theorem each_card : Rows.MemoEachCardSaid :=
  Claim7.holds_tied_plain_at .later [] _ _ _ _ each_said (fun _ h => by cases h) (by kernel_rfl) (fun _ h => by cases h) memoEach_row_tie rfl ⟨rfl, rfl⟩ (by kernel_rfl) rfl each_plain (by kernel_rfl)
end Go.Proofs.YtgkdemdpknljkaaDoor
