/- For every budget and every list of texts whose bulk is at most the card's MemoStays answers true and leaves its arguments as they were, and the card that ties the budget's error to the program's text. The bound itself isn't used: conditions: those of the given card alone. -/
import Derived.Test.YtkjnopcmlppaaaaDoorSts
import Derived.Test.YtkjnopcmlppaaaaDoorScard
import Derived.SliceStrings
namespace Go.Proofs.YtkjnopcmlppaaaaDoor
open Go.ChangeShapes Go.WideShapes Go.ChangeAt Go.RowKit Go.Deep

/-- A list of texts that came in: each text lies in its cell. -/
theorem texts_in {H : Type} {enc : TypeId × Value → H} {W : World} {v : Value} {d : DataW H} {p : List MemPlace} (h : DataW.Trod enc Tryd.prog W 0 (fun _ => true) true 57 v d p) (hs : ∃ a n c, v = .slice a n c) :
    ∃ (a : Option Addr) (n c b off : Nat) (S : Nat → Txt), v = .slice a n c ∧ n ≤ 9223372036854775807 ∧ (0 < n → a = some ⟨b, off, none⟩) ∧ ∀ i, i < n → W.cell? ⟨b, off + i, none⟩ = some (.string (S i).1) := by
  obtain ⟨a, n, c, rfl⟩ := hs
  by_cases hn : n = 0
  · exact ⟨a, n, c, 0, 0, fun _ => S0, rfl, by omega, fun h => by omega, fun i hi => by omega⟩
  obtain ⟨fuel, hf⟩ := h
  rcases open_strings Tryd.under57 Tryd.underlying9 cells9 hf with ⟨e, _⟩ | ⟨a', len, cap, ss, e, _, hl, hmx, hz, _, hcell, hwz⟩
  · simp [Value.cells] at e; omega
  have e' : Value.slice a n c = Value.slice (some a') len cap := by simpa [Value.cells] using e
  cases e'
  have hnz : n ≤ ss.length := by rw [hz]; simp; omega
  have h0 := hcell 0 (by omega)
  have hsp := cell_spot (by simpa [Addr.add] using h0)
  refine ⟨_, n, c, a'.block, a'.off, fun i => if h : i < ss.length then ⟨ss[i], hwz _ (List.getElem_mem h)⟩ else S0, rfl, by unfold maxLen at hmx; omega, fun _ => by rw [← hsp], fun i hi => ?_⟩
  have h1 := hcell i (by omega)
  rw [hsp, add_flat] at h1
  have hi' : i < ss.length := by omega
  simp only [hi', dif_pos]
  simpa [hi'] using h1

theorem readsT (os : Os) {H : Type} (enc : TypeId × Value → H) : ∃ places, DataW.whole enc Tryd.prog ((laidWorld os).forCall (fun _ _ => 0) ⟨#[], #[.int .i64 0, .slice none 0 0], []⟩).memory Tryd.f7.params.toList Rows.memoStaysSpec.vars false #[Value.int .i64 0, Value.slice none 0 0].toList 8 = some ([.lit (.int .i64 0), .nil], [], places) :=
  ⟨[], by kernel_rfl⟩

set_option maxRecDepth 100000 in
theorem stays_lifted (os : Os) (started : os.Started) (H : Type) (enc : TypeId × Value → H) (F : Stop.Interp) :
    ReturnsInHanded {} Tryd.checked os 7 .any ((Rows.OpenSpec.upto Rows.memoStaysSpec).preRow enc Tryd.prog Tryd.f7 Rows.memoStaysUptoRow.domain false Rows.memoStaysUptoRow.laid) (((Rows.OpenSpec.upto Rows.memoStaysSpec).at F).post enc Tryd.prog Tryd.f7 false true false false) := by
  obtain ⟨places, hx⟩ := readsT os enc
  refine returnsInHanded_of_row (C := Tryd.checked) (s := Rows.OpenSpec.upto Rows.memoStaysSpec) own started (by kernel_rfl) Tryd.func7
    (witness_row_atRef (enc := enc) (C := Tryd.checked) false (laidWorld os) #[.int .i64 0, .slice none 0 0] rfl (by kernel_rfl) (by kernel_rfl) (by kernel_rfl)
      (OpenSpec.preRow_of_cond 8 hx (by kernel_rfl) (fun k hk => by cases hk; kernel_rfl) (by kernel_rfl) (laid_met os _))) ?_
  intro W base args ds gs before hval0 hW _ _ _ hL _ _
  have hval : ∀ (j : Nat) t v, Tryd.f7.params[j]? = some t → args[j]? = some v → Value.okWide Tryd.prog W .any base t v := hval0
  have hW' := hW
  obtain ⟨p, q, hA0, hV, rfl, _, _⟩ := hW
  have hA : DataW.TrodAll enc Tryd.prog W 0 (fun _ => true) true Tryd.f7.params.toList args.toList ds p := hA0
  rw [Tryd.params7] at hA hval
  obtain ⟨v0, v1, d0, d1, p0, p1, rfl, rfl, rfl, h0, h1⟩ := trodAll_two hA
  obtain ⟨rfl, rfl⟩ := trodVars_none hV
  have hsl := okWide_slice Tryd.under57 (hval 1 57 v1 rfl rfl)
  obtain ⟨most, rfl, rfl, rfl, wm⟩ := open_int Tryd.underlying3 (hval 0 3 v0 rfl rfl) h0
  have hlt : ∀ x ∈ p1, x.block < W.heap.size := fun x hx => by simpa using hW'.lt x (by simpa using hx)
  clear hA0 hval0 hA
  obtain ⟨a, n, c, b, off, S, rfl, hnl, ha, hc⟩ := texts_in h1 hsl
  obtain ⟨ea, hg⟩ := budget_of_laid hL
  refine (stays_any a b off n c ha S most (max most 0) W ea hg hc hnl rfl (int_top wm)).mono ?_
  rintro e W' ⟨rfl, ho⟩
  have hb := onlyF_below ho
  have e1 : ((Rows.OpenSpec.upto Rows.memoStaysSpec).at F).fn H ([.lit (.int .i64 most), d1] ++ []) = { results := [.lit (.bool true)], args := [.lit (.int .i64 most), d1] } := rfl
  refine ⟨_, rfl, _, _, _, [], [] ++ p1, [], hW', ?_, ?_, ?_, hb.frame _, fun h => by cases h⟩
  · rw [e1]; exact trodAll_mk1 (shut_bool Tryd.underlying4 true)
  · rw [e1]; exact trodAll_mk2 (shut_int Tryd.underlying3 wm) (Below.trod laidOut (by kernel_rfl) (of_decide_eq_true (by kernel_rfl)) h1 hb hlt)
  · rw [e1]; rfl

theorem stays_said : Rows.MemoStaysUptoSaid :=
  OpenClaim.holds_of_cond 7 Tryd.f7 rfl rfl rfl rfl rfl rfl rfl ⟨rfl, rfl, rfl, rfl, rfl⟩ rfl rfl rfl rfl rfl (by kernel_rfl) Tryd.func7 (by kernel_rfl)
    (of_decide_eq_true (by kernel_rfl)) (by unfold Func.isWrapper; first | (rw [if_pos (by decide +kernel)]; kernel_rfl) | (rw [if_neg (by decide +kernel)]; exact ⟨rfl, rfl⟩))
    (fun os started H enc _ F => by rw [OpenClaim.pre_eq_preRow]; exact stays_lifted os started H enc F)

theorem stays_plain (f : FuncId) (fn : Func) (hf : Tryd.pinned.checked.prog.funcNamed "umpire/umpirelaw11.MemoStays" = some f) (hfn : Tryd.pinned.checked.prog.funcs[f]? = some fn) :
    true = Tryd.pinned.checked.prog.looks [] ∧ ∀ (j : Nat) t, fn.params[j]? = some t → Tryd.pinned.checked.prog.wantsStandIn t = false := by
  obtain rfl : f = 7 := Option.some.inj ((show Tryd.prog.funcNamed "umpire/umpirelaw11.MemoStays" = some 7 by kernel_rfl).symm.trans hf) |>.symm
  obtain rfl : fn = Tryd.f7 := (Option.some.inj (Tryd.func7.symm.trans hfn)).symm
  refine ⟨by kernel_rfl, fun j t ht => ?_⟩
  rw [Tryd.params7] at ht
  have ht' : t = 3 ∨ t = 57 := by simpa using Array.mem_of_getElem? ht
  rcases ht' with rfl | rfl
  · exact (show Tryd.prog.wantsStandIn 3 = false by kernel_rfl)
  · exact (show Tryd.prog.wantsStandIn 57 = false by kernel_rfl)

theorem stays_card : Rows.MemoStaysUptoCardSaid :=
  Claim7.holds_tied_plain_at .later [] _ _ _ _ stays_said (fun _ h => by cases h) (by kernel_rfl) (fun _ h => by cases h) memoStaysUpto_row_tie rfl ⟨rfl, rfl⟩ (by kernel_rfl) rfl stays_plain (by kernel_rfl)
end Go.Proofs.YtkjnopcmlppaaaaDoor
