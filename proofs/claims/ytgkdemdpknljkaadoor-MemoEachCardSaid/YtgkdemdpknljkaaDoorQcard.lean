/- For every list of calls MemoQueues answers true and leaves its argument as it was, and the card that ties the budget's error to the program's text. Conditions: those of the given card alone. -/
import Derived.Test.YtgkdemdpknljkaaDoorLawQ
import Derived.Test.YtgkdemdpknljkaaDoorLd
namespace Go.Proofs.YtgkdemdpknljkaaDoor
open Go.ChangeShapes Go.WideShapes Go.ChangeAt Go.RowKit Go.Deep

theorem onlyF_below {W W' : World} (h : Only (fun _ => False) W W') : Below W.heap.size W W' := h.below (fun _ (h : False) => h.elim)
theorem Tryd.cells44 : Tryd.prog.cellsOf 44 = 3 := by kernel_rfl
theorem Tryd.cells3 : Tryd.prog.cellsOf 3 = 1 := by kernel_rfl

theorem cell_spot {w : World} {a : Addr} {v : Value} (h : w.cell? a = some v) : a = ⟨a.block, a.off, none⟩ := by
  obtain ⟨b, o, s⟩ := a
  cases s with
  | none => rfl
  | some _ => simp [World.cell?] at h; split at h <;> simp_all

theorem add_flat (b o n : Nat) : (⟨b, o, none⟩ : Addr).add n = ⟨b, o + n, none⟩ := by
  unfold Addr.add
  split
  · rename_i h; subst h; rfl
  · rfl

/-- A list of calls that came in: each call's three numbers lie in three cells. -/
theorem calls_open {H : Type} {enc : TypeId × Value → H} {W : World} {v : Value} {d : DataW H} {p : List MemPlace} (h : DataW.Trod enc Tryd.prog W 0 (fun _ => true) true 40 v d p) (hs : ∃ a n c, v = .slice a n c) :
    ∃ a n c, v = .slice a n c ∧ (n = 0 ∨ ∃ (b off : Nat) (K A B : Nat → Int), a = some ⟨b, off, none⟩ ∧ ∀ i, i < n → W.cell? ⟨b, off + i * 3, none⟩ = some (.int .i64 (K i)) ∧ W.cell? ⟨b, off + i * 3 + 1, none⟩ = some (.int .i64 (A i)) ∧ W.cell? ⟨b, off + i * 3 + 2, none⟩ = some (.int .i64 (B i))) := by
  obtain ⟨a, n, c, rfl⟩ := hs
  refine ⟨a, n, c, rfl, ?_⟩
  by_cases hn : n = 0
  · exact .inl hn
  right
  obtain ⟨fuel, hf⟩ := h
  rcases open_slice Tryd.underlying40 hf with ⟨e, _⟩ | ⟨a', len, cap, m, n', D, Pl, e, _, hl, _, hm, _, hcell⟩
  · simp [Value.cells] at e; omega
  have e' : Value.slice a n c = Value.slice (some a') len cap := by simpa [Value.cells] using e
  cases e'
  have hmn : n ≤ m := by rw [hm]; simp; omega
  have key : ∀ i, i < n → ∃ x0 x1 x2 : Int, W.cell? (a'.add (i * 3)) = some (.int .i64 x0) ∧ W.cell? ((a'.add (i * 3)).add 1) = some (.int .i64 x1) ∧ W.cell? ((a'.add (i * 3)).add 2) = some (.int .i64 x2) := by
    intro i hi
    obtain ⟨cs, hc, ht⟩ := hcell i (by omega)
    rw [Tryd.cells44] at hc
    obtain ⟨_, hcl, hat⟩ := World.cells?_some hc
    obtain ⟨ys, k, _, _, _, hyl, hfs⟩ := DataW.trod_struct Tryd.underlying44 ht
    match cs, hcl with
    | [u0, u1, u2], _ =>
      have g0 : DataW.trod enc Tryd.prog W 0 (fun _ => true) true k 3 (([u0, u1, u2].drop 0).take (Tryd.prog.cellsOf 3)) = ys[0]? := hfs 0 _ rfl
      have g1 : DataW.trod enc Tryd.prog W 0 (fun _ => true) true k 3 (([u0, u1, u2].drop 1).take (Tryd.prog.cellsOf 3)) = ys[1]? := hfs 1 _ rfl
      have g2 : DataW.trod enc Tryd.prog W 0 (fun _ => true) true k 3 (([u0, u1, u2].drop 2).take (Tryd.prog.cellsOf 3)) = ys[2]? := hfs 2 _ rfl
      simp only [Tryd.cells3, List.drop_zero, List.drop_succ_cons, List.take_succ_cons, List.take_zero] at g0 g1 g2
      obtain ⟨y0, hy0⟩ : ∃ y, ys[0]? = some y := ⟨_, List.getElem?_eq_getElem (by simp at hyl; omega)⟩
      obtain ⟨y1, hy1⟩ : ∃ y, ys[1]? = some y := ⟨_, List.getElem?_eq_getElem (by simp at hyl; omega)⟩
      obtain ⟨y2, hy2⟩ : ∃ y, ys[2]? = some y := ⟨_, List.getElem?_eq_getElem (by simp at hyl; omega)⟩
      rw [hy0] at g0; rw [hy1] at g1; rw [hy2] at g2
      obtain ⟨x0, e0, _⟩ := DataW.trod_int Tryd.underlying3 g0
      obtain ⟨x1, e1, _⟩ := DataW.trod_int Tryd.underlying3 g1
      obtain ⟨x2, e2, _⟩ := DataW.trod_int Tryd.underlying3 g2
      simp only [List.cons.injEq, and_true] at e0 e1 e2
      subst e0; subst e1; subst e2
      have c0 := hat 0 (by omega)
      have c1 := hat 1 (by omega)
      have c2 := hat 2 (by omega)
      simp only [List.getElem?_cons_zero, List.getElem?_cons_succ] at c0 c1 c2
      exact ⟨x0, x1, x2, by simpa [Addr.add] using c0, c1, c2⟩
  have hz : a'.add (0 * 3) = a' := by simp [Addr.add]
  obtain ⟨x0, _, _, h0, _⟩ := key 0 (by omega)
  rw [hz] at h0
  have hsp := cell_spot h0
  have key2 : ∀ i, ∃ x : Int × Int × Int, i < n → W.cell? (a'.add (i * 3)) = some (.int .i64 x.1) ∧ W.cell? ((a'.add (i * 3)).add 1) = some (.int .i64 x.2.1) ∧ W.cell? ((a'.add (i * 3)).add 2) = some (.int .i64 x.2.2) := by
    intro i
    by_cases hi : i < n
    · obtain ⟨x0, x1, x2, h⟩ := key i hi
      exact ⟨(x0, x1, x2), fun _ => h⟩
    · exact ⟨(0, 0, 0), fun h => absurd h hi⟩
  obtain ⟨f, hf2⟩ := Classical.axiomOfChoice key2
  refine ⟨a'.block, a'.off, fun i => (f i).1, fun i => (f i).2.1, fun i => (f i).2.2, by rw [← hsp], fun i hi => ?_⟩
  have h := hf2 i hi
  rw [hsp] at h
  simp only [add_flat] at h
  exact h

theorem queues_all (a : Option Addr) (n c : Nat) (W : World) (ea : Addr) (hg : W.cell? ⟨0, 0, none⟩ = some (.iface 88 (.pointer (some ea))))
    (ho : n = 0 ∨ ∃ (b off : Nat) (K A B : Nat → Int), a = some ⟨b, off, none⟩ ∧ ∀ i, i < n → W.cell? ⟨b, off + i * 3, none⟩ = some (.int .i64 (K i)) ∧ W.cell? ⟨b, off + i * 3 + 1, none⟩ = some (.int .i64 (A i)) ∧ W.cell? ⟨b, off + i * 3 + 2, none⟩ = some (.int .i64 (B i))) :
    Calls Tryd.prog 5 #[.slice a n c] W fun e w' => e = .returned (.bool true) ∧ Only (fun _ => False) W w' := by
  by_cases hn0 : n = 0
  · subst hn0; exact queues_zero a c W ea hg
  rcases ho with h | ⟨b, off, K, A, B, rfl, hc⟩
  · exact absurd h hn0
  by_cases hm : 300 < n
  · exact queues_many _ n c W ea hg hm
  · exact queues_some b off n c K A W ea hg (by omega) (fun i hi => (hc i hi).1) (fun i hi => (hc i hi).2.1) (by omega)

theorem readsQ (os : Os) {H : Type} (enc : TypeId × Value → H) : ∃ places, DataW.whole enc Tryd.prog ((laidWorld os).forCall (fun _ _ => 0) ⟨#[], #[.slice none 0 0], []⟩).memory Tryd.f5.params.toList Rows.memoQueuesSpec.vars false #[Value.slice none 0 0].toList 8 = some ([.nil], [], places) :=
  ⟨[], by kernel_rfl⟩

set_option maxRecDepth 100000 in
theorem queues_lifted (os : Os) (started : os.Started) (H : Type) (enc : TypeId × Value → H) (F : Stop.Interp) :
    ReturnsInHanded {} Tryd.checked os 5 .any ((OpenSpec.ofChange Rows.memoQueuesSpec).preRow enc Tryd.prog Tryd.f5 Rows.memoQueuesRow.domain false Rows.memoQueuesRow.laid) (((OpenSpec.ofChange Rows.memoQueuesSpec).at F).post enc Tryd.prog Tryd.f5 false true false false) := by
  obtain ⟨places, hx⟩ := readsQ os enc
  refine returnsInHanded_of_row (C := Tryd.checked) (s := OpenSpec.ofChange Rows.memoQueuesSpec) own started (by kernel_rfl) Tryd.func5
    (witness_row_atRef (enc := enc) (C := Tryd.checked) false (laidWorld os) #[.slice none 0 0] rfl (by kernel_rfl) (by kernel_rfl) (by kernel_rfl)
      (OpenSpec.preRow_of_cond 8 hx (by kernel_rfl) (fun k hk => by cases hk) (by kernel_rfl) (laid_met os _))) ?_
  intro W base args ds gs before hval0 hW _ _ _ hL _ _
  have hval : ∀ (j : Nat) t v, Tryd.f5.params[j]? = some t → args[j]? = some v → Value.okWide Tryd.prog W .any base t v := hval0
  have hW' := hW
  obtain ⟨p, q, hA0, hV, rfl, _, _⟩ := hW
  have hA : DataW.TrodAll enc Tryd.prog W 0 (fun _ => true) true Tryd.f5.params.toList args.toList ds p := hA0
  rw [Tryd.params5] at hA hval
  obtain ⟨v0, d0, rfl, rfl, h0⟩ := trodAll_one hA
  obtain ⟨rfl, rfl⟩ := trodVars_none hV
  have hsl := okWide_slice Tryd.underlying40 (hval 0 40 v0 rfl rfl)
  have hlt : ∀ x ∈ p, x.block < W.heap.size := fun x hx => by simpa using hW'.lt x (by simpa using hx)
  clear hA0 hval0 hA
  obtain ⟨a, n, c, rfl, hor⟩ := calls_open h0 hsl
  obtain ⟨ea, hg⟩ := budget_of_laid hL
  refine (queues_all a n c W ea hg hor).mono ?_
  rintro e W' ⟨rfl, ho⟩
  have hb := onlyF_below ho
  have e1 : ((OpenSpec.ofChange Rows.memoQueuesSpec).at F).fn H ([d0] ++ []) = { results := [.lit (.bool true)], args := [d0] } := rfl
  refine ⟨_, rfl, _, _, _, [], p, [], hW', ?_, ?_, ?_, hb.frame _, fun h => by cases h⟩
  · rw [e1]; exact trodAll_mk1 (shut_bool Tryd.underlying4 true)
  · rw [e1]; exact trodAll_mk1 (Below.trod laidOut (by kernel_rfl) (of_decide_eq_true (by kernel_rfl)) h0 hb hlt)
  · rw [e1]; rfl

theorem queues_said : Rows.MemoQueuesSaid :=
  OpenClaim.holds_of_cond 5 Tryd.f5 rfl rfl rfl rfl rfl rfl rfl ⟨rfl, rfl, rfl, rfl, rfl⟩ rfl rfl rfl rfl rfl (by kernel_rfl) Tryd.func5 (by kernel_rfl)
    (of_decide_eq_true (by kernel_rfl)) (by unfold Func.isWrapper; first | (rw [if_pos (by decide +kernel)]; kernel_rfl) | (rw [if_neg (by decide +kernel)]; exact ⟨rfl, rfl⟩))
    (fun os started H enc _ F => by rw [OpenClaim.pre_eq_preRow]; exact queues_lifted os started H enc F)

theorem queues_plain (f : FuncId) (fn : Func) (hf : Tryd.pinned.checked.prog.funcNamed "umpire/umpirelaw11.MemoQueues" = some f) (hfn : Tryd.pinned.checked.prog.funcs[f]? = some fn) :
    true = Tryd.pinned.checked.prog.looks [] ∧ ∀ (j : Nat) t, fn.params[j]? = some t → Tryd.pinned.checked.prog.wantsStandIn t = false := by
  obtain rfl : f = 5 := Option.some.inj ((show Tryd.prog.funcNamed "umpire/umpirelaw11.MemoQueues" = some 5 by kernel_rfl).symm.trans hf) |>.symm
  obtain rfl : fn = Tryd.f5 := (Option.some.inj (Tryd.func5.symm.trans hfn)).symm
  refine ⟨by kernel_rfl, fun j t ht => ?_⟩
  rw [Tryd.params5] at ht
  obtain rfl : t = 40 := by simpa using Array.mem_of_getElem? ht
  exact (show Tryd.prog.wantsStandIn 40 = false by kernel_rfl)

theorem queues_card : Rows.MemoQueuesCardSaid :=
  Claim7.holds_tied_plain_at .later [] _ _ _ _ queues_said (fun _ h => by cases h) (by kernel_rfl) (fun _ h => by cases h) memoQueues_row_tie rfl ⟨rfl, rfl⟩ (by kernel_rfl) rfl queues_plain (by kernel_rfl)
end Go.Proofs.YtgkdemdpknljkaaDoor
