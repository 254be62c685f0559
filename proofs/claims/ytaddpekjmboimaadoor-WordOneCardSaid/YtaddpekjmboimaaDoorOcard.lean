/- For all two numbers, every text and all bytes WordOne answers true and leaves its arguments as they were, and the card that ties the listed variables to the program's text. Conditions: those of the given card alone. -/
import Derived.Test.YtaddpekjmboimaaDoorWk
import Derived.Test.YtaddpekjmboimaaDoorArc
namespace Go.Proofs.YtaddpekjmboimaaDoor
open Go.ChangeShapes Go.WideShapes Go.ChangeAt Go.RowKit Go.Deep
open Go.ChangeMaps (open_string shut_string)

variable {T : TypeId} {e0 e1 e2 : Addr}

theorem one_str (n m : Int) (h0 : -9223372036854775808 ≤ n) (h1 : n ≤ 9223372036854775807) (k0 : -9223372036854775808 ≤ m) (k1 : m ≤ 9223372036854775807) (s : ByteArray) (hs : s.size ≤ maxLen) (a : Option Addr) (c : Nat) (lb : List Nat) (w : World) (hG : Glob T e0 e1 e2 w) (hb : BAt w a lb) (hlb : ∀ x ∈ lb, x < 256) (hm : lb.length ≤ 9223372036854775807) (hcap : lb.length ≤ c) :
    Calls Tryd.prog 6 #[.int .i64 n, .int .i64 m, .string s, .slice a lb.length c] w fun e w' => e = .returned (.bool true) ∧ Hid (Below w.heap.size w w') := by
  have h := one_any n m h0 h1 k0 k1 s.data.toList (by unfold maxLen at hs; simpa using hs) a c lb w hG hb hlb hm hcap
  simp only [tv, arr_of] at h
  exact h

theorem wordOne_reads (os : Os) {H : Type} (enc : TypeId × Value → H) : ∃ places, DataW.whole enc Tryd.prog ((laidWorld os).forCall (fun _ _ => 0) ⟨#[], #[.int .i64 0, .int .i64 0, .string ⟨#[]⟩, .slice none 0 0], []⟩).memory Tryd.f6.params.toList Rows.wordOneSpec.vars false #[Value.int .i64 0, Value.int .i64 0, Value.string ⟨#[]⟩, Value.slice none 0 0].toList 8 = some ([.lit (.int .i64 0), .lit (.int .i64 0), .lit (.string []), .nil], [], places) :=
  ⟨[], by kernel_rfl⟩

set_option maxRecDepth 100000 in
theorem wordOne_lifted (os : Os) (started : os.Started) (H : Type) (enc : TypeId × Value → H) (F : Stop.Interp) :
    ReturnsInHanded {} Tryd.checked os 6 .any ((OpenSpec.ofChange Rows.wordOneSpec).preRow enc Tryd.prog Tryd.f6 Rows.wordOneRow.domain false Rows.wordOneRow.laid) (((OpenSpec.ofChange Rows.wordOneSpec).at F).post enc Tryd.prog Tryd.f6 false true false false) := by
  obtain ⟨places, hx⟩ := wordOne_reads os enc
  refine returnsInHanded_of_row (C := Tryd.checked) (s := (OpenSpec.ofChange Rows.wordOneSpec)) own started (by kernel_rfl) Tryd.func6
    (witness_row_atRef (enc := enc) (C := Tryd.checked) false (laidWorld os) #[.int .i64 0, .int .i64 0, .string ⟨#[]⟩, .slice none 0 0] rfl (by kernel_rfl) (by kernel_rfl) (by kernel_rfl)
      (OpenSpec.preRow_of_cond 8 hx (by kernel_rfl) (fun k hk => by cases hk) (by kernel_rfl) (laid_met os _))) ?_
  intro W base args ds gs before hval0 hW _ hcond hreach hL hsh _
  have hval : ∀ (j : Nat) t v, Tryd.f6.params[j]? = some t → args[j]? = some v → Value.okWide Tryd.prog W .any base t v := hval0
  have hW' := hW
  obtain ⟨p, q, hA0, hV, rfl, _, _⟩ := hW
  have hA : DataW.TrodAll enc Tryd.prog W 0 (fun _ => true) true Tryd.f6.params.toList args.toList ds p := hA0
  rw [Tryd.params6] at hA hval
  obtain ⟨v0, v1, v2, v3, d0, d1, d2, d3, p0, p1, p2, p3, rfl, rfl, rfl, h0, h1, h2, h3⟩ := trodAll_four hA
  obtain ⟨rfl, rfl⟩ := trodVars_none hV
  have hlt3 : ∀ x ∈ p3, x.block < W.heap.size := fun x hx => by simpa using hW'.lt x (by simp [hx])
  clear hA0 hval0 hA
  obtain ⟨x0, rfl, rfl, rfl, wx0⟩ := open_int Tryd.underlying3 (hval 0 3 v0 rfl rfl) h0
  obtain ⟨x1, rfl, rfl, rfl, wx1⟩ := open_int Tryd.underlying3 (hval 1 3 v1 rfl rfl) h1
  obtain ⟨s2, rfl, rfl, rfl, ws2⟩ := open_string Tryd.underlying9 (hval 2 9 v2 rfl rfl) h2
  obtain ⟨a3, c3, l3, rfl, hb3, hx3, hm3, hc3⟩ := bytes_inc h3 (okWide_slice Tryd.underlying31 (hval 3 31 v3 rfl rfl))
  obtain ⟨e0, e1, e2, hG⟩ := glob_of_laid hsh hL
  refine (one_str x0 x1 (bounds_i64 wx0).1 (bounds_i64 wx0).2 (bounds_i64 wx1).1 (bounds_i64 wx1).2 s2 ws2 a3 c3 l3 W hG hb3 hx3 hm3 hc3).mono ?_
  rintro e W' ⟨rfl, hB⟩
  have hb := hB.out
  have e1 : ((OpenSpec.ofChange Rows.wordOneSpec).at F).fn H ([.lit (.int .i64 x0), .lit (.int .i64 x1), .lit (.string s2.data.toList), d3] ++ []) = { results := [.lit (.bool true)], args := [.lit (.int .i64 x0), .lit (.int .i64 x1), .lit (.string s2.data.toList), d3] } := rfl
  refine ⟨_, rfl, _, _, _, [], [] ++ [] ++ ([] ++ ([] ++ p3)), [], hW', ?_, ?_, ?_, hb.frame _, fun h => by cases h⟩
  · rw [e1]; exact trodAll_mk1 (shut_bool Tryd.underlying4 true)
  · rw [e1]; exact trodAll_mk4 (shut_int Tryd.underlying3 wx0) (shut_int Tryd.underlying3 wx1) (shut_string Tryd.underlying9 ws2) (Below.trod laidOut (by kernel_rfl) (of_decide_eq_true (by kernel_rfl)) h3 hb (hlt3))
  · rw [e1]; rfl

theorem wordOne_said : Rows.WordOneSaid :=
  OpenClaim.holds_of_cond 6 Tryd.f6 rfl rfl rfl rfl rfl rfl rfl ⟨rfl, rfl, rfl, rfl, rfl⟩ rfl rfl rfl rfl rfl (by kernel_rfl) Tryd.func6 (by kernel_rfl)
    (of_decide_eq_true (by kernel_rfl)) (by unfold Func.isWrapper; first | (rw [if_pos (by decide +kernel)]; kernel_rfl) | (rw [if_neg (by decide +kernel)]; exact ⟨rfl, rfl⟩))
    (fun os started H enc _ F => by rw [OpenClaim.pre_eq_preRow]; exact wordOne_lifted os started H enc F)

theorem wordOne_plain (f : FuncId) (fn : Func) (hf : Tryd.pinned.checked.prog.funcNamed "umpire/umpirelaw1.WordOne" = some f) (hfn : Tryd.pinned.checked.prog.funcs[f]? = some fn) :
    true = Tryd.pinned.checked.prog.looks [] ∧ ∀ (j : Nat) t, fn.params[j]? = some t → Tryd.pinned.checked.prog.wantsStandIn t = false := by
  obtain rfl : f = 6 := Option.some.inj ((show Tryd.prog.funcNamed "umpire/umpirelaw1.WordOne" = some 6 by kernel_rfl).symm.trans hf) |>.symm
  obtain rfl : fn = Tryd.f6 := (Option.some.inj (Tryd.func6.symm.trans hfn)).symm
  refine ⟨by kernel_rfl, fun j t ht => ?_⟩
  rw [Tryd.params6] at ht
  have hm : t = 3 ∨ t = 9 ∨ t = 22 ∨ t = 31 := by
    have h1 := Array.mem_of_getElem? ht
    simp at h1
    first | (rcases h1 with h | h | h | h <;> simp [h]) | (rcases h1 with h | h | h <;> simp [h]) | (rcases h1 with h | h <;> simp [h]) | simp [h1]
  rcases hm with rfl | rfl | rfl | rfl
  · exact (show Tryd.prog.wantsStandIn 3 = false by kernel_rfl)
  · exact (show Tryd.prog.wantsStandIn 9 = false by kernel_rfl)
  · exact (show Tryd.prog.wantsStandIn 22 = false by kernel_rfl)
  · exact (show Tryd.prog.wantsStandIn 31 = false by kernel_rfl)

theorem wordOne_card : Rows.WordOneCardSaid :=
  Claim7.holds_tied_plain_at .later [] _ _ _ _ wordOne_said (fun _ h => by cases h) (by kernel_rfl) (fun _ h => by cases h) wordOne_row_tie rfl ⟨rfl, rfl⟩ (by kernel_rfl) rfl wordOne_plain (by kernel_rfl)
end Go.Proofs.YtaddpekjmboimaaDoor
