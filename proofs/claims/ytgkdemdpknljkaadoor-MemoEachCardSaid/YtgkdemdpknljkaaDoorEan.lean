/- The iterator of a set of texts: told by the places alone. -/
import Derived.Test.YtgkdemdpknljkaaDoorEas
import Derived.RangeFuncNested
import Derived.RangeFuncBound
import Derived.RangeFuncCalls
import Derived.RangeFuncLeaves
import Derived.RangeFuncFrom
import Derived.Shelf.Abstract
import Derived.Shelf.RegionOpen
import Derived.OwnWalkIn
import Derived.TacticsInMore
import Derived.LoopNIn
import Derived.LoopIn
namespace Go.Proofs.YtgkdemdpknljkaaDoor
open Go.RowKit Go.Maps Go.WideMaps Go.WideElems Go.ChangeShapes Go.WideShapes
attribute [local go_sem] Oper.semAt_some

set_option maxRecDepth 100000 in
set_option maxHeartbeats 2000000 in
theorem eachn1 (F : Fence) (n : Nat) (h8 : F.fn 43) (hro : F.round = none) (hn : 1 ≤ n) (l Bs n₀ sb : Nat) (a : Option Addr) (len cap : Nat) (ss : List Txt) (hreach : len ≤ 1000000) (J Jx : List Nat → World → Prop)
    (hY : ∀ pre (x : Nat) W, J pre W → pre.length < len → YieldAt F (n - 1) Tryd.prog l #[.int .i64 (x : Int), .string (ss[x]?.getD S0).1] W fun e W' =>
      (e = .returned (.bool true) ∧ J (pre ++ [x]) W' ∧ Below n₀ W W') ∨ (e = .returned (.bool false) ∧ Jx (pre ++ [x]) W'))
    (W : World) (hBs : W.cell? ⟨Bs, 0, none⟩ = some (.pointer (some ⟨sb, 0, none⟩))) (hsb : W.cell? ⟨sb, 1, none⟩ = some (.slice a len cap)) (hc : ∀ j, j < len → ∃ g, a = some ⟨g, 0, none⟩ ∧ g < n₀ ∧ W.cell? ⟨g, j, none⟩ = some (.string (ss[j]?.getD S0).1)) (h0 : J [] W) :
    CallsIn F n Tryd.prog 43 #[.func (.yield l) #[] #[], .pointer (some ⟨Bs, 0, none⟩)] W fun e W' => (∃ v, e = .returned v) ∧
      ((∃ ys, ys = List.range len ∧ J ys W') ∨ (∃ pre, (∃ k, k ≤ len ∧ pre = List.range k) ∧ Jx pre W')) := by
  refine callsIn_of_wp Tryd.func43 rfl h8 ?_ hro
  simp only [Tryd.ntmps43, List.size_toArray, List.length_cons, List.length_nil, Nat.reduceAdd, Nat.reduceSub, Array.replicate_succ, Array.replicate_zero, List.push_toArray, List.append_toArray, List.nil_append, List.cons_append]
  gi_wp2
  gi_loopw [10] (fun i wr => ∃ k : Nat, k ≤ len ∧ i = .int .i64 k ∧ J (List.range k) wr ∧ Below n₀ W wr)
    (fun i _ => len - (intOf i).toNat)
  case atStart => exact ⟨0, Nat.zero_le _, rfl, h0, Below.refl _ _⟩
  case round =>
    obtain ⟨k, hk, rfl, hJs, hnx⟩ := hrel
    by_cases hlt : k < len
    · obtain ⟨g, rfl, hg, hcg⟩ := hc k hlt
      have hcx : wr.cell? ⟨g, k, none⟩ = some (.string (ss[k]?.getD S0).1) := (hnx.cell (p := ⟨g, k, none⟩) hg).trans hcg
      obtain ⟨fn, tmps, assign, body, hy, hR⟩ := hY _ k wr hJs (by rw [List.length_range]; exact hlt)
      have hup : List.range (k + 1) = List.range k ++ [k] := List.range_succ
      generalize ss[k]?.getD S0 = y at *
      have Hup := Lib.hid hup
      have Hc := Lib.hid hc
      clear hup hc hcg
      gi_wp2
      refine hR.mono ?_
      rintro e W3 (⟨rfl, hJ3, hk3⟩ | ⟨rfl, hJx3⟩)
      · gi_wp2
        go_roundw
        case rel => exact ⟨k + 1, by omega, by simp, by rw [Hup.out]; exact hJ3, hnx.trans hk3⟩
        case measure => simp [intOf]; omega
      · gi_wp2
        refine bodyPost_ret (results_none rfl _ _ _) rfl ?_
        exact ⟨⟨_, rfl⟩, .inr ⟨_, ⟨k + 1, by omega, Hup.out.symm⟩, hJx3⟩⟩
    · obtain rfl : k = len := by omega
      gi_wp2
      go_end0
      exact ⟨⟨_, rfl⟩, .inl ⟨_, rfl, hJs⟩⟩

theorem eachn_stops (F : Fence) (n : Nat) (h8 : F.fn 43) (hro : F.round = none) (hn : 1 ≤ n) (Bs n₀ sb : Nat) (a : Option Addr) (len cap : Nat) (ss : List Txt) (hreach : len ≤ 1000000) (w : World) (_hn₀ : n₀ ≤ w.heap.size)
    (hBs : w.cell? ⟨Bs, 0, none⟩ = some (.pointer (some ⟨sb, 0, none⟩))) (hsb : w.cell? ⟨sb, 1, none⟩ = some (.slice a len cap)) (hc : ∀ j, j < len → ∃ g, a = some ⟨g, 0, none⟩ ∧ g < n₀ ∧ w.cell? ⟨g, j, none⟩ = some (.string (ss[j]?.getD S0).1)) :
    SeqStopsK F n Tryd.prog 43 #[.pointer (some ⟨Bs, 0, none⟩)] (fun x : Nat => #[Value.int .i64 (x : Int), Value.string (ss[x]?.getD S0).1]) (Below n₀) (fun ys => ys = List.range len) (fun pre => ∃ k, k ≤ len ∧ pre = List.range k) len w := fun l J Jx W hW _ _ hY h0 => by
  refine eachn1 F n h8 hro hn l Bs n₀ sb a len cap ss hreach J Jx hY W ?_ ?_ ?_ h0
  · exact (hW.cell (World.block_lt_of_cell? w _ hBs)).trans hBs
  · exact (hW.cell (World.block_lt_of_cell? w _ hsb)).trans hsb
  · intro j hj
    obtain ⟨g, e, hg, hcg⟩ := hc j hj
    exact ⟨g, e, hg, (hW.cell (World.block_lt_of_cell? w _ hcg)).trans hcg⟩

end Go.Proofs.YtgkdemdpknljkaaDoor
