/- The iterator over the lines: what it hands to a loop, line by line. -/
import Derived.Test.YtaddpekjmboimaaDoorLm
import Derived.Test.YtaddpekjmboimaaDoorWi
import Derived.RangeFuncNested
import Derived.RangeFuncBound
import Derived.RangeFuncCalls
import Derived.RangeFuncLeaves
import Derived.RangeFuncFrom
import Derived.Shelf.Abstract
import Derived.Shelf.RegionOpen
import Derived.OwnWalkIn
import Derived.TacticsInMore
import Derived.LoopNIn
import Derived.LoopIn
namespace Go.Proofs.YtaddpekjmboimaaDoor
open Go.RowKit Go.Maps Go.WideMaps Go.WideElems Go.ChangeShapes Go.WideShapes
attribute [local go_sem] Oper.semAt_some

set_option maxRecDepth 100000 in
set_option maxHeartbeats 2000000 in
theorem lines1 (n : Nat) (hn : 1 ≤ n) (l Bs n₀ : Nat) (s : List UInt8) (hs : s.length ≤ 1000000) (m : Int) (J Jx : List Nat → World → Prop) (hJd : ∀ pre W q, J pre W → J pre (W.drewN q))
    (hY : ∀ pre (x : Nat) W, J pre W → pre.length < (linesL s).length → YieldAt Fence.wide (n - 1) Tryd.prog l #[.int .i64 ((x : Int) + 1), tv ((linesL s)[x]?.getD [])] W fun e W' =>
      (e = .returned (.bool true) ∧ J (pre ++ [x]) W' ∧ Below n₀ W W') ∨ (e = .returned (.bool false) ∧ Jx (pre ++ [x]) W'))
    (W : World) (hm : W.cell? ⟨3, 0, none⟩ = some (.int .i64 m)) (h3 : 3 < n₀) (hBs : W.cell? ⟨Bs, 0, none⟩ = some (tv s)) (h0 : J [] W) :
    CallsIn Fence.wide n Tryd.prog 32 #[.func (.yield l) #[] #[], .pointer (some ⟨Bs, 0, none⟩)] W fun e W' => (∃ v, e = .returned v) ∧
      ((∃ ys, ys = List.range (linesL s).length ∧ J ys W') ∨ (∃ pre, (∃ k, k ≤ (linesL s).length ∧ pre = List.range k) ∧ Jx pre W')) := by
  generalize hLL : linesL s = LL at *
  have HL : Hid (linesL s = LL.drop 0) := by show _ = _; rw [List.drop_zero, hLL]
  clear hLL
  refine callsIn_of_wp Tryd.func32 rfl trivial ?_ rfl
  simp only [Tryd.ntmps32, List.size_toArray, List.length_cons, List.length_nil, Nat.reduceAdd, Nat.reduceSub, Array.replicate_succ, Array.replicate_zero, List.push_toArray, List.append_toArray, List.nil_append, List.cons_append]
  gi_wp2
  gi_loopw [4, 3] (fun i r wr => ∃ (k : Nat) (rest : List UInt8), k ≤ LL.length ∧ i = .int .i64 ((k : Int) + 1) ∧ r = tv rest ∧ rest.length + k ≤ 1000000 ∧ Hid (linesL rest = LL.drop k) ∧ J (List.range k) wr ∧ Below n₀ W wr)
    (fun i _ _ => LL.length + 1 - (intOf i).toNat)
  case atStart => exact ⟨0, s, Nat.zero_le _, rfl, rfl, by omega, HL, h0, Below.refl _ _⟩
  case round =>
    obtain ⟨k, rest, hk, rfl, rfl, hrl, HR, hJs, hnx⟩ := hrel
    have hrs : (⟨rest.toArray⟩ : ByteArray).size = rest.length := by simp [ByteArray.size]
    by_cases he : rest = []
    · subst he
      have hke : k = LL.length := by
        have h := HR.out
        have h2 : (LL.drop k).length = 0 := by rw [← h]; rfl
        simp at h2; omega
      subst hke
      gi_wp2
      go_end0
      exact ⟨⟨_, rfl⟩, .inl ⟨_, rfl, hJs⟩⟩
    · have hcut := Tryd.strings_Cut ⟨rest.toArray⟩ ⟨#[10]⟩ m wr (by rw [hrs]; omega) ((hnx.cell (p := ⟨3, 0, none⟩) h3).trans hm)
      have hx := lines_cut he
      have hcl := cut_lens rest he
      have hdd : (⟨rest.toArray⟩ : ByteArray).data.toList = rest := by simp
      have hd1 : (⟨#[10]⟩ : ByteArray).data.toList = [10] := rfl
      rw [hdd, hd1] at hcut
      have hnb : rest.isEmpty = false := by simpa using he
      generalize (Lib.cut rest [10]).1 = X at *
      generalize (Lib.cut rest [10]).2.1 = Y at *
      have Hcut := Lib.hid hcut
      have Hx := Lib.hid hx
      have hlk : k < LL.length := by
        have h := HR.out
        rw [hx] at h
        have h2 := congrArg List.length h
        simp at h2; omega
      have hX : LL[k]?.getD [] = X := by
        have h := HR.out
        rw [hx, List.drop_eq_getElem_cons hlk] at h
        rw [List.getElem?_eq_getElem hlk, (List.cons.inj h).1]; rfl
      have hY2 : linesL Y = LL.drop (k + 1) := by
        have h := HR.out
        rw [hx, List.drop_eq_getElem_cons hlk] at h
        exact (List.cons.inj h).2
      have HY2 := Lib.hid hY2
      have HX := Lib.hid hX
      clear hcut hx hdd hd1 he hX hY2 HL
      gi_wp2_with (first | (refine ⟨trivial, ?_⟩; gi_at_call 33; refine (callsIn_wide.2 Hcut.out).mono ?_; rintro e w2 ⟨rfl, q, rfl⟩; obtain ⟨fn, tmps, assign, body, hy, hR⟩ := hY _ k (wr.drewN q) (hJd _ _ q hJs) (by rw [List.length_range]; exact hlk); rw [HX.out] at hy))
      refine hR.mono ?_
      rintro e W3 (⟨rfl, hJ3, hk3⟩ | ⟨rfl, hJx3⟩)
      · gi_wp2
        go_roundw
        case rel => exact ⟨k + 1, Y, by omega, by go_num, rfl, by omega, HY2.out, by rw [List.range_succ]; exact hJ3, (below_drewN hnx q).trans hk3⟩
        case measure => simp [intOf]; omega
      · gi_wp2
        refine bodyPost_ret (results_none rfl _ _ _) rfl ?_
        exact ⟨⟨_, rfl⟩, .inr ⟨_, ⟨k + 1, by omega, List.range_succ.symm⟩, hJx3⟩⟩
end Go.Proofs.YtaddpekjmboimaaDoor
