/- The iterator over a store's states, as a loop takes it. -/
import Derived.Test.YtcjfcomadcebnaaGreatDoorEa
import Derived.Test.YtcjfcomadcebnaaGreatDoorDp
namespace Go.Proofs.YtcjfcomadcebnaaGreatDoor
open Go.RowKit Go.Maps Go.WideMaps Go.WideElems Go.ChangeShapes Go.WideShapes
attribute [local go_sem] Oper.semAt_some

/-- A state, plainly: its kind, its number, its text. -/
abbrev P3 := Int × Int × List UInt8
/-- States, as cells. -/
def sts (S : List P3) : List Value := S.flatMap fun s => [.int .i64 s.1, .int .i64 s.2.1, tv s.2.2]
theorem sts_len (S : List P3) : (sts S).length = S.length * 3 := by
  induction S with
  | nil => rfl
  | cons o os ih => show (_ :: _ :: _ :: sts os).length = _; simp [ih]; omega
theorem sts_one (S : List P3) : ∀ u ∈ sts S, u.oneCell' = true := by
  intro u hu
  simp [sts] at hu
  rcases hu with ⟨_, _, _, _, rfl | rfl | rfl⟩ <;> rfl
theorem sts_get : ∀ (S : List P3) (k : Nat) (h : k < S.length), (sts S)[k * 3]? = some (.int .i64 S[k].1) ∧ (sts S)[k * 3 + 1]? = some (.int .i64 S[k].2.1) ∧ (sts S)[k * 3 + 2]? = some (tv S[k].2.2)
  | s :: S, 0, _ => ⟨rfl, rfl, rfl⟩
  | s :: S, k + 1, h => by
    obtain ⟨h0, h1, h2⟩ := sts_get S k (by simpa using h)
    have e : ∀ j, (sts (s :: S))[(k + 1) * 3 + j]? = (sts S)[k * 3 + j]? := fun j => by
      show (_ :: _ :: _ :: sts S)[_]? = _
      rw [show (k + 1) * 3 + j = (k * 3 + j) + 1 + 1 + 1 by omega, List.getElem?_cons_succ, List.getElem?_cons_succ, List.getElem?_cons_succ]
    exact ⟨(e 0).trans h0, (e 1).trans h1, (e 2).trans h2⟩
/-- The k-th state. -/
def stA (S : List P3) (k : Nat) : P3 := S[k]?.getD (0, 0, [])
theorem stA_at (S : List P3) (k : Nat) (h : k < S.length) : (sts S)[k * 3]? = some (.int .i64 (stA S k).1) ∧ (sts S)[k * 3 + 1]? = some (.int .i64 (stA S k).2.1) ∧ (sts S)[k * 3 + 2]? = some (tv (stA S k).2.2) := by
  unfold stA
  rw [List.getElem?_eq_getElem h]
  exact sts_get S k h
abbrev stV (s : P3) : Value := stv s.1 s.2.1 s.2.2

/-- What a loop's body leaves: the blocks below n₀, and the iterator's own box. -/
structure KpS (n₀ Bs : Nat) (A B : World) : Prop where
  below : Below n₀ A B
  box : B.heap[Bs]? = A.heap[Bs]?
theorem KpS.trans {n₀ Bs : Nat} {A B C : World} (h : KpS n₀ Bs A B) (k : KpS n₀ Bs B C) : KpS n₀ Bs A C := ⟨h.below.trans k.below, k.box.trans h.box⟩
theorem KpS.of_below {n₀ Bs : Nat} {A B : World} (h : Below A.heap.size A B) (hn : n₀ ≤ A.heap.size) (hb : Bs < A.heap.size) : KpS n₀ Bs A B := ⟨h.mono hn, h.block _ hb⟩

set_option maxRecDepth 100000 in
set_option maxHeartbeats 2000000 in
theorem seach1 (n : Nat) (hn : 1 ≤ n) (l Bs n₀ : Nat) (a : Option Addr) (c : Nat) (S : List P3) (hreach : S.length ≤ 1000000) (J Jx : List Nat → World → Prop) (hJT : ∀ s A B, J s A → Below A.heap.size A B → J s B)
    (hY : ∀ pre (x : Nat) W, J pre W → pre.length < S.length → YieldAt Fence.wide (n - 1) Tryz.prog l #[.int .i64 (x : Int), stV (stA S x)] W fun e W' =>
      (e = .returned (.bool true) ∧ J (pre ++ [x]) W' ∧ KpS n₀ Bs W W') ∨ (e = .returned (.bool false) ∧ Jx (pre ++ [x]) W'))
    (W : World) (hBs : Boxed W Bs 29 (.slice a S.length c)) (hBn : Bs < W.heap.size) (hz : n₀ ≤ W.heap.size) (hc : ∀ W', Below n₀ W W' → SlAt W' a (sts S)) (h0 : J [] W) :
    CallsIn Fence.wide n Tryz.prog 43 #[.func (.yield l) #[] #[], .pointer (some ⟨Bs, 0, none⟩)] W fun e W' => (∃ v, e = .returned v) ∧
      ((∃ ys, ys = List.range S.length ∧ J ys W') ∨ (∃ pre, (∃ k, k < S.length ∧ pre = List.range (k + 1)) ∧ Jx pre W')) := by
  have Hst := Lib.hid (fun k (h : k < S.length) => stA_at S k h)
  have hL := Lib.hid (slen_any a S.length c W)
  have x0 := hBs.cell
  have HB := Lib.hid hBs
  have HC := Lib.hid hc
  clear hBs hc
  refine callsIn_of_wp Tryz.func43 rfl trivial ?_ rfl
  simp only [Tryz.ntmps43, List.size_toArray, List.length_cons, List.length_nil, Nat.reduceAdd, Nat.reduceSub, Array.replicate_succ, Array.replicate_zero, List.push_toArray, List.append_toArray, List.nil_append, List.cons_append]
  gi_wp2_with (first | (refine ⟨trivial, ?_⟩; gi_at_call 32; refine (callsIn_wide.2 hL.out).mono ?_; rintro e w2 ⟨rfl, h2⟩))
  have Hr0 : Hid (KpS n₀ Bs W w2 ∧ J [] w2) := ⟨.of_below h2.out hz hBn, hJT _ _ _ h0 h2.out⟩
  clear h0 hL x0 h2
  gi_loopw [8] (fun i wr => ∃ k : Nat, k ≤ S.length ∧ i = .int .i64 k ∧ Hid (KpS n₀ Bs W wr ∧ J (List.range k) wr))
    (fun i _ => S.length - (intOf i).toNat)
  case atStart => exact ⟨0, Nat.zero_le _, rfl, Hr0⟩
  case round =>
    obtain ⟨k, hk, rfl, HJ⟩ := hrel
    by_cases hlt : k < S.length
    · have HBw : Hid (Boxed wr Bs 29 (.slice a S.length c)) := HJ.out.1.box.trans HB.out
      have hzr := Lib.hid (Nat.le_trans hz HJ.out.1.below.size)
      have hBr := Lib.hid (Nat.lt_of_lt_of_le hBn HJ.out.1.below.size)
      have x0 := HBw.out.cell
      have hst := Hst.out k hlt
      have HA := Lib.hid (sat_in a S.length c (sts S) k hlt _ _ _ hst.1 hst.2.1 hst.2.2 wr (HC.out wr HJ.out.1.below))
      have HY := Lib.hid (fun W1 (h : J (List.range k) W1) => hY (List.range k) k W1 h (by rw [List.length_range]; exact hlt))
      clear hst hY
      generalize stA S k = y at *
      obtain ⟨p, q, r⟩ := y
      try dsimp only at HA
      gi_wp2_with (first | (refine ⟨trivial, ?_⟩; gi_at_call 10; refine (callsIn_wide.2 HA.out).mono ?_; rintro e w3 ⟨rfl, h3⟩; obtain ⟨W5, hW5, Hb5, hs5, Hp5⟩ := cells_new w3 #[.int .i64 p, .int .i64 q, tv r] 34; obtain ⟨y0, y1, y2⟩ := row_three Hp5.out; have H5 := Lib.hid ((HJ.out.1.trans (.of_below h3.out hzr.out hBr.out)).trans (.of_below Hb5.out (Nat.le_trans hzr.out h3.out.size) (Nat.lt_of_lt_of_le hBr.out h3.out.size))); have hJ5 := hJT _ _ _ (hJT _ _ _ HJ.out.2 h3.out) Hb5.out; obtain ⟨fn, tmps, assign, body, hy, hR⟩ := HY.out W5 hJ5; (try dsimp only at hy); clear HY))
      refine hR.mono ?_
      rintro e W3 (⟨rfl, hJ3, hk3⟩ | ⟨rfl, hJx3⟩)
      · gi_wp2
        go_roundw
        case rel => exact ⟨k + 1, by omega, by go_num, H5.out.trans hk3, by rw [List.range_succ]; exact hJ3⟩
        case measure => simp [intOf]; omega
      · gi_wp2
        refine bodyPost_ret (results_none rfl _ _ _) rfl ?_
        exact ⟨⟨_, rfl⟩, .inr ⟨_, ⟨k, hlt, List.range_succ.symm⟩, hJx3⟩⟩
    · have hkl : k = S.length := by omega
      have HJ2 : Hid (J (List.range S.length) wr) := by rw [← hkl]; exact HJ.out.2
      clear HJ
      gi_wp2
      go_end0
      exact ⟨⟨_, rfl⟩, .inl ⟨_, rfl, HJ2.out⟩⟩

theorem seach_seq (n : Nat) (hn : 1 ≤ n) (Bs n₀ : Nat) (a : Option Addr) (c : Nat) (S : List P3) (hreach : S.length ≤ 1000000) (w : World) (hBs : Boxed w Bs 29 (.slice a S.length c)) (hBn : Bs < w.heap.size) (hz : n₀ ≤ w.heap.size) (hc : ∀ W', Below n₀ w W' → SlAt W' a (sts S)) :
    SeqC Fence.wide n Tryz.prog 43 #[.pointer (some ⟨Bs, 0, none⟩)] (fun x : Nat => #[.int .i64 (x : Int), stV (stA S x)]) (KpS n₀ Bs) (fun A B => Below A.heap.size A B) (fun ys => ys = List.range S.length) (fun pre => ∃ k, k < S.length ∧ pre = List.range (k + 1)) S.length w := fun l J Jx W hW hJT hY h0 =>
  seach1 n hn l Bs n₀ a c S hreach J Jx hJT hY W (boxed_below hBs hW hBn) (Nat.lt_of_lt_of_le hBn hW.size) (Nat.le_trans hz hW.size) (fun W' h => hc W' ((hW.mono hz).trans h)) h0

set_option maxHeartbeats 400000 in
set_option maxRecDepth 100000 in
/-- Each: a function over the states. -/
theorem each_any (v : Value) (w : World) : Calls Tryz.prog 15 #[.agg #[v]] w fun e w' => e = .returned (.func (.func 43) #[] #[.pointer (some ⟨w.heap.size, 0, none⟩)]) ∧ w.alloc (.cells #[v] 29) = w' := by
  have hmf : ∀ (fn : Fn) (first cap : Array Value) (w : World), (Instr.makeFunc fn first cap).run Tryz.prog w = .ok (.func fn first cap) w := fun _ _ _ _ => rfl
  go_enter Tryz.func15, Tryz.ntmps15
  go_wp2
  go_ret
  exact ⟨rfl, rfl⟩
end Go.Proofs.YtcjfcomadcebnaaGreatDoor
