/- The iterator over the prefixes, as a loop takes it. -/
import Derived.Test.YtfjjhjojcgacbaaDoorQa
namespace Go.Proofs.YtfjjhjojcgacbaaDoor
open Go.RowKit Go.Maps Go.WideMaps Go.WideElems Go.ChangeShapes Go.WideShapes
attribute [local go_sem] Oper.semAt_some
variable {T : TypeId} {er : Nat → Addr}

abbrev Item := Nat × (Option Addr × Nat) × (Option Addr × Nat)
abbrev encI (n : Nat) (x : Item) : Array Value := #[.int .i64 (x.1 : Int), .agg #[.slice x.2.1.1 n x.2.1.2, .slice x.2.2.1 x.1 x.2.2.2]]
/-- What the iterator has made of an item. -/
structure OkI (n m : Nat) (os : List (Int × Int)) (es : List Ev) (pre : List Item) (x : Item) (W : World) : Prop where
  place : x.1 = pre.length
  le : x.1 ≤ m
  inn : InH W x.2.1.1 n x.2.1.2 x.2.2.1 x.1 x.2.2.2 os (es.take x.1)

set_option maxHeartbeats 8000000 in
set_option maxRecDepth 100000 in
theorem each1 (w0 : World) (Q : Nat) (a : Option Addr) (n c : Nat) (b : Option Addr) (m d : Nat) (os : List (Int × Int)) (es : List Ev) (hbx : w0.heap[Q]? = some (.cells #[.slice a n c, .slice b m d] 25)) (hin : InH w0 a n c b m d os es) (hm6 : m ≤ 100000)
    (nn : Nat) (hnn : 1 ≤ nn) (l : Nat) (J Jx : List Item → World → Prop) (hJT : ∀ s A B, J s A → Below A.heap.size A B → J s B)
    (hY : ∀ pre (x : Item) W, J pre W → OkI n m os es pre x W → pre.length < m + 1 → YieldAt Fence.wide (nn - 1) Tryd.prog l (encI n x) W fun e W' =>
      (e = .returned (.bool true) ∧ J (pre ++ [x]) W' ∧ Below w0.heap.size W W') ∨ (e = .returned (.bool false) ∧ Jx (pre ++ [x]) W'))
    (W : World) (hW : Below w0.heap.size w0 W) (h0 : J [] W) :
    CallsIn Fence.wide nn Tryd.prog 43 #[.func (.yield l) #[] #[], .pointer (some ⟨Q, 0, none⟩)] W fun e W' => (∃ v, e = .returned v) ∧
      ((∃ ys : List Item, ys.length = m + 1 ∧ J ys W') ∨ (∃ pre : List Item, (1 ≤ pre.length ∧ pre.length ≤ m + 1) ∧ Jx pre W')) := by
  have Hin := Lib.hid hin
  have Hbx := Lib.hid hbx
  obtain ⟨x0, x1⟩ := row_two (keepB hW hbx)
  have hmI : (m : Int) ≤ 100000 := by omega
  have hmI0 : (0 : Int) ≤ (m : Int) := by omega
  refine callsIn_of_wp Tryd.func43 rfl trivial ?_ rfl
  simp only [Tryd.ntmps43, List.size_toArray, List.length_cons, List.length_nil, Nat.reduceAdd, Nat.reduceSub, Array.replicate_succ, Array.replicate_zero, List.push_toArray, List.append_toArray, List.nil_append, List.cons_append]
  have Hr0 : Hid (Below w0.heap.size w0 W ∧ ∃ pre : List Item, pre.length = 0 ∧ J pre W) := ⟨hW, [], rfl, h0⟩
  clear h0 hin hbx hW
  gi_wp2
  clear x0 x1
  gi_loopw [8] (fun i wr => ∃ k : Nat, k ≤ m + 1 ∧ i = .int .i64 ((k : Nat) : Int) ∧ Hid (Below w0.heap.size w0 wr ∧ ∃ pre : List Item, pre.length = k ∧ J pre wr))
    (fun i _ => m + 1 - (intOf i).toNat)
  case atStart => exact ⟨0, by omega, rfl, Hr0⟩
  case round =>
    obtain ⟨k, hk, rfl, HJ⟩ := hrel
    by_cases hlt : k < m + 1
    · obtain ⟨x0, x1⟩ := row_two (keepB HJ.out.1 Hbx.out)
      have hkI : (k : Int) < (m : Int) + 1 := by omega
      have hkm : k ≤ m := by omega
      have HP := Lib.hid (prefix_h (Hin.out.below HJ.out.1) (k : Int) (es' := es.take k) (m' := k) (by rw [preN_of hkm]) (by rw [List.length_take, Hin.out.hm]; omega))
      obtain ⟨pre, hp, hJp⟩ := HJ.out.2
      have HJp := Lib.hid hJp
      have Hp := Lib.hid hp
      have HY := Lib.hid (fun W1 a1 c1 b1 d1 (h : J pre W1) (ho : InH W1 a1 n c1 b1 k d1 os (es.take k)) => show YieldAt Fence.wide (nn - 1) Tryd.prog l #[.int .i64 (k : Int), .agg #[.slice a1 n c1, .slice b1 k d1]] W1 _ from hY pre (k, (a1, c1), (b1, d1)) W1 h ⟨hp.symm, hkm, ho⟩ (by rw [hp]; exact hlt))
      have Hlt := Lib.hid hlt
      clear hY hp hJp hkm hlt
      gi_wp2_with (first | (refine ⟨trivial, ?_⟩; gi_at_call 13; refine (callsIn_wide.2 HP.out).mono ?_; rintro e w3 ⟨a1, c1, b1, d1, rfl, h3⟩; have H3 : Hid (Below w0.heap.size w0 w3) := HJ.out.1.trans (h3.out.2.mono HJ.out.1.size); have hJ3 := hJT _ _ _ HJp.out h3.out.2; obtain ⟨fn, tmps, assign, body, hy, hR⟩ := HY.out w3 _ _ _ _ hJ3 h3.out.1; (try dsimp only at hy); clear HY))
      refine hR.mono ?_
      rintro e W3 (⟨rfl, hJ4, hk3⟩ | ⟨rfl, hJx3⟩)
      · gi_wp2
        go_roundw
        case rel => exact ⟨k + 1, by have := Hlt.out; omega, by go_num, H3.out.trans hk3, _, by rw [List.length_append, Hp.out]; rfl, hJ4⟩
        case measure => have := Hlt.out; simp [intOf]; omega
      · gi_wp2
        refine bodyPost_ret (results_none rfl _ _ _) rfl ?_
        exact ⟨⟨_, rfl⟩, .inr ⟨_, (by have := Hlt.out; rw [List.length_append, Hp.out]; simp; omega), hJx3⟩⟩
    · have hkl : k = m + 1 := by omega
      subst hkl
      have hge : ¬ (((m + 1 : Nat) : Int) < (m : Int) + 1) := by omega
      obtain ⟨pre, hp, hJp⟩ := HJ.out.2
      have HJ2 := Lib.hid hJp
      have Hp := Lib.hid hp
      clear HJ hp hJp
      gi_wp2
      go_end0
      exact ⟨⟨_, rfl⟩, .inl ⟨_, Hp.out, HJ2.out⟩⟩
theorem each_seq (w0 : World) (Q : Nat) (a : Option Addr) (n c : Nat) (b : Option Addr) (m d : Nat) (os : List (Int × Int)) (es : List Ev) (hbx : w0.heap[Q]? = some (.cells #[.slice a n c, .slice b m d] 25)) (hin : InH w0 a n c b m d os es) (hm6 : m ≤ 100000) (nn : Nat) (hnn : 1 ≤ nn) :
    SeqE Fence.wide nn Tryd.prog 43 #[.pointer (some ⟨Q, 0, none⟩)] (encI n) (fun A B => Below w0.heap.size A B) (fun A B => Below A.heap.size A B) (OkI n m os es) (fun ys => ys.length = m + 1) (fun pre => 1 ≤ pre.length ∧ pre.length ≤ m + 1) (m + 1) w0 := fun l J Jx W hW hJT hY h0 =>
  each1 w0 Q a n c b m d os es hbx hin hm6 nn hnn l J Jx hJT hY W hW h0
set_option maxHeartbeats 8000000 in
set_option maxRecDepth 100000 in
theorem prefixes_h {V : World} {a b : Option Addr} {n c m d : Nat} {os : List (Int × Int)} {es : List Ev} (h : InH V a n c b m d os es) :
    Calls Tryd.prog 23 #[hv a n c b m d] V fun e w' => ∃ a1 c1 b1 d1 Q, e = .returned (.func (.func 43) #[] #[.pointer (some ⟨Q, 0, none⟩)]) ∧ Hid (w'.heap[Q]? = some (.cells #[.slice a1 n c1, .slice b1 m d1] 25) ∧ InH w' a1 n c1 b1 m d1 os es ∧ Below V.heap.size V w') := by
  have hmf : ∀ (fn : Fn) (first cap : Array Value) (w : World), (Instr.makeFunc fn first cap).run Tryd.prog w = .ok (.func fn first cap) w := fun _ _ _ _ => rfl
  obtain ⟨W1, hW1, Hb1, hs1, Hx1⟩ := cells_new V #[.slice a n c, .slice b m d] 25
  have HC := Lib.hid (clone_h (h.below Hb1.out))
  obtain ⟨x0, x1⟩ := row_two Hx1.out
  clear h hs1 Hx1
  go_enter Tryd.func23, Tryd.ntmps23
  go_wp2_with (first
    | (go_at_call 37; (with_reducible refine HC.out.mono ?_); rintro e w2 ⟨a1, c1, b1, d1, rfl, K2⟩
       obtain ⟨W3, hW3, Hb3, hs3, Hx3⟩ := cells_new w2 #[.slice a1 n c1, .slice b1 m d1] 25))
  go_ret
  exact ⟨a1, c1, b1, d1, _, rfl, Hx3.out, K2.out.1.below Hb3.out, stepB Hb1.out (stepB K2.out.2 Hb3.out)⟩
end Go.Proofs.YtfjjhjojcgacbaaDoor
