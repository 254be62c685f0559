/- Helpers, joined: Ke, Ka, Kb, Sh, Kf, Kg. -/
import Derived.Test.YthgkloapnihpaaaM8
import Derived.RangeFuncNested
import Derived.RangeFuncBound
import Derived.RangeFuncCalls
import Derived.RangeFuncLeaves
import Derived.RangeFuncFrom
import Derived.RangeFuncWrites
import Derived.OwnWalkIn
import Derived.TacticsInMore
import Derived.LoopNIn
import Derived.LoopIn
import Derived.Shelf.RegionOpen
import Derived.Shelf.SlLaysF
import Derived.Test.YthgkloapnihpaaaProg
import Derived.Shelf.SlSortCmp.NoneTotal
import Derived.Sort.Grow

/- slices.Backward over numbers, as a loop takes it. -/
namespace Go.Proofs.Ythgkloapnihpaaa
open Go.RowKit Go.Maps Go.WideMaps Go.WideElems Go.ChangeShapes Go.WideShapes
attribute [local go_sem] Oper.semAt_some

/-- What a round keeps: all that lay there ahead of the loop, but two blocks. -/
structure KpB (n₁ mb pb : Nat) (A B : World) : Prop where
  size : A.heap.size ≤ B.heap.size
  block : ∀ k, k < n₁ → k ≠ mb → k ≠ pb → B.heap[k]? = A.heap[k]?
theorem KpB.trans {n₁ mb pb : Nat} {A B C : World} (h : KpB n₁ mb pb A B) (k : KpB n₁ mb pb B C) : KpB n₁ mb pb A C := ⟨Nat.le_trans h.size k.size, fun i h1 h2 h3 => (k.block i h1 h2 h3).trans (h.block i h1 h2 h3)⟩
theorem KpB.refl (n₁ mb pb : Nat) (A : World) : KpB n₁ mb pb A A := ⟨Nat.le_refl _, fun _ _ _ _ => rfl⟩
theorem KpB.below {n₁ mb pb : Nat} {A B : World} (h : Below A.heap.size A B) (hn : n₁ ≤ A.heap.size) : KpB n₁ mb pb A B := ⟨h.size, fun k hk _ _ => h.block k (by omega)⟩
theorem KpB.ints {n₁ mb pb B : Nat} {W W' : World} {v : Value} {zs : List Int} (h : KpB n₁ mb pb W W') (hv : IntsO W B v zs) (hb : ∀ q, v.ownBlock = some q → q < n₁ ∧ q ≠ mb ∧ q ≠ pb) : IntsO W' B v zs := by
  rcases hv with hv | ⟨g, off, cap, cur, rfl, hB, hh, r⟩
  · exact .inl hv
  · obtain ⟨h1, h2, h3⟩ := hb g rfl
    exact .inr ⟨g, off, cap, cur, rfl, hB, (h.block g h1 h2 h3).trans hh, r⟩
/-- The places from the last one on, so many. -/
def revQ (n q : Nat) : List (Fin n) := (List.finRange n).reverse.take q
theorem revQ_next {n q : Nat} (h : q < n) : revQ n (q + 1) = revQ n q ++ [⟨n - 1 - q, by omega⟩] := by
  unfold revQ
  have hl : q < ((List.finRange n).reverse).length := by simp [h]
  rw [List.take_add_one, List.getElem?_eq_getElem hl]
  simp
theorem revQ_len {n q : Nat} (h : q ≤ n) : (revQ n q).length = q := by
  unfold revQ
  simp
  omega
theorem revQ_all (n : Nat) : revQ n n = (List.finRange n).reverse := by
  unfold revQ
  exact List.take_of_length_le (by simp)
theorem revQ_zero (n : Nat) : revQ n 0 = [] := rfl
set_option maxRecDepth 100000 in
set_option maxHeartbeats 4000000 in
theorem back1 (n : Nat) (hn : 1 ≤ n) (l Bs n₁ mb pb B : Nat) (v : Value) (O : List Int) (hl : O.length ≤ 500) (J Jx : List (Fin O.length) → World → Prop) (W : World)
    (hbx : Boxed W Bs 23 v) (hB1 : Bs < n₁ ∧ Bs ≠ mb ∧ Bs ≠ pb) (hv : IntsO W B v O) (hb : ∀ q, v.ownBlock = some q → q < n₁ ∧ q ≠ mb ∧ q ≠ pb)
    (hY : ∀ pre (x : Fin O.length) W1, J pre W1 → pre.length < O.length → YieldAt Fence.wide (n - 1) Try.prog l #[.int .i64 ((x.val : Nat) : Int), iv (O.getD x.val 0)] W1 fun e W' =>
      (e = .returned (.bool true) ∧ J (pre ++ [x]) W' ∧ KpB n₁ mb pb W1 W') ∨ (e = .returned (.bool false) ∧ Jx (pre ++ [x]) W')) (h0 : J [] W) :
    CallsIn Fence.wide n Try.prog 73 #[.func (.yield l) #[] #[], .pointer (some ⟨Bs, 0, none⟩)] W fun e W' => (∃ v, e = .returned v) ∧
      ((∃ xs, xs = revQ O.length O.length ∧ J xs W') ∨ (∃ pre, True ∧ Jx pre W')) := by
  obtain ⟨p, c, rfl, -, -⟩ := hv.form
  have x0 := hbx.cell
  have HB := Lib.hid hbx
  have HV := Lib.hid hv
  have HBs := Lib.hid hB1
  have Hb := Lib.hid hb
  have HY := Lib.hid hY
  have H0 : Hid (KpB n₁ mb pb W W ∧ J (revQ O.length 0) W) := ⟨KpB.refl _ _ _ _, h0⟩
  obtain ⟨m, hm⟩ : ∃ m, O.length = m := ⟨_, rfl⟩
  have Hm := Lib.hid hm
  clear hbx hB1 hv hb hY h0
  refine callsIn_of_wp Try.func73 rfl trivial ?_ rfl
  simp only [Try.ntmps73, List.size_toArray, List.length_cons, List.length_nil, Nat.reduceAdd, Nat.reduceSub, Array.replicate_succ, Array.replicate_zero, List.push_toArray, List.append_toArray, List.nil_append, List.cons_append]
  rw [hm] at x0 hl
  clear hm
  gi_wp2
  gi_loopw [3] (fun i wr => ∃ q : Nat, q ≤ m ∧ i = .int .i64 ((m : Int) - 1 - q) ∧ Hid (KpB n₁ mb pb W wr ∧ J (revQ O.length q) wr)) (fun i _ => (intOf i + 1).toNat)
  case atStart => exact ⟨0, Nat.zero_le _, by first | rfl | simp, H0.out⟩
  case round =>
    obtain ⟨q, hq, rfl, HJ⟩ := hrel
    by_cases hlt : q < m
    · obtain ⟨j, hj⟩ : ∃ j : Nat, j = m - 1 - q := ⟨_, rfl⟩
      have e : (m : Int) - 1 - q = (j : Int) := by omega
      rw [e]
      have hjm : j < m := by omega
      have hjO : j < O.length := by rw [Hm.out]; exact hjm
      have HBw : Hid (Boxed wr Bs 23 (.slice p O.length c)) := (HJ.out.1.block Bs HBs.out.1 HBs.out.2.1 HBs.out.2.2).trans HB.out
      have x1 := HBw.out.cell
      rw [Hm.out] at x1
      have hvw := HJ.out.1.ints HV.out Hb.out
      have hsl : SlI wr p O := by
        obtain ⟨p', c', e', hs⟩ := hvw.sl
        simp only [Value.slice.injEq] at e'
        rw [e'.1]
        exact hs
      obtain ⟨b1, off1, rfl, hc0⟩ := hsl.at hjO
      have hrn := revQ_next (n := O.length) (q := q) (by rw [Hm.out]; exact hlt)
      have hx : (⟨O.length - 1 - q, by omega⟩ : Fin O.length) = ⟨j, hjO⟩ := Fin.ext (by show O.length - 1 - q = j; rw [Hm.out]; exact hj.symm)
      rw [hx] at hrn
      have Hrn := Lib.hid hrn
      obtain ⟨fn, tmps, assign, body, hy, hR⟩ := HY.out (revQ O.length q) ⟨j, hjO⟩ wr HJ.out.2 (by rw [revQ_len (by rw [Hm.out]; exact hq), Hm.out]; exact hlt)
      dsimp only at hy
      obtain ⟨y, hye⟩ : ∃ y, O.getD j 0 = y := ⟨_, rfl⟩
      rw [hye] at hc0 hy
      have hix0 : (0 : Int) ≤ (j : Int) := by omega
      have hix1 : (j : Int) < (m : Int) := by omega
      have HR := Lib.hid hR
      have hjq : Hid ((j : Int) = (m : Int) - 1 - q) := e.symm
      clear hvw hsl hrn hx hR hye e hj hlt
      gi_wp2
      refine HR.out.mono ?_
      rintro e W3 (⟨rfl, hJ3, hk3⟩ | ⟨rfl, hJx3⟩)
      · have HJ3 : Hid (KpB n₁ mb pb W W3 ∧ J (revQ O.length (q + 1)) W3) := by
          refine ⟨HJ.out.1.trans hk3, ?_⟩
          rw [Hrn.out]
          exact hJ3
        clear hJ3 hk3
        have hwr : IntKind.i64.wrap ((j : Int) - 1) = (j : Int) - 1 := by rw [IntKind.wrap_i64]; omega
        gi_wp2
        go_roundw
        case rel =>
          have := hjq.out
          exact ⟨q + 1, by omega, by congr 1; omega, HJ3.out⟩
        case measure =>
          simp only [intOf]
          omega
      · gi_wp2
        refine bodyPost_ret (results_none rfl _ _ _) rfl ?_
        exact ⟨⟨_, rfl⟩, .inr ⟨_, trivial, hJx3⟩⟩
    · have hqm : q = m := by omega
      subst hqm
      have e : (q : Int) - 1 - q = -1 := by omega
      rw [e]
      have HJ2 : Hid (J (revQ O.length O.length) wr) := by
        show J _ _
        have := HJ.out.2
        rw [← Hm.out] at this
        exact this
      clear HJ
      gi_wp2
      go_end0
      exact ⟨⟨_, rfl⟩, .inl ⟨_, rfl, HJ2.out⟩⟩
theorem back_seq (n : Nat) (hn : 1 ≤ n) (Bs n₁ mb pb B : Nat) (v : Value) (O : List Int) (hl : O.length ≤ 500) (w : World) (hn1 : n₁ ≤ w.heap.size)
    (hbx : Boxed w Bs 23 v) (hB1 : Bs < n₁ ∧ Bs ≠ mb ∧ Bs ≠ pb) (hv : IntsO w B v O) (hb : ∀ q, v.ownBlock = some q → q < n₁ ∧ q ≠ mb ∧ q ≠ pb) :
    SeqStopsK Fence.wide n Try.prog 73 #[.pointer (some ⟨Bs, 0, none⟩)] (fun x : Fin O.length => #[.int .i64 ((x.val : Nat) : Int), iv (O.getD x.val 0)]) (KpB n₁ mb pb) (fun xs => xs = revQ O.length O.length) (fun _ => True) O.length w := fun l J Jx W hW _ _ hY h0 =>
  back1 n hn l Bs n₁ mb pb B v O hl J Jx W ((hW.block Bs (Nat.lt_of_lt_of_le hB1.1 hn1)).trans hbx) hB1 (hv.below hW) hb hY h0
set_option maxHeartbeats 400000 in
set_option maxRecDepth 100000 in
theorem backward_any (p : Option Addr) (n c : Nat) (w : World) : Calls Try.prog 57 #[.slice p n c] w fun e w' => e = .returned (.func (.func 73) #[] #[.pointer (some ⟨w.heap.size, 0, none⟩)]) ∧ w.alloc (.cells #[.slice p n c] 23) = w' := by
  have hmf : ∀ (fn : Fn) (first cap : Array Value) (w : World), (Instr.makeFunc fn first cap).run Try.prog w = .ok (.func fn first cap) w := fun _ _ _ _ => rfl
  go_enter Try.func57, Try.ntmps57
  go_wp2
  go_ret
  exact ⟨rfl, rfl⟩
end Go.Proofs.Ythgkloapnihpaaa

/- Graphs: a stack of visits in memory; enter, by a contract. -/
namespace Go.Proofs.Ythgkloapnihpaaa
open Go.RowKit Go.Maps Go.WideMaps Go.WideElems Go.ChangeShapes Go.WideShapes

/-- A visit: the node, the list of what is still to be looked at, as a value and plainly. -/
abbrev Vis := Int × Value × List Int
/-- A stack's cells: the last one is the top, which stands first here. -/
def cellsS (ss : List Vis) : List Value := ss.reverse.flatMap fun x => [iv x.1, x.2.1]
theorem cellsS_cons (x : Vis) (ss : List Vis) : cellsS (x :: ss) = cellsS ss ++ [iv x.1, x.2.1] := by simp [cellsS]
theorem cellsS_len (ss : List Vis) : (cellsS ss).length = ss.length * 2 := by
  induction ss with
  | nil => rfl
  | cons x ss ih => rw [cellsS_cons, List.length_append, ih, List.length_cons, List.length_cons, List.length_cons, List.length_nil]; omega
def plainS (ss : List Vis) : List (Int × List Int) := ss.map fun x => (x.1, x.2.2)
/-- A stack in memory. -/
structure StkAt (B : Nat) (v : Value) (ss : List Vis) (W : World) : Prop where
  row : W.ownsRow B 107 2 v ss.length (cellsS ss)
  todo : ∀ x ∈ ss, IntsO W B x.2.1 x.2.2
theorem stk_nil (B : Nat) (W : World) : StkAt B (.slice none 0 0) [] W := ⟨World.ownsRow_nil _ _ _ _, by simp⟩
theorem row_off {W W' : World} {Z : Nat → Prop} {B e s n : Nat} {v : Value} {xs : List Value} (h : W.ownsRow B e s v n xs) (hg : Off Z W W') (hz : ∀ q, v.ownBlock = some q → ¬ Z q) : W'.ownsRow B e s v n xs := by
  refine ⟨h.1, h.2.imp id fun ⟨g, cap, cur, e, hb, hh, r⟩ => ⟨g, cap, cur, e, hb, (hg.block g (Array.getElem?_eq_some_iff.1 hh).1 (hz g (by rw [e]; rfl))).trans hh, r⟩⟩
theorem IntsO.off {W W' : World} {Z : Nat → Prop} {B : Nat} {v : Value} {zs : List Int} (h : IntsO W B v zs) (hg : Off Z W W') (hz : ∀ q, v.ownBlock = some q → ¬ Z q) : IntsO W' B v zs := by
  rcases h with h | ⟨g, off, cap, cur, rfl, hb, hh, r⟩
  · exact .inl h
  · exact .inr ⟨g, off, cap, cur, rfl, hb, (hg.block g (Array.getElem?_eq_some_iff.1 hh).1 (hz g rfl)).trans hh, r⟩
theorem StkAt.off {B : Nat} {v : Value} {ss : List Vis} {W W' : World} {Z : Nat → Prop} (h : StkAt B v ss W) (hg : Off Z W W') (hz : ∀ q, v.ownBlock = some q → ¬ Z q) (hz2 : ∀ x ∈ ss, ∀ q, x.2.1.ownBlock = some q → ¬ Z q) : StkAt B v ss W' :=
  ⟨row_off h.row hg hz, fun x hx => (h.todo x hx).off hg (hz2 x hx)⟩
theorem off_of_grown {W W' : World} {row : Option Nat} (h : W.grownBy W' row) : Off (fun k => some k = row) W W' := ⟨h.os, h.tape, h.output, h.size, fun k hk hz => h.block k hk hz⟩
theorem StkAt.kept {B : Nat} {v : Value} {ss : List Vis} {W W' : World} (h : StkAt B v ss W) (hg : W.grownBy W' none) : StkAt B v ss W' :=
  h.off (off_of_grown hg) (fun q _ e => by cases e) (fun x _ q _ e => by cases e)
/-- A row of cells is no other block. -/
theorem row_ne {W : World} {B e s n k : Nat} {v : Value} {xs : List Value} {o : Obj} (h : W.ownsRow B e s v n xs) (hk : W.heap[k]? = some o) (hne : ∀ cur, o ≠ .cells cur e (0, 0)) : v.ownBlock ≠ some k := by
  rcases h.2 with ⟨rfl, _⟩ | ⟨g, cap, cur, rfl, _, hg, _⟩
  · simp [Value.ownBlock]
  · intro e1
    have e2 : g = k := by simpa [Value.ownBlock] using e1
    subst e2
    rw [hk] at hg
    exact hne cur (Option.some.inj hg)
theorem IntsO.ne {W : World} {B k : Nat} {v : Value} {zs : List Int} {o : Obj} (h : IntsO W B v zs) (hk : W.heap[k]? = some o) (hne : ∀ cur, o ≠ .cells cur 3 (0, 0)) : v.ownBlock ≠ some k := by
  rcases h with ⟨rfl, _⟩ | ⟨g, off, cap, cur, rfl, _, hg, _⟩
  · simp [Value.ownBlock]
  · intro e1
    have e2 : g = k := by simpa [Value.ownBlock] using e1
    subst e2
    rw [hk] at hg
    exact hne cur (Option.some.inj hg)
/-- A stack's own row is none of its lists. -/
theorem StkAt.apart {B B2 : Nat} {v v2 : Value} {ss : List Vis} {zs : List Int} {W : World} (h : StkAt B v ss W) (h2 : IntsO W B2 v2 zs) : ∀ q, v.ownBlock = some q → v2.ownBlock ≠ some q := by
  intro q e
  rcases h.row.2 with ⟨rfl, _⟩ | ⟨g, cap, cur, rfl, _, hg, _⟩
  · simp [Value.ownBlock] at e
  · have e2 : g = q := by simpa [Value.ownBlock] using e
    subst e2
    exact h2.ne hg fun cur2 e3 => by cases e3
theorem row_pop {W : World} {B e s g k c : Nat} {xs ys : List Value} (hx : xs.length = k * s) (h : W.ownsRow B e s (.slice (some ⟨g, 0, none⟩) (k + 1) c) (k + 1) (xs ++ ys)) : W.ownsRow B e s (.slice (some ⟨g, 0, none⟩) k c) k xs := by
  rcases h.2 with ⟨e1, _⟩ | ⟨g', cap, cur, e1, hb, hg, hn, hm, hs, ht⟩
  · cases e1
  · cases e1
    refine ⟨hx, .inr ⟨g, c, cur, rfl, hb, hg, by omega, hm, hs, ?_⟩⟩
    have h1 : (cur.toList.take ((k + 1) * s)).take (k * s) = xs := by rw [ht, List.take_left' hx]
    rw [List.take_take, Nat.min_eq_left (Nat.mul_le_mul_right _ (by omega))] at h1
    exact h1
theorem elem107 : (Try.prog.info? 107).map (fun i => (i.zero, i.size, i.bytes)) = some (some (.agg #[.int .i64 0, .slice none 0 0]), 2, 32) := by kernel_rfl
theorem vis_news (w : World) (p0 p1 : Value) (t : TypeId) : ∀ j u, [p0, p1][j]? = some u → (w.alloc (.cells #[p0, p1] t)).cell? ((⟨w.heap.size, 0, none⟩ : Addr).add j) = some u := World.news_of_block (World.alloc_heap_new w _)
theorem slice_one {W : World} {B : Nat} {v : Value} {zs : List Int} (h : IntsO W B v zs) : v.oneCell' = true := by
  obtain ⟨p, c, rfl, -⟩ := h.form
  rfl
set_option maxHeartbeats 8000000 in
set_option maxRecDepth 100000 in
theorem enter_no {g mb n : Nat} {S : List Int} {D : DV} (k : Int) (hk : fit64 k) (w : World) (v : Value) (hS : SeenAt mb n S D w) (hkS : k ∈ S) :
    Calls Try.prog 74 #[.pointer (some ⟨g, 0, none⟩), v, .map (some mb), iv k] w fun e w' => e = .returned v ∧ w.grownBy w' none := by
  have hlook := hS.look hk
  rw [decide_eq_true hkS] at hlook
  obtain ⟨W1, hW1⟩ : ∃ W, w.alloc (.cells #[] 79) = W := ⟨_, rfl⟩
  have Hg1 : Hid (w.grownBy W1 none) := by show w.grownBy _ _; rw [← hW1]; exact World.grownBy_alloc w _ none
  clear hS hkS
  go_enter Try.func74, Try.ntmps74
  go_wp2
  go_ret
  exact ⟨rfl, Hg1.out⟩
set_option maxHeartbeats 8000000 in
set_option maxRecDepth 100000 in
theorem enter_yes {Z : Nat → Prop} {B g c mb n : Nat} {N S : List Int} {E : List Ed} {D : DV} (k : Int) (hk : fit64 k) (hc : c ≤ 100000) (V w : World) (h : GrAt Z B g c N E V) (hV : Below V.heap.size V w) (hmb : V.heap.size ≤ mb) (v : Value) (ss : List Vis) (hst : StkAt V.heap.size v ss w) (hl : ss.length ≤ 100000) (hn : n ≤ 100000) (hS : SeenAt mb n S D w) (hkS : k ∉ S) :
    Calls Try.prog 74 #[.pointer (some ⟨g, 0, none⟩), v, .map (some mb), iv k] w fun e w' => ∃ v' vo, e = .returned v' ∧ Hid (SeenAt mb (n + 1) (S ++ [k]) (D.put (il k) (.held unitV)) w' ∧ StkAt V.heap.size v' ((k, vo, outsE N E k) :: ss) w' ∧ Off (fun q => q = mb ∨ v.ownBlock = some q) w w' ∧ (∀ q, vo.ownBlock = some q → w.heap.size ≤ q) ∧ ∀ q, v'.ownBlock = some q → v.ownBlock = some q ∨ w.heap.size ≤ q) := by
  obtain ⟨i0, hi, hz0, hz1, hz2⟩ := info_parts elem107
  have hlook := hS.look hk
  rw [decide_eq_false hkS] at hlook
  obtain ⟨W1, hW1⟩ : ∃ W, w.alloc (.cells #[] 79) = W := ⟨_, rfl⟩
  have hg1 : w.grownBy W1 none := by rw [← hW1]; exact World.grownBy_alloc w _ none
  have hS1 := hS.kept hg1 (by simp)
  obtain ⟨W2, hup, hS2, hg2⟩ := hS1.put hk (by unfold maxLen; omega)
  obtain ⟨o1, ho1, hc1⟩ := hS1.obj
  have hst1 := hst.kept hg1
  have hst2 : StkAt V.heap.size v ss W2 := hst1.off (off_of_grown hg2) (fun q e e2 => row_no hst1.row ho1 hc1 (by cases e2; exact e)) (fun x hx q e e2 => (hst1.todo x hx).no ho1 hc1 (by cases e2; exact e))
  have hgw2 : w.grownBy W2 (some mb) := (hg1.but _).trans hg2
  have hV2 : Below V.heap.size V W2 := hV.grown hgw2 hV.size (fun q e => by cases e; exact hmb)
  obtain ⟨mo, hmo⟩ : ∃ mo, (outsE N E k).length = mo := ⟨_, rfl⟩
  have Hmo := Lib.hid hmo
  have HOut := Lib.hid (out_any k hk hc W2 (h.below hV2))
  have Hst2 := Lib.hid hst2
  have HS2 := Lib.hid hS2
  have Hgw2 := Lib.hid hgw2
  have HV2 := Lib.hid hV2
  have Hl := Lib.hid hl
  clear h hV hmb hst hl hn hS hkS hg1 hS1 hS2 hg2 ho1 hc1 hst1 hst2 hgw2 hV2 hmo
  go_enter Try.func74, Try.ntmps74
  go_wp2_with (first
    | (go_at_call 20; (with_reducible refine HOut.out.mono ?_); rintro e w3 ⟨vo, rfl, K3⟩
       have ho3 := intsO_row K3.out.1
       obtain ⟨p3, c3, rfl⟩ := row_sl K3.out.1
       rw [Hmo.out] at ho3 ⊢
       have hst3 := Hst2.out.kept (grown_below K3.out.2)
       have hS3 := HS2.out.kept (grown_below K3.out.2) (by simp)
       have Ho3 := Lib.hid ho3
       have Hst3 := Lib.hid hst3
       have HS3 := Lib.hid hS3
       clear ho3 hst3 hS3)
    | (at_builtin; refine wpList_append_own_at _ rfl _ _ 103 rfl V.heap.size 107 i0 (.agg #[.int .i64 0, .slice none 0 0]) 2 32 Try.underlying103 hi hz0 hz1 hz2 rfl (by decide) v ss.length (cellsS ss) rfl (Hst3.out.row.alloc _) ⟨w3.heap.size, 0, none⟩ 1 1 [iv k, .slice p3 mo c3] rfl rfl (vis_news w3 (iv k) (.slice p3 mo c3) 107) (by intro u hu; simp only [List.mem_cons, List.not_mem_nil, or_false] at hu; rcases hu with rfl | rfl <;> rfl) (by unfold maxLen; have := Hl.out; omega) (by have := Hl.out; omega) (by have := HV2.out.size; have := K3.out.2.size; simp; omega) ?_)
    | go_in)
  intro v4 w4 hown hgrow hnil hat
  have hA := World.grownBy_alloc w3 (.cells #[iv k, .slice p3 mo c3] 107) none
  have HK : Hid (SeenAt mb (n + 1) (S ++ [k]) (D.put (il k) (.held unitV)) w4 ∧ StkAt V.heap.size v4 ((k, .slice p3 mo c3, outsE N E k) :: ss) w4 ∧ Off (fun q => q = mb ∨ v.ownBlock = some q) w w4) := by
    refine ⟨(HS3.out.kept hA (by simp)).kept hgrow (fun e => by
      obtain ⟨o, ho, hc⟩ := HS3.out.obj
      exact row_no Hst3.out.row ho hc e.symm), ⟨by rw [cellsS_cons]; exact hown, fun x hx => ?_⟩, ?_⟩
    · have hle : V.heap.size ≤ W2.heap.size := HV2.out.size
      rcases List.mem_cons.1 hx with rfl | hx
      · exact ((Ho3.out.low hle).alloc _).beside hgrow (Hst3.out.apart Ho3.out)
      · exact ((Hst3.out.todo x hx).alloc _).beside hgrow (Hst3.out.apart (Hst3.out.todo x hx))
    · have h1 : w.grownBy w3 (some mb) := Hgw2.out.trans ((grown_below K3.out.2).but _)
      refine ⟨hgrow.os.trans (hA.os.trans h1.os), hgrow.tape.trans (hA.tape.trans h1.tape), hgrow.output.trans (hA.output.trans h1.output), Nat.le_trans h1.size (Nat.le_trans hA.size hgrow.size), fun q hq hz => ?_⟩
      have hq3 : q < w3.heap.size := Nat.lt_of_lt_of_le hq h1.size
      refine (hgrow.block q (Nat.lt_of_lt_of_le hq3 hA.size) (fun e => hz (.inr e.symm))).trans ((hA.block q hq3 (by simp)).trans (h1.block q hq (fun e => hz (.inl (Option.some.inj e)))))
  have HL : Hid ((∀ q, (Value.slice p3 mo c3).ownBlock = some q → w.heap.size ≤ q) ∧ ∀ q, v4.ownBlock = some q → v.ownBlock = some q ∨ w.heap.size ≤ q) := by
    have h1 := Hgw2.out.size
    have h2 := K3.out.2.size
    refine ⟨fun q hq => ?_, fun q hq => ?_⟩
    · have := (Ho3.out.lt hq).1
      omega
    · rcases hat with e | e
      · exact .inl (e ▸ hq)
      · right
        rw [e] at hq
        have h3 : w3.heap.size + 1 = q := Option.some.inj hq
        omega
  clear hown hgrow hnil hat hA
  go_wp2
  go_ret
  exact ⟨v4, _, rfl, HK.out.1, HK.out.2.1, HK.out.2.2, HL.out.1, HL.out.2⟩
end Go.Proofs.Ythgkloapnihpaaa

/- Graphs: the order in which a walk in depth leaves nodes (left), by a contract. -/
namespace Go.Proofs.Ythgkloapnihpaaa
open Go.RowKit Go.Maps Go.WideMaps Go.WideElems Go.ChangeShapes Go.WideShapes

/-- How much lies on a stack, as memory has it. -/
def todoSum (W : World) (g : Nat) : Nat → Nat
  | 0 => 0
  | i + 1 => todoSum W g i + (lenOf ((W.cell? ⟨g, i * 2 + 1, none⟩).getD undef) + 1)
def stkSum (W : World) (v : Value) : Nat := match v with
  | .slice (some a) n _ => todoSum W a.block n
  | _ => 0
def visSum : List Vis → Nat
  | [] => 0
  | x :: ss => visSum ss + (x.2.2.length + 1)
theorem todoSum_is {W : World} {g B : Nat} : ∀ {ss : List Vis}, (∀ (j : Nat) (u : Value), (cellsS ss)[j]? = some u → W.cell? ⟨g, j, none⟩ = some u) → (∀ x ∈ ss, IntsO W B x.2.1 x.2.2) → todoSum W g ss.length = visSum ss
  | [], _, _ => rfl
  | x :: ss, h, h2 => by
    rw [cellsS_cons] at h
    have hl := cellsS_len ss
    have ih := todoSum_is (W := W) (g := g) (B := B) (ss := ss) (fun j u hj => h j u (by
      rw [List.getElem?_append_left (List.getElem?_eq_some_iff.1 hj).1]
      exact hj)) (fun y hy => h2 y (List.mem_cons_of_mem _ hy))
    have h3 := h (ss.length * 2 + 1) x.2.1 (by
      rw [List.getElem?_append_right (by omega), hl, Nat.add_sub_cancel_left]
      rfl)
    obtain ⟨p, c, e, -⟩ := (h2 x (List.mem_cons_self ..)).form
    show todoSum W g ss.length + (lenOf ((W.cell? ⟨g, ss.length * 2 + 1, none⟩).getD undef) + 1) = visSum ss + (x.2.2.length + 1)
    rw [ih, h3, e]
    rfl
theorem stkSum_is {W : World} {B : Nat} {v : Value} {ss : List Vis} (h : StkAt B v ss W) : stkSum W v = visSum ss := by
  rcases h.row.2 with ⟨rfl, h0⟩ | ⟨g, cap, cur, e, hb, hg, hn, hm, hs, ht⟩
  · have hz : ss = [] := List.eq_nil_of_length_eq_zero h0
    subst hz
    rfl
  · subst e
    refine todoSum_is (fun j u hj => ?_) h.todo
    have h1 := h.row.cells (g := g) rfl j u hj
    rwa [Addr.add_lit, Nat.zero_add] at h1
theorem StkAt.top {W : World} {B : Nat} {v : Value} {x : Vis} {ss : List Vis} (h : StkAt B v (x :: ss) W) : ∃ g c, v = .slice (some ⟨g, 0, none⟩) (ss.length + 1) c ∧ ss.length + 1 ≤ c ∧ B ≤ g ∧ g < W.heap.size ∧ W.cell? ⟨g, ss.length * 2, none⟩ = some (iv x.1) ∧ W.cell? ⟨g, ss.length * 2 + 1, none⟩ = some x.2.1 := by
  have hl := cellsS_len ss
  rcases h.row.2 with ⟨e, h0⟩ | ⟨g, cap, cur, e, hb, hg, hn, hm, hs, ht⟩
  · simp at h0
  · subst e
    have hc := h.row.cells (g := g) rfl
    rw [cellsS_cons] at hc
    have h0 := hc (ss.length * 2) (iv x.1) (by rw [List.getElem?_append_right (by omega), hl, Nat.sub_self]; rfl)
    have h1 := hc (ss.length * 2 + 1) x.2.1 (by rw [List.getElem?_append_right (by omega), hl, Nat.add_sub_cancel_left]; rfl)
    rw [Addr.add_lit, Nat.zero_add] at h0 h1
    exact ⟨g, cap, rfl, hn, hb, (Array.getElem?_eq_some_iff.1 hg).1, h0, h1⟩
theorem StkAt.thaw {W : World} {B g n c : Nat} {ss : List Vis} (h : StkAt B (.slice (some ⟨g, 0, none⟩) n c) ss W) (j : Nat) : W.frozen? ⟨g, j, none⟩ = false := by
  rcases h.row.2 with ⟨e, h0⟩ | ⟨g', cap, cur, e, hb, hg, _⟩
  · cases e
  · cases e
    simp [World.frozen?, hg]
theorem StkAt.pop {W : World} {B g c : Nat} {x : Vis} {ss : List Vis} (h : StkAt B (.slice (some ⟨g, 0, none⟩) (ss.length + 1) c) (x :: ss) W) : StkAt B (.slice (some ⟨g, 0, none⟩) ss.length c) ss W := by
  refine ⟨?_, fun y hy => h.todo y (List.mem_cons_of_mem _ hy)⟩
  have h1 := h.row
  rw [cellsS_cons, List.length_cons] at h1
  exact row_pop (cellsS_len ss) h1
/-- The list of the top is another one now. -/
theorem StkAt.set {W : World} {B g c : Nat} {x : Int} {vt vt' : Value} {t t' : List Int} {ss : List Vis} (h : StkAt B (.slice (some ⟨g, 0, none⟩) (ss.length + 1) c) ((x, vt, t) :: ss) W) (ht' : IntsO W B vt' t') :
    StkAt B (.slice (some ⟨g, 0, none⟩) (ss.length + 1) c) ((x, vt', t') :: ss) (W.setCell ⟨g, ss.length * 2 + 1, none⟩ vt') ∧ W.grownBy (W.setCell ⟨g, ss.length * 2 + 1, none⟩ vt') (some g) := by
  have hg2 : W.grownBy (W.setCell ⟨g, ss.length * 2 + 1, none⟩ vt') (some g) := ⟨rfl, rfl, rfl, by simp [World.setCell], fun k _ hk => Below.heap_setCell _ _ _ _ (fun e => hk (by rw [e]))⟩
  have hap : ∀ {v2 : Value} {zs : List Int}, IntsO W B v2 zs → IntsO (W.setCell ⟨g, ss.length * 2 + 1, none⟩ vt') B v2 zs := fun h2 => h2.kept hg2 (.inr (h.apart h2 g rfl))
  refine ⟨⟨?_, fun y hy => ?_⟩, hg2⟩
  · have hr := h.row
    rcases hr.2 with ⟨e1, _⟩ | ⟨g', cap, cur, e1, hb, hg, hn, hm, hs, ht⟩
    · cases e1
    · cases e1
      have hl := cellsS_len ss
      refine ⟨by rw [cellsS_len], .inr ⟨g, c, _, rfl, hb, heap_setCell_same W g _ cur 107 vt' hg, hn, hm, by simpa using hs, ?_⟩⟩
      simp only [List.length_cons] at ht ⊢
      rw [Array.toList_setIfInBounds, List.take_set, ht, cellsS_cons, cellsS_cons, List.set_append_right _ _ (by omega), hl, Nat.add_sub_cancel_left]
      rfl
  · rcases List.mem_cons.1 hy with rfl | hy
    · exact hap ht'
    · exact hap (h.todo y (List.mem_cons_of_mem _ hy))
/-- Where the walk stands. -/
structure LfSt (V : World) (mb : Nat) (R : Int → Int → Prop) (N O S : List Int) (ss : List Vis) (D : DV) (v3 v7 v12 : Value) (W : World) : Prop where
  seen : SeenAt mb S.length S D W
  ord : IntsO W V.heap.size v3 O
  stk : StkAt V.heap.size v7 ss W
  nodes : IntsO W V.heap.size v12 N
  ap1 : ∀ q, v3.ownBlock = some q → v12.ownBlock ≠ some q
  ap2 : ∀ x ∈ ss, ∀ q, v3.ownBlock = some q → x.2.1.ownBlock ≠ some q
  gro : V.grownBy W none
  dfs : DfsOk R O (plainS ss)
  mem : ∀ x, x ∈ S ↔ x ∈ O ∨ x ∈ (plainS ss).map (·.1)
  once : S.Nodup
  sub : ∀ x ∈ S, x ∈ N
theorem LfSt.len {V : World} {mb : Nat} {R : Int → Int → Prop} {N O S : List Int} {ss : List Vis} {D : DV} {v3 v7 v12 : Value} {W : World} (h : LfSt V mb R N O S ss D v3 v7 v12 W) : O.length + ss.length ≤ N.length ∧ S.length ≤ N.length := by
  refine ⟨?_, len_le h.once h.sub⟩
  have h1 := len_le h.dfs.once (m := N) fun x hx => h.sub x ((h.mem x).2 (List.mem_append.1 hx))
  rw [List.length_append, List.length_map] at h1
  unfold plainS at h1
  rw [List.length_map] at h1
  exact h1
theorem lf_measure {n o s y X t : Nat} (h : o + s + 2 ≤ n) (hy : y ≤ n) : (n - (o + (s + 1 + 1))) * (n + 2) + (X + (t + 1) + (y + 1)) < (n - (o + (s + 1))) * (n + 2) + (X + (t + 1 + 1)) := by
  obtain ⟨d, rfl⟩ : ∃ d, n = o + s + 2 + d := ⟨n - (o + s + 2), by omega⟩
  rw [show o + s + 2 + d - (o + (s + 1 + 1)) = d from by omega, show o + s + 2 + d - (o + (s + 1)) = d + 1 from by omega, Nat.add_mul d 1, Nat.one_mul]
  omega
theorem LfSt.kept {V : World} {mb : Nat} {R : Int → Int → Prop} {N O S : List Int} {ss : List Vis} {D : DV} {v3 v7 v12 : Value} {W W' : World} (h : LfSt V mb R N O S ss D v3 v7 v12 W) (hg : W.grownBy W' none) : LfSt V mb R N O S ss D v3 v7 v12 W' :=
  ⟨h.seen.kept hg (by simp), h.ord.kept hg (by cases v3.ownBlock <;> simp), h.stk.kept hg, h.nodes.kept hg (by cases v12.ownBlock <;> simp), h.ap1, h.ap2, h.gro.trans hg, h.dfs, h.mem, h.once, h.sub⟩
theorem off_gro {V W W' : World} {Z : Nat → Prop} (h : V.grownBy W none) (hg : Off Z W W') (hz : ∀ q, Z q → V.heap.size ≤ q) : V.grownBy W' none :=
  ⟨hg.os.trans h.os, hg.tape.trans h.tape, hg.output.trans h.output, Nat.le_trans h.size hg.size, fun k hk _ => (hg.block k (Nat.lt_of_lt_of_le hk h.size) (fun e => by have := hz k e; omega)).trans (h.block k hk (by simp))⟩
/-- One that has not been seen has been gone into. -/
theorem LfSt.entered {V : World} {mb : Nat} {R : Int → Int → Prop} {N O S outs : List Int} {ss : List Vis} {D D' : DV} {v3 v7 v7' v12 vo : Value} {W W' : World} {k : Int} (h : LfSt V mb R N O S ss D v3 v7 v12 W) (hmb : V.heap.size ≤ mb) (hk : k ∉ S) (hkN : k ∈ N)
    (hd : DfsOk R O (plainS ((k, vo, outs) :: ss))) (h1 : SeenAt mb (S.length + 1) (S ++ [k]) D' W') (h2 : StkAt V.heap.size v7' ((k, vo, outs) :: ss) W') (h3 : Off (fun q => q = mb ∨ v7.ownBlock = some q) W W') (h4 : ∀ q, vo.ownBlock = some q → W.heap.size ≤ q) :
    LfSt V mb R N O (S ++ [k]) ((k, vo, outs) :: ss) D' v3 v7' v12 W' := by
  obtain ⟨o, ho, hc⟩ := h.seen.obj
  have hz : ∀ {v : Value} {zs : List Int}, IntsO W V.heap.size v zs → ∀ q, v.ownBlock = some q → ¬ (q = mb ∨ v7.ownBlock = some q) := fun hv q e g => by
    rcases g with rfl | g
    · exact hv.no ho hc e
    · exact h.stk.apart hv q g e
  refine ⟨by rw [List.length_append]; exact h1, h.ord.off h3 (hz h.ord), h2, h.nodes.off h3 (hz h.nodes), h.ap1, fun x hx q e1 e2 => ?_, off_gro h.gro h3 (fun q e => ?_), hd, fun x => ?_, ?_, fun x hx => ?_⟩
  · rcases List.mem_cons.1 hx with rfl | hx
    · have := h4 q e2
      have := (h.ord.lt e1).2
      omega
    · exact h.ap2 x hx q e1 e2
  · rcases e with rfl | e
    · exact hmb
    · exact (h.stk.row.lt q e).1
  · rw [List.mem_append, List.mem_singleton, h.mem x]
    simp only [plainS, List.map_cons, List.mem_cons]
    constructor
    · rintro ((g | g) | g)
      · exact .inl g
      · exact .inr (.inr g)
      · exact .inr (.inl g)
    · rintro (g | g | g)
      · exact .inl (.inl g)
      · exact .inr g
      · exact .inl (.inr g)
  · rw [List.nodup_append]
    exact ⟨h.once, by simp, fun x hx y hy e => by rw [List.mem_singleton] at hy; subst hy e; exact hk hx⟩
  · rcases List.mem_append.1 hx with g | g
    · exact h.sub x g
    · rw [List.mem_singleton] at g; rw [g]; exact hkN
set_option maxHeartbeats 16000000 in
set_option maxRecDepth 100000 in
theorem left_any {Z : Nat → Prop} {B g c : Nat} {N : List Int} {E : List Ed} (hc : c ≤ 100000) (hN : N.length ≤ 500) (w : World) (h : GrAt Z B g c N E w) :
    Calls Try.prog 58 #[.pointer (some ⟨g, 0, none⟩)] w fun e w' => ∃ v O, e = .returned v ∧ Hid (IntsO w' w.heap.size v O ∧ DfsOk (EdR E) O [] ∧ (∀ x, x ∈ O ↔ x ∈ N) ∧ Below w.heap.size w w') := by
  have hmm := @run_makeMap Try.prog
  have HGr := Lib.hid h
  have Hends : Hid (EndsIn N E) := by obtain ⟨ob, DO, F, DI, f, h, hZ⟩ := h; exact h.ends
  have Hfit : Hid (∀ a ∈ N, fit64 a) := by obtain ⟨ob, DO, F, DI, f, h, hZ⟩ := h; exact fun a ha => h.dom.fit a ha
  have HN := Lib.hid hN
  have Hc := Lib.hid hc
  obtain ⟨W1, hW1⟩ : ∃ W, w.alloc (.map #[] 0) = W := ⟨_, rfl⟩
  have hg1 : w.grownBy W1 none := by rw [← hW1]; exact World.grownBy_alloc w _ none
  have HS1 : Hid (SeenAt w.heap.size 0 [] (.map []) W1) := by rw [← hW1]; exact seen_made w
  have Hg1 := Lib.hid hg1
  have HNod := Lib.hid (nodes_any hc W1 (h.below (grown_of_below hg1)))
  obtain ⟨n, hn⟩ : ∃ n, N.length = n := ⟨_, rfl⟩
  have Hn := Lib.hid hn
  clear h hc hN hg1 hn
  go_enter Try.func58, Try.ntmps58
  go_wp2_with (first
    | (go_at_call 32; (with_reducible refine HNod.out.mono ?_); rintro e w4 ⟨v12, rfl, K4⟩
       obtain ⟨p12, c12, rfl⟩ := row_sl K4.out.1
       rw [Hn.out])
    | go_in)
  have H0 : Hid (LfSt w w.heap.size (EdR E) N [] [] [] (.map []) (.slice none 0 0) (.slice none 0 0) (.slice p12 n c12) w4) := by
    have h1 := intsO_row K4.out.1
    rw [Hn.out] at h1
    exact ⟨HS1.out.kept (grown_below K4.out.2) (by simp), intsO_nil _ _, stk_nil _ _, h1.low Hg1.out.size, fun q e => by simp [Value.ownBlock] at e, fun x hx => by simp at hx, Hg1.out.trans (grown_below K4.out.2), DfsOk.zero _, by simp [plainS], by simp, by simp⟩
  clear K4 HNod HS1 Hg1
  try go_frame
  go_loopw [3, 14] (fun v3 i wr => ∃ (q : Nat) (O S : List Int) (D : DV), q ≤ n ∧ i = .int .i64 ((q : Nat) : Int) ∧ Hid (LfSt w w.heap.size (EdR E) N O S [] D v3 (.slice none 0 0) (.slice p12 n c12) wr ∧ ∀ j, j < q → N.getD j 0 ∈ S)) (fun _ i _ => n - (intOf i).toNat)
  case atStart => exact ⟨0, [], [], _, Nat.zero_le _, rfl, H0.out, fun j hj => absurd hj (by omega)⟩
  case round =>
    obtain ⟨q, O, S, D, hq, rfl, HR⟩ := hrel
    obtain ⟨wa, hwa⟩ : ∃ wa, wa = wr := ⟨_, rfl⟩
    subst hwa
    by_cases hlt : q < n
    · have hqN : q < N.length := by rw [Hn.out]; exact hlt
      have hsl : SlI wa p12 N := by
        obtain ⟨p, c, e, hs⟩ := HR.out.1.nodes.sl
        simp only [Value.slice.injEq] at e
        rw [e.1]
        exact hs
      obtain ⟨b12, off12, rfl, hc0⟩ := hsl.at hqN
      have haN := getD_in (d := 0) hqN
      obtain ⟨k, hk⟩ : ∃ k, N.getD q 0 = k := ⟨_, rfl⟩
      rw [hk] at hc0 haN
      have Hk := Lib.hid hk
      have HkN := Lib.hid haN
      have hltI : (q : Int) < (n : Int) := by omega
      have hnb : n ≤ 500 := by rw [← Hn.out]; exact HN.out
      have Hlen := Lib.hid HR.out.1.len
      -- a visit of it, or none
      have HEn : Hid (Calls Try.prog 74 #[.pointer (some ⟨g, 0, none⟩), .slice none 0 0, .map (some w.heap.size), iv k] wa fun e w' => ∃ v7 S' ss D', e = .returned v7 ∧ Hid (LfSt w w.heap.size (EdR E) N O S' ss D' u3 v7 (.slice (some ⟨b12, off12, none⟩) n c12) w' ∧ ∀ j, j < q + 1 → N.getD j 0 ∈ S')) := by
        by_cases hkS : k ∈ S
        · refine (enter_no (g := g) k (Hfit.out k haN) wa (.slice none 0 0) HR.out.1.seen hkS).mono ?_
          rintro e w' ⟨rfl, hg⟩
          refine ⟨_, S, [], D, rfl, HR.out.1.kept hg, fun j hj => ?_⟩
          by_cases e : j = q
          · subst e; rw [hk]; exact hkS
          · exact HR.out.2 j (by omega)
        · refine (enter_yes k (Hfit.out k haN) Hc.out w wa HGr.out (grown_of_below HR.out.1.gro) (Nat.le_refl _) (.slice none 0 0) [] (stk_nil _ _) (by simp) (by have := Hlen.out.2; have := HN.out; omega) HR.out.1.seen hkS).mono ?_
          rintro e w' ⟨v7, vo, rfl, K⟩
          have hkO : k ∉ O := fun g => hkS ((HR.out.1.mem k).2 (.inl g))
          refine ⟨v7, S ++ [k], [(k, vo, outsE N E k)], _, rfl, HR.out.1.entered (Nat.le_refl _) hkS haN (HR.out.1.dfs.start hkO fun b => mem_outsE Hends.out) K.out.1 K.out.2.1 K.out.2.2.1 K.out.2.2.2.1, fun j hj => ?_⟩
          by_cases e : j = q
          · subst e; rw [hk]; simp
          · exact List.mem_append_left _ (HR.out.2 j (by omega))
      clear hsl hk haN hqN
      go_wp2_with (first
        | (go_at_call 74; (with_reducible refine HEn.out.mono ?_); rintro e w5 ⟨v7, S1, ss1, D1, rfl, H5⟩)
        | go_in)
      clear hc0 HEn
      try go_frame
      go_loopw [3, 7] (fun v3 v7 wr => ∃ (O S : List Int) (ss : List Vis) (D : DV), Hid (LfSt w w.heap.size (EdR E) N O S ss D v3 v7 (.slice (some ⟨b12, off12, none⟩) n c12) wr ∧ ∀ j, j < q + 1 → N.getD j 0 ∈ S)) (fun v3 v7 wr => (n - (lenOf v3 + lenOf v7)) * (n + 2) + stkSum wr v7)
      case atStart => exact ⟨O, S1, ss1, D1, H5.out⟩
      case round =>
        obtain ⟨O2, S2, ss, D2, HI⟩ := hrel
        obtain ⟨wb, hwb⟩ : ∃ wb, wb = wr := ⟨_, rfl⟩
        subst hwb
        obtain ⟨p3, c3, rfl, -, -⟩ := HI.out.1.ord.form
        have hlen := HI.out.1.len
        rw [Hn.out] at hlen
        cases ss with
        | nil =>
          have hv7 : ∃ p c, u7 = .slice p 0 c := row_sl HI.out.1.stk.row
          obtain ⟨p7, c7, rfl⟩ := hv7
          have H6 : Hid (LfSt w w.heap.size (EdR E) N O2 S2 [] D2 (.slice p3 O2.length c3) (.slice none 0 0) (.slice (some ⟨b12, off12, none⟩) n c12) wb) := ⟨HI.out.1.seen, HI.out.1.ord, stk_nil _ _, HI.out.1.nodes, HI.out.1.ap1, HI.out.1.ap2, HI.out.1.gro, HI.out.1.dfs, HI.out.1.mem, HI.out.1.once, HI.out.1.sub⟩
          clear hlen
          go_wp2
          go_roundw
          case rel => exact ⟨q + 1, O2, S2, D2, by omega, by go_num, H6.out, HI.out.2⟩
          case measure => simp [intOf]; omega
        | cons x ss =>
          obtain ⟨x, vt, t⟩ := x
          obtain ⟨g7, c7, rfl, hc7, hB7, hg7, d0, d1⟩ := HI.out.1.stk.top
          simp only at d0 d1
          have hti := HI.out.1.stk.todo (x, vt, t) (List.mem_cons_self ..)
          obtain ⟨pt, ct, e, hct, htl⟩ := hti.form
          simp only at e hct htl hti
          subst e
          rw [List.length_cons] at hlen
          have hSum := stkSum_is HI.out.1.stk
          obtain ⟨m, hm⟩ : ∃ m, ss.length = m := ⟨_, rfl⟩
          have Hm := Lib.hid hm
          rw [hm] at hc7 d0 d1 hlen hSum ⊢
          have hg0 : decide ((0 : Int) < (m : Int) + 1) = true := by simp
          have hwr : IntKind.i64.wrap (m : Int) = (m : Int) := by rw [IntKind.wrap_i64]; omega
          have hix1 : (m : Int) < (m : Int) + 1 := by omega
          have hix2 : (m : Int) < ((m + 1 : Nat) : Int) := by omega
          have hix3 : m < m + 1 := by omega
          have hix0 : (0 : Int) ≤ (m : Int) := by omega
          have HSum : Hid (stkSum wb (.slice (some ⟨g7, 0, none⟩) (m + 1) c7) = visSum ss + (t.length + 1)) := hSum
          have hOl : O2.length ≤ 1000000 := by omega
          have Hlen2 := Lib.hid hlen
          have Hstk : Hid (StkAt w.heap.size (.slice (some ⟨g7, 0, none⟩) (ss.length + 1) c7) ((x, .slice pt t.length ct, t) :: ss) wb) := by
            exact HI.out.1.stk
          cases t with
          | nil =>
            simp only [List.length_nil] at *
            have Hpop : Hid (StkAt w.heap.size (.slice (some ⟨g7, 0, none⟩) m c7) ss wb) := by
              have h1 := Hstk.out.pop
              rw [hm] at h1
              exact h1
            clear hti htl hct hSum hlen hm hB7 hg7
            go_wp2_with (first
              | (at_builtin; refine wpList_append_o rfl _ _ rfl w.heap.size (.slice p3 O2.length c3) O2 x rfl (HI.out.1.ord.alloc _) ⟨wb.heap.size, 0, none⟩ 1 rfl (news_new wb #[iv x] 3) hOl (by have := HI.out.1.gro.size; simp; omega) ?_
                 intro v3 w6 hf6 hg6 hl6
                 have hA := World.grownBy_alloc wb (.cells #[iv x] 3) none
                 have hord := HI.out.1.ord
                 have hstk6 : StkAt w.heap.size (.slice (some ⟨g7, 0, none⟩) m c7) ss w6 := (Hpop.out.kept hA).off (off_of_grown hg6) (fun q e e2 => Hpop.out.apart hord q e e2.symm) (fun y hy q e e2 => HI.out.1.ap2 y (List.mem_cons_of_mem _ hy) q e2.symm e)
                 have H6 : Hid (LfSt w w.heap.size (EdR E) N (O2 ++ [x]) S2 ss D2 v3 (.slice (some ⟨g7, 0, none⟩) m c7) (.slice (some ⟨b12, off12, none⟩) n c12) w6) := by
                   refine ⟨(HI.out.1.seen.kept hA (by simp)).kept hg6 (fun e => by
                     obtain ⟨o, ho, hc⟩ := HI.out.1.seen.obj
                     exact hord.no ho hc e.symm), hf6, hstk6, (HI.out.1.nodes.alloc (.cells #[iv x] 3)).beside hg6 HI.out.1.ap1, fun q h1 h2 => ?_, fun y hy q h1 h2 => ?_, (HI.out.1.gro.trans hA).andThen hg6 (fun q e => .inl (hord.lt e).1), HI.out.1.dfs.pop, fun z => ?_, HI.out.1.once, HI.out.1.sub⟩
                   · rcases hl6 q h1 with h3 | h3
                     · exact HI.out.1.ap1 q h3 h2
                     · have h4 := (HI.out.1.nodes.lt h2).2
                       simp at h3
                       omega
                   · rcases hl6 q h1 with h3 | h3
                     · exact HI.out.1.ap2 y (List.mem_cons_of_mem _ hy) q h3 h2
                     · have h4 := ((Hpop.out.todo y hy).lt h2).2
                       simp at h3
                       omega
                   · rw [HI.out.1.mem z, List.mem_append, List.mem_singleton]
                     simp only [plainS, List.map_cons, List.mem_cons]
                     constructor
                     · rintro (h1 | h1 | h1)
                       · exact .inl (.inl h1)
                       · exact .inl (.inr h1)
                       · exact .inr h1
                     · rintro ((h1 | h1) | h1)
                       · exact .inl h1
                       · exact .inr (.inl h1)
                       · exact .inr (.inr h1)
                 obtain ⟨q3, d3, e3, -, -⟩ := hf6.form
                 have Hq3 := Lib.hid e3
                 clear hf6 hg6 hl6 hA hord hstk6 e3)
              | go_in)
            refine ⟨⟨O2 ++ [x], S2, ss, D2, H6.out, HI.out.2⟩, ?_⟩
            rw [stkSum_is H6.out.stk, HSum.out, Hq3.out]
            simp only [lenOf, List.length_append, List.length_singleton]
            rw [show O2.length + 1 + m = O2.length + (m + 1) from by omega]
            omega
          | cons b t =>
            obtain ⟨gt, ot, rfl, -, -, htc⟩ := htl (by simp)
            have ct0 := htc 0 (by simp)
            rw [List.getD_cons_zero, Nat.add_zero] at ct0
            obtain ⟨-, h1c, httl⟩ := hti.tail
            have Httl := Lib.hid httl
            have hbR : EdR E x b := HI.out.1.dfs.sub (x, b :: t) (by simp [plainS]) b (List.mem_cons_self ..)
            have HbN : Hid (b ∈ N) := (Hends.out x b hbR).2
            have Hdfs := Lib.hid HI.out.1.dfs
            rw [List.length_cons] at hct d1 HSum Hstk
            obtain ⟨l, hl⟩ : ∃ l, t.length = l := ⟨_, rfl⟩
            have Hl := Lib.hid hl
            rw [hl] at hct d1 Httl HSum Hstk
            have hg1 : decide ((0 : Int) < (l : Int) + 1) = true := by simp
            have hiy1 : (0 : Int) < (l : Int) + 1 := by omega
            clear hti htl htc httl hSum hlen hbR hl
            by_cases hc1 : ct = 1
            · subst hc1
              obtain rfl : l = 0 := by omega
              have HV : IntsO wb w.heap.size (.slice (some ⟨gt, ot, none⟩) 0 0) t := Httl.out
              obtain ⟨l0, hl0⟩ : ∃ l0, l0 = 0 + 1 := ⟨_, rfl⟩
              have HL0 := Lib.hid hl0
              clear hl0
              obtain ⟨Ws, hWs⟩ : ∃ W, wb.setCell ⟨g7, m * 2 + 1, none⟩ (.slice (some ⟨gt, ot, none⟩) 0 0) = W := ⟨_, rfl⟩
              have hset := Hstk.out.set HV
              rw [Hm.out, hWs] at hset
              have hord := HI.out.1.ord
              have H6 : LfSt w w.heap.size (EdR E) N O2 S2 ((x, (.slice (some ⟨gt, ot, none⟩) 0 0), t) :: ss) D2 (.slice p3 O2.length c3) (.slice (some ⟨g7, 0, none⟩) (m + 1) c7) (.slice (some ⟨b12, off12, none⟩) n c12) Ws ∨ True := .inr trivial
              have hb1 : IntsO Ws w.heap.size (.slice p3 O2.length c3) O2 := hord.kept hset.2 (.inr (Hstk.out.apart hord g7 rfl))
              have hb2 : IntsO Ws w.heap.size (.slice (some ⟨b12, off12, none⟩) n c12) N := HI.out.1.nodes.kept hset.2 (.inr (Hstk.out.apart HI.out.1.nodes g7 rfl))
              have hb3 : SeenAt w.heap.size S2.length S2 D2 Ws := HI.out.1.seen.kept hset.2 (fun e => by
                obtain ⟨o, ho, hc⟩ := HI.out.1.seen.obj
                exact row_no Hstk.out.row ho hc e.symm)
              have hb4 : w.grownBy Ws none := HI.out.1.gro.andThen hset.2 (fun q e => .inl (by cases e; exact hB7))
              have hb5 : ∀ y ∈ (x, (.slice (some ⟨gt, ot, none⟩) 0 0), t) :: ss, ∀ q, (Value.slice p3 O2.length c3).ownBlock = some q → y.2.1.ownBlock ≠ some q := fun y hy q h1 h2 => by
                rcases List.mem_cons.1 hy with rfl | hy
                · exact HI.out.1.ap2 _ (List.mem_cons_self ..) q h1 h2
                · exact HI.out.1.ap2 y (List.mem_cons_of_mem _ hy) q h1 h2
              have hSl : S2.length ≤ 500 := by have := HI.out.1.len; have := HN.out; omega
              -- a visit of it, or none
              have HEn : Hid (Calls Try.prog 74 #[.pointer (some ⟨g, 0, none⟩), .slice (some ⟨g7, 0, none⟩) (m + 1) c7, .map (some w.heap.size), iv b] Ws fun e w' => ∃ p8 c8 S' ss' D', e = .returned (.slice p8 ss'.length c8) ∧ Hid (LfSt w w.heap.size (EdR E) N O2 S' ss' D' (.slice p3 O2.length c3) (.slice p8 ss'.length c8) (.slice (some ⟨b12, off12, none⟩) n c12) w' ∧ (∀ j, j < q + 1 → N.getD j 0 ∈ S') ∧ (n - (O2.length + ss'.length)) * (n + 2) + visSum ss' < (n - (O2.length + (m + 1))) * (n + 2) + (visSum ss + (l0 + 1)))) := by
                by_cases hbS : b ∈ S2
                · have hd : DfsOk (EdR E) O2 (plainS ((x, (.slice (some ⟨gt, ot, none⟩) 0 0), t) :: ss)) := Hdfs.out.skip (by
                    rcases (HI.out.1.mem b).1 hbS with g | g
                    · exact .inl g
                    · exact .inr (by simpa [plainS] using g))
                  have H7 : LfSt w w.heap.size (EdR E) N O2 S2 ((x, (.slice (some ⟨gt, ot, none⟩) 0 0), t) :: ss) D2 (.slice p3 O2.length c3) (.slice (some ⟨g7, 0, none⟩) (m + 1) c7) (.slice (some ⟨b12, off12, none⟩) n c12) Ws := ⟨hb3, hb1, hset.1, hb2, HI.out.1.ap1, hb5, hb4, hd, HI.out.1.mem, HI.out.1.once, HI.out.1.sub⟩
                  refine (enter_no (g := g) b (Hfit.out b HbN.out) Ws (.slice (some ⟨g7, 0, none⟩) (m + 1) c7) hb3 hbS).mono ?_
                  rintro e w' ⟨rfl, hg⟩
                  refine ⟨some ⟨g7, 0, none⟩, c7, S2, (x, (.slice (some ⟨gt, ot, none⟩) 0 0), t) :: ss, D2, by rw [List.length_cons, Hm.out], ?_⟩
                  have h8 := H7.kept hg
                  rw [← Hm.out] at h8
                  refine ⟨h8, HI.out.2, ?_⟩
                  rw [List.length_cons, Hm.out]
                  show _ + (visSum ss + (t.length + 1)) < _
                  have := Hl.out
                  have := HL0.out
                  omega
                · have hbO : b ∉ O2 := fun g => hbS ((HI.out.1.mem b).2 (.inl g))
                  have hbs : b ∉ (plainS ((x, (.slice (some ⟨gt, ot, none⟩) 0 0), t) :: ss)).map (·.1) := fun g => hbS ((HI.out.1.mem b).2 (.inr (by simpa [plainS] using g)))
                  have hd0 : DfsOk (EdR E) O2 ((b, outsE N E b) :: (x, t) :: plainS ss) := Hdfs.out.push ⟨hbO, hbs⟩ fun z => mem_outsE Hends.out
                  have hVw : Below w.heap.size w Ws := grown_of_below hb4
                  have hss : ((x, (.slice (some ⟨gt, ot, none⟩) 0 0), t) :: ss).length = m + 1 := by rw [List.length_cons, Hm.out]
                  have hlen3 := Hlen2.out
                  have hnb := HN.out
                  rw [Hn.out] at hnb
                  refine (enter_yes b (Hfit.out b HbN.out) Hc.out w Ws HGr.out hVw (Nat.le_refl _) (.slice (some ⟨g7, 0, none⟩) (m + 1) c7) ((x, (.slice (some ⟨gt, ot, none⟩) 0 0), t) :: ss) hset.1 (by rw [hss]; omega) (by omega) hb3 hbS).mono ?_
                  rintro e w' ⟨v8, vo, rfl, K⟩
                  obtain ⟨g8, c8, e8, -⟩ := K.out.2.1.top
                  -- as it would stand, were it not for the walk's own order
                  have H7 : LfSt w w.heap.size (EdR E) N O2 (S2 ++ [b]) ((b, vo, outsE N E b) :: (x, (.slice (some ⟨gt, ot, none⟩) 0 0), t) :: ss) (D2.put (il b) (.held unitV)) (.slice p3 O2.length c3) v8 (.slice (some ⟨b12, off12, none⟩) n c12) w' := by
                    have hz : ∀ {v : Value} {zs : List Int}, IntsO Ws w.heap.size v zs → ∀ q, v.ownBlock = some q → ¬ (q = w.heap.size ∨ (Value.slice (some ⟨g7, 0, none⟩) (m + 1) c7).ownBlock = some q) := fun hv q e g => by
                      rcases g with rfl | g
                      · obtain ⟨o, ho, hc⟩ := hb3.obj
                        exact hv.no ho hc e
                      · exact hset.1.apart hv q g e
                    refine ⟨by rw [List.length_append]; exact K.out.1, hb1.off K.out.2.2.1 (hz hb1), K.out.2.1, hb2.off K.out.2.2.1 (hz hb2), HI.out.1.ap1, fun y hy q e1 e2 => ?_, off_gro hb4 K.out.2.2.1 (fun q e => ?_), hd0, fun z => ?_, ?_, fun z hz => ?_⟩
                    · rcases List.mem_cons.1 hy with rfl | hy
                      · have := K.out.2.2.2.1 q e2
                        have := (hb1.lt e1).2
                        omega
                      · exact hb5 y hy q e1 e2
                    · rcases e with rfl | e
                      · exact Nat.le_refl _
                      · exact (hset.1.row.lt q e).1
                    · rw [List.mem_append, List.mem_singleton, HI.out.1.mem z]
                      simp only [plainS, List.map_cons, List.mem_cons]
                      constructor
                      · rintro ((g | g) | g)
                        · exact .inl g
                        · exact .inr (.inr g)
                        · exact .inr (.inl g)
                      · rintro (g | g | g)
                        · exact .inl (.inl g)
                        · exact .inr g
                        · exact .inl (.inr g)
                    · rw [List.nodup_append]
                      exact ⟨HI.out.1.once, by simp, fun y hy z hz e => by rw [List.mem_singleton] at hz; subst hz e; exact hbS hy⟩
                    · rcases List.mem_append.1 hz with g | g
                      · exact HI.out.1.sub z g
                      · rw [List.mem_singleton] at g; rw [g]; exact HbN.out
                  refine ⟨some ⟨g8, 0, none⟩, c8, S2 ++ [b], (b, vo, outsE N E b) :: (x, (.slice (some ⟨gt, ot, none⟩) 0 0), t) :: ss, D2.put (il b) (.held unitV), by rw [e8]; rfl, ?_⟩
                  have hlen4 := H7.len.1
                  rw [e8] at H7
                  refine ⟨H7, fun j hj => List.mem_append_left _ (HI.out.2 j hj), ?_⟩
                  have hol : (outsE N E b).length ≤ n := by rw [← Hn.out]; exact List.length_filter_le _ _
                  rw [List.length_cons, List.length_cons, Hm.out, Hn.out] at hlen4
                  rw [List.length_cons, List.length_cons, Hm.out]
                  show _ + (visSum ss + (t.length + 1) + ((outsE N E b).length + 1)) < _
                  rw [Hl.out, HL0.out]
                  exact lf_measure (by omega) hol
              have hfz := Hstk.out.thaw (m * 2 + 1)
              clear hset hord H6 hb1 hb2 hb3 hb4 hb5 hSl HV hB7 hg7
              go_wp2_with (first
                | (go_at_call 74; (with_reducible refine HEn.out.mono ?_); rintro e w5 ⟨p8, c8, S3, ss3, D3, rfl, H8⟩)
                | go_in)
              refine ⟨⟨O2, S3, ss3, D3, H8.out.1, H8.out.2.1⟩, ?_⟩
              rw [stkSum_is H8.out.1.stk]
              have h9 := H8.out.2.2
              rw [HL0.out] at h9
              have h10 : stkSum wb (.slice (some ⟨g7, 0, none⟩) (m + 1) c7) = visSum ss + (0 + 1 + 1) := HSum.out
              rw [h10]
              exact h9
            · have HV : IntsO wb w.heap.size (.slice (some ⟨gt, ot + 1, none⟩) l (ct - 1)) t := by
                have h1 := Httl.out
                rw [if_neg hc1] at h1
                exact h1
              obtain ⟨l0, hl0⟩ : ∃ l0, l0 = l + 1 := ⟨_, rfl⟩
              have HL0 := Lib.hid hl0
              clear hl0
              obtain ⟨Ws, hWs⟩ : ∃ W, wb.setCell ⟨g7, m * 2 + 1, none⟩ (.slice (some ⟨gt, ot + 1, none⟩) l (ct - 1)) = W := ⟨_, rfl⟩
              have hset := Hstk.out.set HV
              rw [Hm.out, hWs] at hset
              have hord := HI.out.1.ord
              have H6 : LfSt w w.heap.size (EdR E) N O2 S2 ((x, (.slice (some ⟨gt, ot + 1, none⟩) l (ct - 1)), t) :: ss) D2 (.slice p3 O2.length c3) (.slice (some ⟨g7, 0, none⟩) (m + 1) c7) (.slice (some ⟨b12, off12, none⟩) n c12) Ws ∨ True := .inr trivial
              have hb1 : IntsO Ws w.heap.size (.slice p3 O2.length c3) O2 := hord.kept hset.2 (.inr (Hstk.out.apart hord g7 rfl))
              have hb2 : IntsO Ws w.heap.size (.slice (some ⟨b12, off12, none⟩) n c12) N := HI.out.1.nodes.kept hset.2 (.inr (Hstk.out.apart HI.out.1.nodes g7 rfl))
              have hb3 : SeenAt w.heap.size S2.length S2 D2 Ws := HI.out.1.seen.kept hset.2 (fun e => by
                obtain ⟨o, ho, hc⟩ := HI.out.1.seen.obj
                exact row_no Hstk.out.row ho hc e.symm)
              have hb4 : w.grownBy Ws none := HI.out.1.gro.andThen hset.2 (fun q e => .inl (by cases e; exact hB7))
              have hb5 : ∀ y ∈ (x, (.slice (some ⟨gt, ot + 1, none⟩) l (ct - 1)), t) :: ss, ∀ q, (Value.slice p3 O2.length c3).ownBlock = some q → y.2.1.ownBlock ≠ some q := fun y hy q h1 h2 => by
                rcases List.mem_cons.1 hy with rfl | hy
                · exact HI.out.1.ap2 _ (List.mem_cons_self ..) q h1 h2
                · exact HI.out.1.ap2 y (List.mem_cons_of_mem _ hy) q h1 h2
              have hSl : S2.length ≤ 500 := by have := HI.out.1.len; have := HN.out; omega
              -- a visit of it, or none
              have HEn : Hid (Calls Try.prog 74 #[.pointer (some ⟨g, 0, none⟩), .slice (some ⟨g7, 0, none⟩) (m + 1) c7, .map (some w.heap.size), iv b] Ws fun e w' => ∃ p8 c8 S' ss' D', e = .returned (.slice p8 ss'.length c8) ∧ Hid (LfSt w w.heap.size (EdR E) N O2 S' ss' D' (.slice p3 O2.length c3) (.slice p8 ss'.length c8) (.slice (some ⟨b12, off12, none⟩) n c12) w' ∧ (∀ j, j < q + 1 → N.getD j 0 ∈ S') ∧ (n - (O2.length + ss'.length)) * (n + 2) + visSum ss' < (n - (O2.length + (m + 1))) * (n + 2) + (visSum ss + (l0 + 1)))) := by
                by_cases hbS : b ∈ S2
                · have hd : DfsOk (EdR E) O2 (plainS ((x, (.slice (some ⟨gt, ot + 1, none⟩) l (ct - 1)), t) :: ss)) := Hdfs.out.skip (by
                    rcases (HI.out.1.mem b).1 hbS with g | g
                    · exact .inl g
                    · exact .inr (by simpa [plainS] using g))
                  have H7 : LfSt w w.heap.size (EdR E) N O2 S2 ((x, (.slice (some ⟨gt, ot + 1, none⟩) l (ct - 1)), t) :: ss) D2 (.slice p3 O2.length c3) (.slice (some ⟨g7, 0, none⟩) (m + 1) c7) (.slice (some ⟨b12, off12, none⟩) n c12) Ws := ⟨hb3, hb1, hset.1, hb2, HI.out.1.ap1, hb5, hb4, hd, HI.out.1.mem, HI.out.1.once, HI.out.1.sub⟩
                  refine (enter_no (g := g) b (Hfit.out b HbN.out) Ws (.slice (some ⟨g7, 0, none⟩) (m + 1) c7) hb3 hbS).mono ?_
                  rintro e w' ⟨rfl, hg⟩
                  refine ⟨some ⟨g7, 0, none⟩, c7, S2, (x, (.slice (some ⟨gt, ot + 1, none⟩) l (ct - 1)), t) :: ss, D2, by rw [List.length_cons, Hm.out], ?_⟩
                  have h8 := H7.kept hg
                  rw [← Hm.out] at h8
                  refine ⟨h8, HI.out.2, ?_⟩
                  rw [List.length_cons, Hm.out]
                  show _ + (visSum ss + (t.length + 1)) < _
                  have := Hl.out
                  have := HL0.out
                  omega
                · have hbO : b ∉ O2 := fun g => hbS ((HI.out.1.mem b).2 (.inl g))
                  have hbs : b ∉ (plainS ((x, (.slice (some ⟨gt, ot + 1, none⟩) l (ct - 1)), t) :: ss)).map (·.1) := fun g => hbS ((HI.out.1.mem b).2 (.inr (by simpa [plainS] using g)))
                  have hd0 : DfsOk (EdR E) O2 ((b, outsE N E b) :: (x, t) :: plainS ss) := Hdfs.out.push ⟨hbO, hbs⟩ fun z => mem_outsE Hends.out
                  have hVw : Below w.heap.size w Ws := grown_of_below hb4
                  have hss : ((x, (.slice (some ⟨gt, ot + 1, none⟩) l (ct - 1)), t) :: ss).length = m + 1 := by rw [List.length_cons, Hm.out]
                  have hlen3 := Hlen2.out
                  have hnb := HN.out
                  rw [Hn.out] at hnb
                  refine (enter_yes b (Hfit.out b HbN.out) Hc.out w Ws HGr.out hVw (Nat.le_refl _) (.slice (some ⟨g7, 0, none⟩) (m + 1) c7) ((x, (.slice (some ⟨gt, ot + 1, none⟩) l (ct - 1)), t) :: ss) hset.1 (by rw [hss]; omega) (by omega) hb3 hbS).mono ?_
                  rintro e w' ⟨v8, vo, rfl, K⟩
                  obtain ⟨g8, c8, e8, -⟩ := K.out.2.1.top
                  -- as it would stand, were it not for the walk's own order
                  have H7 : LfSt w w.heap.size (EdR E) N O2 (S2 ++ [b]) ((b, vo, outsE N E b) :: (x, (.slice (some ⟨gt, ot + 1, none⟩) l (ct - 1)), t) :: ss) (D2.put (il b) (.held unitV)) (.slice p3 O2.length c3) v8 (.slice (some ⟨b12, off12, none⟩) n c12) w' := by
                    have hz : ∀ {v : Value} {zs : List Int}, IntsO Ws w.heap.size v zs → ∀ q, v.ownBlock = some q → ¬ (q = w.heap.size ∨ (Value.slice (some ⟨g7, 0, none⟩) (m + 1) c7).ownBlock = some q) := fun hv q e g => by
                      rcases g with rfl | g
                      · obtain ⟨o, ho, hc⟩ := hb3.obj
                        exact hv.no ho hc e
                      · exact hset.1.apart hv q g e
                    refine ⟨by rw [List.length_append]; exact K.out.1, hb1.off K.out.2.2.1 (hz hb1), K.out.2.1, hb2.off K.out.2.2.1 (hz hb2), HI.out.1.ap1, fun y hy q e1 e2 => ?_, off_gro hb4 K.out.2.2.1 (fun q e => ?_), hd0, fun z => ?_, ?_, fun z hz => ?_⟩
                    · rcases List.mem_cons.1 hy with rfl | hy
                      · have := K.out.2.2.2.1 q e2
                        have := (hb1.lt e1).2
                        omega
                      · exact hb5 y hy q e1 e2
                    · rcases e with rfl | e
                      · exact Nat.le_refl _
                      · exact (hset.1.row.lt q e).1
                    · rw [List.mem_append, List.mem_singleton, HI.out.1.mem z]
                      simp only [plainS, List.map_cons, List.mem_cons]
                      constructor
                      · rintro ((g | g) | g)
                        · exact .inl g
                        · exact .inr (.inr g)
                        · exact .inr (.inl g)
                      · rintro (g | g | g)
                        · exact .inl (.inl g)
                        · exact .inr g
                        · exact .inl (.inr g)
                    · rw [List.nodup_append]
                      exact ⟨HI.out.1.once, by simp, fun y hy z hz e => by rw [List.mem_singleton] at hz; subst hz e; exact hbS hy⟩
                    · rcases List.mem_append.1 hz with g | g
                      · exact HI.out.1.sub z g
                      · rw [List.mem_singleton] at g; rw [g]; exact HbN.out
                  refine ⟨some ⟨g8, 0, none⟩, c8, S2 ++ [b], (b, vo, outsE N E b) :: (x, (.slice (some ⟨gt, ot + 1, none⟩) l (ct - 1)), t) :: ss, D2.put (il b) (.held unitV), by rw [e8]; rfl, ?_⟩
                  have hlen4 := H7.len.1
                  rw [e8] at H7
                  refine ⟨H7, fun j hj => List.mem_append_left _ (HI.out.2 j hj), ?_⟩
                  have hol : (outsE N E b).length ≤ n := by rw [← Hn.out]; exact List.length_filter_le _ _
                  rw [List.length_cons, List.length_cons, Hm.out, Hn.out] at hlen4
                  rw [List.length_cons, List.length_cons, Hm.out]
                  show _ + (visSum ss + (t.length + 1) + ((outsE N E b).length + 1)) < _
                  rw [Hl.out, HL0.out]
                  exact lf_measure (by omega) hol
              have hfz := Hstk.out.thaw (m * 2 + 1)
              clear hset hord H6 hb1 hb2 hb3 hb4 hb5 hSl HV hB7 hg7
              go_wp2_with (first
                | (go_at_call 74; (with_reducible refine HEn.out.mono ?_); rintro e w5 ⟨p8, c8, S3, ss3, D3, rfl, H8⟩)
                | go_in)
              refine ⟨⟨O2, S3, ss3, D3, H8.out.1, H8.out.2.1⟩, ?_⟩
              rw [stkSum_is H8.out.1.stk]
              have h9 := H8.out.2.2
              rw [HL0.out] at h9
              have h10 : stkSum wb (.slice (some ⟨g7, 0, none⟩) (m + 1) c7) = visSum ss + (l + 1 + 1) := HSum.out
              rw [h10]
              exact h9
    · have hqn : q = n := by omega
      clear hlt
      go_wp2
      go_ret
      refine ⟨_, O, rfl, HR.out.1.ord, HR.out.1.dfs, fun x => ?_, grown_of_below HR.out.1.gro⟩
      have h1 := HR.out.1.mem x
      simp only [plainS, List.map_nil, List.not_mem_nil, or_false] at h1
      rw [← h1]
      refine ⟨HR.out.1.sub x, fun hx => ?_⟩
      obtain ⟨j, hj, e⟩ := List.getElem_of_mem hx
      have h2 := HR.out.2 j (by rw [hqn, ← Hn.out]; exact hj)
      rw [List.getD_eq_getElem?_getD, List.getElem?_eq_getElem hj] at h2
      rw [← e]
      exact h2
end Go.Proofs.Ythgkloapnihpaaa

/- The library's sort at this program, laid by the kit's command. -/
namespace Go.Proofs
open Go.Shelf
def Try.sortLs_ren : Go.Shelf.Ren := ⟨fun | 6 => 60 | 15 => 72 | 14 => 75 | 28 => 89 | 29 => 90 | 20 => 91 | 21 => 92 | 22 => 93 | 23 => 94 | 24 => 95 | 25 => 96 | 26 => 97 | 27 => 98 | 46 => 105 | 47 => 101 | 48 => 102 | 49 => 106 | 50 => 107 | 57 => 109 | n => n, fun | 22 => 46 | 24 => 23 | 25 => 93 | 3 => 3 | 39 => 95 | 0 => 0 | 53 => 119 | 55 => 121 | 4 => 4 | 46 => 113 | 45 => 112 | 50 => 63 | 5 => 5 | 9 => 9 | 66 => 127 | 70 => 131 | 76 => 135 | 77 => 136 | n => n, fun | n => n⟩
theorem Try.sortLs : Go.Proofs.SlLaysF.n6 Try.prog Try.sortLs_ren := {
  mixed := by kernel_rfl
  f6 := ⟨Try.f60.name, by decide, Try.func60.trans (congrArg some (by kernel_rfl))⟩
  f14 := ⟨Try.f75.name, by decide, Try.func75.trans (congrArg some (by kernel_rfl))⟩
  f15 := Try.func72.trans (congrArg some (by kernel_rfl))
  f20 := ⟨Try.f91.name, by decide, Try.func91.trans (congrArg some (by kernel_rfl))⟩
  f21 := ⟨Try.f92.name, by decide, Try.func92.trans (congrArg some (by kernel_rfl))⟩
  f22 := ⟨Try.f93.name, by decide, Try.func93.trans (congrArg some (by kernel_rfl))⟩
  f23 := ⟨Try.f94.name, by decide, Try.func94.trans (congrArg some (by kernel_rfl))⟩
  f24 := ⟨Try.f95.name, by decide, Try.func95.trans (congrArg some (by kernel_rfl))⟩
  f25 := ⟨Try.f96.name, by decide, Try.func96.trans (congrArg some (by kernel_rfl))⟩
  f26 := ⟨Try.f97.name, by decide, Try.func97.trans (congrArg some (by kernel_rfl))⟩
  f27 := ⟨Try.f98.name, by decide, Try.func98.trans (congrArg some (by kernel_rfl))⟩
  f28 := Try.func89.trans (congrArg some (by kernel_rfl))
  f29 := Try.func90.trans (congrArg some (by kernel_rfl))
  f46 := ⟨Try.f105.name, by decide, Try.func105.trans (congrArg some (by kernel_rfl))⟩
  f47 := Try.func101.trans (congrArg some (by kernel_rfl))
  f48 := Try.func102.trans (congrArg some (by kernel_rfl))
  f49 := ⟨Try.f106.name, by decide, Try.func106.trans (congrArg some (by kernel_rfl))⟩
  f50 := ⟨Try.f107.name, by decide, Try.func107.trans (congrArg some (by kernel_rfl))⟩
  f57 := ⟨Try.f109.name, by decide, Try.func109.trans (congrArg some (by kernel_rfl))⟩
  t0 := Try.underlying0
  a0 := Try.isAgg0
  z0 := Try.sizeOf0
  v0 := Try.zeroValue0
  t3 := Try.underlying3
  a3 := Try.isAgg3
  z3 := Try.sizeOf3
  v3 := Try.zeroValue3
  t4 := Try.underlying4
  a4 := Try.isAgg4
  z4 := Try.sizeOf4
  v4 := Try.zeroValue4
  t5 := Try.underlying5
  a5 := Try.isAgg5
  z5 := Try.sizeOf5
  v5 := Try.zeroValue5
  t9 := Try.underlying9
  a9 := Try.isAgg9
  z9 := Try.sizeOf9
  v9 := Try.zeroValue9
  t22 := Try.underlying46
  a22 := Try.isAgg46
  z22 := Try.sizeOf46
  v22 := Try.zeroValue46
  a24 := Try.isAgg23
  z24 := Try.sizeOf23
  t25 := Try.underlying93
  a25 := Try.isAgg93
  z25 := Try.sizeOf93
  v25 := Try.zeroValue93
  t39 := Try.underlying95
  a39 := Try.isAgg95
  z39 := Try.sizeOf95
  v39 := Try.zeroValue95
  t45 := Try.underlying112
  a45 := Try.isAgg112
  z45 := Try.sizeOf112
  v45 := Try.zeroValue112
  t46 := Try.underlying113
  a46 := Try.isAgg113
  z46 := Try.sizeOf113
  v46 := Try.zeroValue113
  t50 := Try.underlying63
  a50 := Try.isAgg63
  z50 := Try.sizeOf63
  v50 := Try.zeroValue63
  t53 := Try.underlying119
  a53 := Try.isAgg119
  z53 := Try.sizeOf119
  v53 := Try.zeroValue119
  t55 := Try.underlying121
  a55 := Try.isAgg121
  z55 := Try.sizeOf121
  v55 := Try.zeroValue121
  t66 := Try.underlying127
  a66 := Try.isAgg127
  z66 := Try.sizeOf127
  v66 := Try.zeroValue127
  t70 := Try.underlying131
  a70 := Try.isAgg131
  z70 := Try.sizeOf131
  v70 := Try.zeroValue131
  t76 := Try.underlying135
  a76 := Try.isAgg135
  z76 := Try.sizeOf135
  v76 := Try.zeroValue135
  t77 := Try.underlying136
  a77 := Try.isAgg136
  z77 := Try.sizeOf136
  v77 := Try.zeroValue136 }
end Go.Proofs

/- Lists of lists of numbers in memory, sorted by their heads where they lie. -/
namespace Go.Proofs.Ythgkloapnihpaaa
open Go.RowKit Go.Maps Go.WideMaps Go.WideElems Go.ChangeShapes Go.WideShapes

/-- Lists: their values, and plainly. -/
abbrev Pts := List (Value × List Int)
structure PtsAt (B : Nat) (v : Value) (ps : Pts) (W : World) : Prop where
  row : W.ownsRow B 23 1 v ps.length (ps.map (·.1))
  each : ∀ x ∈ ps, IntsO W B x.1 x.2
theorem pts_nil (B : Nat) (W : World) : PtsAt B (.slice none 0 0) [] W := ⟨World.ownsRow_nil _ _ _ _, by simp⟩
theorem PtsAt.apart {B B2 : Nat} {v v2 : Value} {ps : Pts} {zs : List Int} {W : World} (h : PtsAt B v ps W) (h2 : IntsO W B2 v2 zs) : ∀ q, v.ownBlock = some q → v2.ownBlock ≠ some q := by
  intro q e
  rcases h.row.2 with ⟨rfl, _⟩ | ⟨g, cap, cur, rfl, _, hg, _⟩
  · simp [Value.ownBlock] at e
  · have e2 : g = q := by simpa [Value.ownBlock] using e
    subst e2
    exact h2.ne hg fun cur2 e3 => by cases e3
theorem PtsAt.off {B : Nat} {v : Value} {ps : Pts} {W W' : World} {Z : Nat → Prop} (h : PtsAt B v ps W) (hg : Off Z W W') (hz : ∀ q, v.ownBlock = some q → ¬ Z q) (hz2 : ∀ x ∈ ps, ∀ q, x.1.ownBlock = some q → ¬ Z q) : PtsAt B v ps W' :=
  ⟨row_off h.row hg hz, fun x hx => (h.each x hx).off hg (hz2 x hx)⟩
theorem PtsAt.kept {B : Nat} {v : Value} {ps : Pts} {W W' : World} (h : PtsAt B v ps W) (hg : W.grownBy W' none) : PtsAt B v ps W' :=
  h.off (off_of_grown hg) (fun q _ e => by cases e) (fun x _ q _ e => by cases e)
/-- A block that is no cells turns. -/
theorem PtsAt.keptAt {B r : Nat} {v : Value} {ps : Pts} {W W' : World} {o : Obj} (h : PtsAt B v ps W) (hg : W.grownBy W' (some r)) (ho : W.heap[r]? = some o) (hc : o.isCells = false) : PtsAt B v ps W' :=
  h.off (off_of_grown hg) (fun q e e2 => row_no h.row ho hc (by cases e2; exact e)) (fun x hx q e e2 => (h.each x hx).no ho hc (by cases e2; exact e))
/-- What cmp.Compare says. -/
def cmpI (a b : Int) : Int := if a < b then -1 else if b < a then 1 else 0
theorem isNaN_any (a : Int) (w : World) : Calls Try.prog 76 #[.int .i64 a] w fun e w' => e = .returned (.bool false) ∧ w = w' := by
  go_enter Try.func76, Try.ntmps76
  go_wp2
  go_ret
  exact ⟨by simp, rfl⟩
theorem compare_any (a b : Int) (w : World) : Calls Try.prog 62 #[.int .i64 a, .int .i64 b] w fun e w' => e = .returned (.int .i64 (cmpI a b)) ∧ w = w' := by
  have HN := Lib.hid (fun a => isNaN_any a w)
  obtain ⟨R, hR⟩ : ∃ R, R = cmpI a b := ⟨_, rfl⟩
  rw [← hR]
  unfold cmpI at hR
  by_cases h1 : a < b
  · rw [if_pos h1] at hR
    subst hR
    go_enter Try.func62, Try.ntmps62
    go_wp2_with (first | (go_at_call 76; refine (HN.out _).mono ?_; rintro e w2 ⟨rfl, rfl⟩))
    go_ret
    exact ⟨rfl, rfl⟩
  · rw [if_neg h1] at hR
    by_cases h2 : b < a
    · rw [if_pos h2] at hR
      subst hR
      go_enter Try.func62, Try.ntmps62
      go_wp2_with (first | (go_at_call 76; refine (HN.out _).mono ?_; rintro e w2 ⟨rfl, rfl⟩))
      go_ret
      exact ⟨rfl, rfl⟩
    · rw [if_neg h2] at hR
      subst hR
      go_enter Try.func62, Try.ntmps62
      go_wp2_with (first | (go_at_call 76; refine (HN.out _).mono ?_; rintro e w2 ⟨rfl, rfl⟩))
      go_ret
      exact ⟨rfl, rfl⟩

section
open Go.Sort (grow putRow Holds putCells mapBlock onCells heap_grow_old SWO PermIn SortedIn)
theorem grow_none (w : World) : grow w #[] = w := by simp [grow]
set_option maxHeartbeats 2000000 in
theorem cmp_heads {B : Nat} {vx vy : Value} {xs ys : List Int} (W : World) (hx : IntsO W B vx xs) (hy : IntsO W B vy ys) (hxn : xs ≠ []) (hyn : ys ≠ []) :
    Calls Try.prog 61 #[vx, vy] W fun e w' => e = .returned (iv (cmpI (xs.headD 0) (ys.headD 0))) ∧ ∃ q os', w' = grow (W.drewN q) os' := by
  obtain ⟨p, c, rfl, hc1, h2⟩ := hx.form
  obtain ⟨p', c', rfl, hc2, h2'⟩ := hy.form
  obtain ⟨g, off, rfl, -, -, hc⟩ := h2 hxn
  obtain ⟨g', off', rfl, -, -, hc'⟩ := h2' hyn
  obtain ⟨x, xs, rfl⟩ : ∃ x l, xs = x :: l := by cases xs with
    | nil => exact absurd rfl hxn
    | cons x l => exact ⟨x, l, rfl⟩
  obtain ⟨y, ys, rfl⟩ : ∃ x l, ys = x :: l := by cases ys with
    | nil => exact absurd rfl hyn
    | cons x l => exact ⟨x, l, rfl⟩
  have x0 := hc 0 (by simp)
  have y0 := hc' 0 (by simp)
  rw [List.getD_cons_zero, Nat.add_zero] at x0 y0
  rw [List.length_cons, List.length_cons]
  show Calls _ _ _ _ fun e w' => e = .returned (iv (cmpI x y)) ∧ _
  obtain ⟨n, hn⟩ : ∃ n, xs.length = n := ⟨_, rfl⟩
  obtain ⟨m, hm⟩ : ∃ m, ys.length = m := ⟨_, rfl⟩
  rw [hn, hm]
  have hix1 : (0 : Int) < (n : Int) + 1 := by omega
  have hix2 : (0 : Int) < (m : Int) + 1 := by omega
  have HC := Lib.hid (fun W => compare_any x y W)
  clear hx hy hc1 hc2 h2 h2' hc hc' hxn hyn hn hm
  generalize cmpI x y = R at *
  go_enter Try.func61, Try.ntmps61
  go_wp2
  go_region_held3 (fun w' => w'.cell? ⟨g, off, none⟩ = some (iv x) ∧ w'.cell? ⟨g', off', none⟩ = some (iv y)) (go_keep)
    (first | (go_at_call 62; refine (HC.out _).mono ?_; rintro e w4 ⟨rfl, rfl⟩))
  all_goals
    go_wp2
    go_ret
    exact ⟨rfl, 1, #[], (grow_none _).symm⟩
variable {α : Type} [Inhabited α]
theorem heap_sortedE {enc : α → Value} {w : World} {g m off : Nat} {os : Array Obj} {cur : Array Value} {e : TypeId} {fr : Nat × Nat} (d : Array α) (hb : w.heap[g]? = some (.cells cur e fr)) :
    (grow (putRow enc (Sort.ahead w m) g off d) os).heap[g]? = some (.cells (putCells enc off d cur) e fr) := by
  have hg : g < w.heap.size := (Array.getElem?_eq_some_iff.1 hb).1
  rw [heap_grow_old _ _ (by simpa [putRow, mapBlock, Sort.ahead] using hg)]
  simp [putRow, mapBlock, Sort.ahead, Array.getElem?_modify, hb, onCells]
theorem grownBy_sortedE {enc : α → Value} {w : World} {g m off : Nat} {os : Array Obj} (d : Array α) : w.grownBy (grow (putRow enc (Sort.ahead w m) g off d) os) (some g) := by
  refine ⟨rfl, rfl, rfl, by simp [grow, putRow, mapBlock, Sort.ahead], fun k hk hne => ?_⟩
  rw [heap_grow_old _ _ (by simpa [putRow, mapBlock, Sort.ahead] using hk)]
  have : g ≠ k := fun e => hne (by rw [e])
  simp [putRow, mapBlock, Sort.ahead, Array.getElem?_modify, this]
theorem take_sortedE {enc : α → Value} (cur : Array Value) (l : List α) (h : l.length ≤ cur.size) : (putCells enc 0 l.toArray cur).toList.take l.length = l.map enc := by
  refine List.ext_getElem? fun j => ?_
  by_cases hj : j < l.length
  · have hc : j < cur.size := by omega
    rw [List.getElem?_take_of_lt hj, Array.getElem?_toList]
    simp [putCells, hj, hc]
  · rw [List.getElem?_take_eq_none (by omega), List.getElem?_eq_none (by simp; omega)]
end
/-- A list that is not empty, in a world. -/
abbrev PtE (W : World) (B : Nat) := { x : Value × List Int // IntsO W B x.1 x.2 ∧ x.2 ≠ [] }
def cfE {W : World} {B : Nat} (x y : PtE W B) : Int := cmpI (x.1.2.headD 0) (y.1.2.headD 0)
theorem ltE_of {W : World} {B : Nat} (x y : PtE W B) : ltOf cfE x y = decide (x.1.2.headD 0 < y.1.2.headD 0) := by
  unfold ltOf cfE cmpI
  rw [decide_eq_decide]
  generalize x.1.2.headD 0 = a
  generalize y.1.2.headD 0 = b
  by_cases h1 : a < b
  · simp [h1]
  · by_cases h2 : b < a <;> simp [h1, h2]
open Go.Sort (grow putRow Holds putCells mapBlock onCells heap_grow_old SWO PermIn SortedIn) in
theorem swoE (W : World) (B : Nat) : SWO (ltOf (cfE (W := W) (B := B))) where
  irrefl x := by rw [ltE_of]; simp
  trans x y z h1 h2 := by
    rw [ltE_of, decide_eq_true_eq] at *
    omega
  ntrans x y z h1 h2 := by
    rw [ltE_of, decide_eq_false_iff_not] at *
    omega
open Go.Sort (grow putRow Holds putCells mapBlock onCells heap_grow_old SWO PermIn SortedIn) in
theorem sort_parts (B : Nat) (v : Value) (ps : Pts) (w : World) (h : PtsAt B v ps w) (hne : ∀ x ∈ ps, x.2 ≠ []) (hl : ps.length ≤ 500) :
    Calls Try.prog 60 #[v, .func (.func 61) #[] #[]] w fun e w' => e = .returned (.tuple #[]) ∧ ∃ ps', Hid (ps'.Perm ps ∧ (ps'.map fun x => x.2.headD 0).Pairwise (· ≤ ·) ∧ PtsAt B v ps' w' ∧ w.grownBy w' v.ownBlock) := by
  rcases h.row.2 with ⟨rfl, h0⟩ | ⟨g, cap, cur, rfl, hb, hg, hn, hm, hs, ht⟩
  · have hp : ps = [] := List.eq_nil_of_length_eq_zero h0
    subst hp
    exact (AnyF.slices_SortFunc_none (P := Try.prog) (ρ := Try.sortLs_ren) { Try.sortLs with } none 0 (.func (.func 61) #[] #[]) w).mono fun e w' ⟨h1, h2⟩ => ⟨h1, [], List.Perm.refl _, by simp, h2 ▸ pts_nil _ _, h2 ▸ World.grownBy.refl w _⟩
  · by_cases hp0 : ps = []
    · subst hp0
      exact (AnyF.slices_SortFunc_none (P := Try.prog) (ρ := Try.sortLs_ren) { Try.sortLs with } (some ⟨g, 0, none⟩) cap (.func (.func 61) #[] #[]) w).mono fun e w' ⟨h1, h2⟩ => ⟨h1, [], List.Perm.refl _, by simp, h2 ▸ h, h2 ▸ World.grownBy.refl w _⟩
    obtain ⟨x0, hx0⟩ : ∃ x, x ∈ ps := by
      cases ps with
      | nil => exact absurd rfl hp0
      | cons x l => exact ⟨x, by simp⟩
    letI : Inhabited (PtE w B) := ⟨⟨x0, h.each x0 hx0, hne x0 hx0⟩⟩
    rw [Nat.mul_one] at hs ht
    obtain ⟨L, hL⟩ : ∃ L : List (PtE w B), L = ps.attach.map fun x => ⟨x.1, h.each x.1 x.2, hne x.1 x.2⟩ := ⟨_, rfl⟩
    have hLv : L.map (·.1) = ps := by
      rw [hL, List.map_map]
      exact List.attach_map_subtype_val ps
    have hLl : L.length = ps.length := by rw [hL]; simp
    have hgs : g < w.heap.size := (Array.getElem?_eq_some_iff.1 hg).1
    have hap : ∀ x ∈ ps, x.1.ownBlock ≠ some g := fun x hx => h.apart (h.each x hx) g rfl
    have hapE : ∀ x : PtE w B, x.1.1.ownBlock ≠ some g := fun x => x.2.1.ne hg fun cur2 e3 => by cases e3
    have hH : Holds (fun x : PtE w B => x.1.1) w g 0 L.toArray := by
      intro j hj
      have hj' : j < L.length := by simpa using hj
      refine ⟨?_, by simp [World.frozen?, hg]⟩
      have h1 : (ps.map (·.1))[j]? = some (L[j].1.1) := by
        rw [← hLv, List.map_map, List.getElem?_map, List.getElem?_eq_getElem hj']
        rfl
      rw [← ht, List.getElem?_take, if_pos (by omega)] at h1
      rw [Nat.zero_add]
      simp only [World.cell?, hg]
      simp [hj'] at h1 ⊢
      exact h1
    have hcon := Any.slices_SortFunc (P := Try.prog) (ρ := Try.sortLs_ren) Try.sortLs (fun x : PtE w B => x.1.1) (fun x => slice_one x.2.1) cfE (swoE w B) 61 #[] g 0 cap L.toArray w (enters_of Try.func61 (by kernel_rfl) rfl)
      (fun m os dk _ x y => by
        have hgr : w.grownBy (sortWorld (fun x : PtE w B => x.1.1) w g 0 m dk os) (some g) := grownBy_sortedE dk
        exact cmp_heads _ (x.2.1.kept hgr (.inr (hapE x))) (y.2.1.kept hgr (.inr (hapE y))) x.2.2 y.2.2)
      hH hgs (by simp; omega)
    have hsz : L.toArray.size = ps.length := by simpa using hLl
    rw [hsz] at hcon
    refine hcon.mono fun e w' ⟨h1, d', m, os, hp, hso, hw⟩ => ⟨h1, d'.toList.map (·.1), ?_, ?_, ?_, ?_⟩
    · have hd : d'.size = ps.length := by rw [hp.1, hsz]
      have h2 := hp.2.2
      rw [show d'.extract 0 ps.length = d' by rw [← hd]; simp, show L.toArray.extract 0 ps.length = L.toArray by rw [← hsz]; simp] at h2
      have h3 := h2.map (fun x : PtE w B => x.1)
      have h4 : L.toArray.toList.map (fun x : PtE w B => x.1) = ps := hLv
      rw [h4] at h3
      exact h3
    · have hd : d'.size = ps.length := by rw [hp.1, hsz]
      rw [List.map_map, List.pairwise_map]
      refine List.pairwise_iff_getElem.2 fun i j hi hj hij => ?_
      have h2 := hso i j (Nat.zero_le _) hij (by simpa [hd] using hj)
      have hi' : i < d'.size := by simpa using hi
      have hj' : j < d'.size := by simpa using hj
      rw [getElem!_pos d' i hi', getElem!_pos d' j hj', ltE_of, decide_eq_false_iff_not] at h2
      simp only [Function.comp, Array.getElem_toList]
      omega
    · have hd : d'.size = ps.length := by rw [hp.1, hsz]
      have hgr : w.grownBy w' (some g) := by rw [hw]; exact grownBy_sortedE d'
      have hdl : d'.toList.length = ps.length := by simpa using hd
      refine ⟨?_, fun x hx => ?_⟩
      · rw [List.length_map, hdl, List.map_map, hw]
        refine ⟨by simp; omega, .inr ⟨g, cap, _, rfl, hb, heap_sortedE d' hg, hn, hm, by simp [putCells]; omega, ?_⟩⟩
        have h5 := take_sortedE (enc := fun x : PtE w B => x.1.1) cur d'.toList (by omega)
        rw [hdl, Array.toArray_toList] at h5
        rw [Nat.mul_one]
        exact h5
      · obtain ⟨y, hy, rfl⟩ := List.mem_map.1 hx
        exact y.2.1.kept hgr (.inr (hapE y))
    · rw [hw]; exact grownBy_sortedE d'
end Go.Proofs.Ythgkloapnihpaaa

/- Graphs: Parts, by a contract. -/
namespace Go.Proofs.Ythgkloapnihpaaa
open Go.RowKit Go.Maps Go.WideMaps Go.WideElems Go.ChangeShapes Go.WideShapes
attribute [local go_sem] Oper.semAt_some
open Classical

/-- Plainly: so many from the last one on have been gone through. -/
structure GrpOk (R : Int → Int → Prop) (N O S : List Int) (ps : Pts) (q : Nat) : Prop where
  seen : ∀ y, y ∈ S ↔ ∃ z ∈ O.drop (O.length - q), Mutual R z y
  each : ∀ x ∈ ps, ∃ k ∈ N, x.2 = cls R N k
  all : ∀ y ∈ S, ∃ x ∈ ps, y ∈ x.2
  sub : ∀ x ∈ ps, ∀ y ∈ x.2, y ∈ S
  once : (ps.map fun x => x.2.headD 0).Nodup
theorem drop_one {O : List Int} {q : Nat} (h : q < O.length) : O.drop (O.length - (q + 1)) = O.getD (O.length - 1 - q) 0 :: O.drop (O.length - q) := by
  have h1 : O.length - (q + 1) < O.length := by omega
  rw [List.drop_eq_getElem_cons h1, List.getD_eq_getElem?_getD, List.getElem?_eq_getElem (by omega)]
  have e1 : O.length - (q + 1) + 1 = O.length - q := by omega
  have e2 : O.length - (q + 1) = O.length - 1 - q := by omega
  simp only [e1]
  congr 1
  simp only [e2]
  rfl
section
variable {R : Int → Int → Prop} {N O S : List Int} {ps : Pts} {q : Nat}
theorem GrpOk.zero (R : Int → Int → Prop) (N O : List Int) : GrpOk R N O [] [] 0 := ⟨fun y => by simp, by simp, by simp, by simp, by simp⟩
/-- One that has been seen. -/
theorem GrpOk.skip (h : GrpOk R N O S ps q) (hq : q < O.length) (hk : O.getD (O.length - 1 - q) 0 ∈ S) : GrpOk R N O S ps (q + 1) := by
  refine ⟨fun y => ?_, h.each, h.all, h.sub, h.once⟩
  rw [drop_one hq, h.seen y]
  constructor
  · rintro ⟨z, h1, h2⟩
    exact ⟨z, List.mem_cons_of_mem _ h1, h2⟩
  · rintro ⟨z, h1, h2⟩
    rcases List.mem_cons.1 h1 with e | h1
    · obtain ⟨z2, h3, h4⟩ := (h.seen _).1 hk
      exact ⟨z2, h3, h4.trans (e ▸ h2)⟩
    · exact ⟨z, h1, h2⟩
theorem GrpOk.mutual (h : GrpOk R N O S ps q) {a b : Int} (ha : a ∈ S) (hab : Mutual R a b) : b ∈ S := by
  obtain ⟨z, h1, h2⟩ := (h.seen a).1 ha
  exact (h.seen b).2 ⟨z, h1, h2.trans hab⟩
/-- One that has not: what has been found is its group. -/
theorem GrpOk.found (hd : DfsOk R O []) (hON : ∀ x, x ∈ O ↔ x ∈ N) (hin : ∀ a b, R a b → a ∈ N ∧ b ∈ N) (h : GrpOk R N O S ps q) (hq : q < O.length) {k : Int} (hk : O.getD (O.length - 1 - q) 0 = k) (hkS : k ∉ S) {F : List Int} (hF : ∀ y, y ∈ F ↔ k ∉ S ∧ Leads (within (fun a b => R b a) fun z => z ∉ S) k y) :
    ∀ y, y ∈ F ↔ Mutual R k y := by
  intro y
  have hnd : O.Nodup := by
    have := hd.once
    simpa using this
  have hO : ∀ y, y ∈ O.drop (O.length - 1 - q + 1) → y ∈ S := fun y hy => (h.seen y).2 ⟨y, by rwa [show O.length - 1 - q + 1 = O.length - q from by omega] at hy, Mutual.refl y⟩
  have hik : O[O.length - 1 - q]? = some k := by
    rw [← hk, List.getD_eq_getElem?_getD, List.getElem?_eq_getElem (by omega)]
    rfl
  rw [hF y]
  have hg := group_of (S := fun z => z ∈ S) hd.left hnd (fun a b hab => ⟨(hON a).2 (hin a b hab).1, (hON b).2 (hin a b hab).2⟩) (fun a b ha hab => h.mutual ha hab) hik hO hkS y
  rw [hg]
  exact ⟨fun h => h.2, fun h => ⟨hkS, h⟩⟩
theorem GrpOk.add (hN : RiseI N) (h : GrpOk R N O S ps q) (hq : q < O.length) {k : Int} (hk : O.getD (O.length - 1 - q) 0 = k) (hkN : k ∈ N) (hkS : k ∉ S) {F F' : List Int} (hF : ∀ y, y ∈ F ↔ Mutual R k y) (hFN : ∀ y ∈ F, y ∈ N) (hr : RiseI F') (hF' : ∀ y, y ∈ F' ↔ y ∈ F) (v : Value) : GrpOk R N O (S ++ F) (ps ++ [(v, F')]) (q + 1) := by
  have he : F' = cls R N k := riseI_ext hr (rise_cls hN k) fun y => by
    rw [hF', hF, mem_cls]
    exact ⟨fun g => ⟨hFN y ((hF y).2 g), g⟩, fun g => g.2⟩
  refine ⟨fun y => ?_, fun x hx => ?_, fun y hy => ?_, fun x hx y hy => ?_, ?_⟩
  · rw [drop_one hq, List.mem_append, h.seen y, hF y, hk]
    constructor
    · rintro (⟨z, h1, h2⟩ | h1)
      · exact ⟨z, List.mem_cons_of_mem _ h1, h2⟩
      · exact ⟨k, List.mem_cons_self .., h1⟩
    · rintro ⟨z, h1, h2⟩
      rcases List.mem_cons.1 h1 with rfl | h1
      · exact .inr h2
      · exact .inl ⟨z, h1, h2⟩
  · rcases List.mem_append.1 hx with h1 | h1
    · exact h.each x h1
    · rw [List.mem_singleton] at h1
      subst h1
      exact ⟨k, hkN, he⟩
  · rcases List.mem_append.1 hy with h1 | h1
    · obtain ⟨x, h2, h3⟩ := h.all y h1
      exact ⟨x, List.mem_append_left _ h2, h3⟩
    · exact ⟨(v, F'), by simp, (hF' y).2 h1⟩
  · rcases List.mem_append.1 hx with h1 | h1
    · exact List.mem_append_left _ (h.sub x h1 y hy)
    · rw [List.mem_singleton] at h1
      subst h1
      exact List.mem_append_right _ ((hF' y).1 hy)
  · rw [List.map_append, List.nodup_append]
    refine ⟨h.once, by simp, fun a ha b hb e => ?_⟩
    simp only [List.map_cons, List.map_nil, List.mem_singleton] at hb
    obtain ⟨x, h1, h2⟩ := List.mem_map.1 ha
    obtain ⟨k2, h3, h4⟩ := h.each x h1
    have hne : ∀ k2, k2 ∈ N → (cls R N k2).headD 0 ∈ cls R N k2 := fun k2 hk2 => by
      have hm : k2 ∈ cls R N k2 := mem_cls.2 ⟨hk2, Mutual.refl k2⟩
      cases hl : cls R N k2 with
      | nil => rw [hl] at hm; simp at hm
      | cons a l => simp
    have h5 : a ∈ S := h.sub x h1 a (by rw [← h2, h4]; exact hne k2 h3)
    have h6 : b ∈ F := by
      have := hne k hkN
      rw [← he, ← hb, hF'] at this
      exact this
    subst e
    have h7 := (hF a).1 h6
    exact hkS (h.mutual h5 h7.symm)
/-- All have been gone through. -/
theorem GrpOk.parts (hN : RiseI N) (hON : ∀ x, x ∈ O ↔ x ∈ N) (h : GrpOk R N O S ps O.length) {ps' : Pts} (hp : ps'.Perm ps) (hs : (ps'.map fun x => x.2.headD 0).Pairwise (· ≤ ·)) : ps'.map (·.2) = partsOf R N := by
  have hmem : ∀ x, x ∈ ps' ↔ x ∈ ps := fun x => hp.mem_iff
  refine parts_of_heads hN (fun p hp2 => ?_) (fun k hk => ?_) ?_
  · obtain ⟨x, h1, rfl⟩ := List.mem_map.1 hp2
    exact h.each x ((hmem x).1 h1)
  · have h1 : k ∈ S := (h.seen k).2 ⟨k, by rw [Nat.sub_self, List.drop_zero]; exact (hON k).2 hk, Mutual.refl k⟩
    obtain ⟨x, h2, h3⟩ := h.all k h1
    exact ⟨x.2, List.mem_map.2 ⟨x, (hmem x).2 h2, rfl⟩, h3⟩
  · rw [List.map_map]
    have hnd : (ps'.map fun x => x.2.headD 0).Nodup := (hp.map _).symm.nodup h.once
    show (ps'.map fun x => x.2.headD 0).Pairwise (· < ·)
    exact (hs.and (List.nodup_iff_pairwise_ne.1 hnd)).imp fun {a b} hab => by
      have h1 := hab.1
      have h2 := hab.2
      omega
end
end Go.Proofs.Ythgkloapnihpaaa
