/- The iterator over the histories, as a loop takes it. -/
import Derived.Test.YtdemoikadojepaaEa
namespace Go.Proofs.Ytdemoikadojepaa
open Go.RowKit Go.Maps Go.WideMaps Go.WideElems Go.ChangeShapes Go.WideShapes
attribute [local go_sem] Oper.semAt_some

/-- The k-th name, and what it names. -/
def nmK : Nat → ByteArray | 0 => staleT | 1 => tornT | 2 => earlyT | _ => plainT
def noK : Nat → Nat | 0 => 1 | 1 => 2 | 2 => 1 | _ => 4
def mK : Nat → Nat | 0 => 10 | 1 => 14 | 2 => 10 | _ => 25
def OK : Nat → List Int | 0 => staleO | 1 => tornO | 2 => earlyO | _ => plainO
def FK : Nat → List Int | 0 => staleE | 1 => tornE | 2 => earlyE | _ => plainE
theorem namedK (k : Nat) (hk : k < 4) : Named (nmK k) (noK k) (mK k) (OK k) (FK k) true := by
  match k, hk with
  | 0, _ => exact .stale
  | 1, _ => exact .torn
  | 2, _ => exact .early
  | 3, _ => exact .plain
theorem smallK (k : Nat) (hk : k < 4) : noK k ≤ 4 ∧ mK k ≤ 25 := (namedK k hk).small
theorem names_at {W : World} {g k : Nat} (h : W.heap[g]? = some (.cells namesC 9)) (hk : k < 4) : W.cell? ⟨g, k, none⟩ = some (.string (nmK k)) := by
  rw [cell_of_row _ _ k _ _ _ h]
  match k, hk with
  | 0, _ => rfl
  | 1, _ => rfl
  | 2, _ => rfl
  | 3, _ => rfl
abbrev Item := Nat × (Option Addr × Nat) × (Option Addr × Nat)
/-- Its objects, its events. -/
abbrev voI (x : Item) : Value := .slice x.2.1.1 (noK x.1) x.2.1.2
abbrev vI (x : Item) : Value := .slice x.2.2.1 (mK x.1) x.2.2.2
abbrev encI (x : Item) : Array Value := #[.string (nmK x.1), .agg #[voI x, vI x]]
/-- What the iterator has made of an item. -/
structure OkI (n₀ : Nat) (pre : List Item) (x : Item) (W : World) : Prop where
  place : x.1 = pre.length
  lt : x.1 < 4
  hist : HistAt n₀ (voI x) (vI x) (noK x.1) (mK x.1) (OK x.1) (FK x.1) W
/-- What a loop's body leaves: the blocks below n₀, and rows of texts. -/
structure KpI (n₀ : Nat) (A B : World) : Prop where
  below : Below n₀ A B
  texts : ∀ (k : Nat) (cs : Array Value), A.heap[k]? = some (.cells cs 9) → B.heap[k]? = some (.cells cs 9)
theorem KpI.trans {n₀ : Nat} {A B C : World} (h : KpI n₀ A B) (k : KpI n₀ B C) : KpI n₀ A C := ⟨h.below.trans k.below, fun i cs hi => k.texts i cs (h.texts i cs hi)⟩
theorem kc_heap {A B : World} {k : Nat} {x : Obj} (h : Below A.heap.size A B) (hk : A.heap[k]? = some x) : B.heap[k]? = some x := (h.block k (Array.getElem?_eq_some_iff.1 hk).1).trans hk
theorem KpI.of_below {n₀ : Nat} {A B : World} (h : Below A.heap.size A B) (hn : n₀ ≤ A.heap.size) : KpI n₀ A B := ⟨h.mono hn, fun _ _ hk => kc_heap h hk⟩

set_option maxRecDepth 100000 in
set_option maxHeartbeats 2000000 in
theorem each1 (n : Nat) (hn : 1 ≤ n) (l n₀ : Nat) (J Jx : List Item → World → Prop) (hJT : ∀ s A B, J s A → Below A.heap.size A B → J s B)
    (hY : ∀ pre (x : Item) W, J pre W → OkI n₀ pre x W → pre.length < 4 → YieldAt Fence.wide (n - 1) Try.prog l (encI x) W fun e W' =>
      (e = .returned (.bool true) ∧ J (pre ++ [x]) W' ∧ KpI n₀ W W') ∨ (e = .returned (.bool false) ∧ Jx (pre ++ [x]) W'))
    (W : World) (hz : n₀ ≤ W.heap.size) (h0 : J [] W) :
    CallsIn Fence.wide n Try.prog 38 #[.func (.yield l) #[] #[]] W fun e W' => (∃ v, e = .returned v) ∧
      ((∃ ys : List Item, ys.length = 4 ∧ J ys W') ∨ (∃ pre : List Item, (1 ≤ pre.length ∧ pre.length ≤ 4) ∧ Jx pre W')) := by
  have hL := Lib.hid (names_any W)
  refine callsIn_of_wp Try.func38 rfl trivial ?_ rfl
  simp only [Try.ntmps38, List.size_toArray, List.length_cons, List.length_nil, Nat.reduceAdd, Nat.reduceSub, Array.replicate_succ, Array.replicate_zero, List.push_toArray, List.append_toArray, List.nil_append, List.cons_append]
  gi_wp2_with (first | (refine ⟨trivial, ?_⟩; gi_at_call 15; refine (callsIn_wide.2 hL.out).mono ?_; rintro e w2 ⟨rfl, h2⟩))
  have Hr0 : Hid (KpI n₀ W w2 ∧ w2.heap[W.heap.size]? = some (.cells namesC 9) ∧ ∃ pre : List Item, pre.length = 0 ∧ J pre w2) := ⟨.of_below h2.out.2 hz, h2.out.1, [], rfl, hJT _ _ _ h0 h2.out.2⟩
  clear h0 hL h2
  gi_loopw [8] (fun i wr => ∃ k : Nat, k ≤ 4 ∧ i = .int .i64 k ∧ Hid (KpI n₀ W wr ∧ wr.heap[W.heap.size]? = some (.cells namesC 9) ∧ ∃ pre : List Item, pre.length = k ∧ J pre wr))
    (fun i _ => 4 - (intOf i).toNat)
  case atStart => exact ⟨0, by omega, rfl, Hr0⟩
  case round =>
    obtain ⟨k, hk, rfl, HJ⟩ := hrel
    by_cases hlt : k < 4
    · have hzr := Lib.hid (Nat.le_trans hz HJ.out.1.below.size)
      have x0 := names_at HJ.out.2.1 hlt
      have HG := Lib.hid (get_any (namedK k hlt) wr)
      obtain ⟨pre, hp, hJp⟩ := HJ.out.2.2
      have HJp := Lib.hid hJp
      have Hp := Lib.hid hp
      have HY := Lib.hid (fun W1 ao co ae ce (h : J pre W1) (ho : HistAt n₀ (.slice ao (noK k) co) (.slice ae (mK k) ce) (noK k) (mK k) (OK k) (FK k) W1) => show YieldAt Fence.wide (n - 1) Try.prog l #[.string (nmK k), .agg #[.slice ao (noK k) co, .slice ae (mK k) ce]] W1 _ from hY pre (k, (ao, co), (ae, ce)) W1 h ⟨hp.symm, hlt, ho⟩ (by rw [hp]; exact hlt))
      clear hY hp hJp
      have Hk4 := Lib.hid hlt
      generalize nmK k = nm at *
      generalize noK k = no at *
      generalize mK k = m at *
      generalize OK k = O at *
      generalize FK k = F at *
      gi_wp2_with (first | (refine ⟨trivial, ?_⟩; gi_at_call 7; refine (callsIn_wide.2 HG.out).mono ?_; rintro e w3 ⟨vo, v, rfl, h3⟩; obtain ⟨ao, co, rfl, -, -⟩ := row_sl h3.out.1.obj; obtain ⟨ae, ce, rfl, -, -⟩ := row_sl h3.out.1.evs; obtain ⟨W5, hW5, Hb5, hs5, Hp5⟩ := cells_new w3 #[.slice ao no co, .slice ae m ce] 26; obtain ⟨y0, y1⟩ := row_two Hp5.out; have H5 := Lib.hid ((HJ.out.1.trans (.of_below h3.out.2 hzr.out)).trans (.of_below Hb5.out (Nat.le_trans hzr.out h3.out.2.size))); have N5 := Lib.hid (kc_heap Hb5.out (kc_heap h3.out.2 HJ.out.2.1)); have hJ5 := hJT _ _ _ (hJT _ _ _ HJp.out h3.out.2) Hb5.out; obtain ⟨fn, tmps, assign, body, hy, hR⟩ := HY.out W5 _ _ _ _ hJ5 ((h3.out.1.below Hb5.out).base hzr.out); (try dsimp only at hy); clear HY))
      refine hR.mono ?_
      rintro e W3 (⟨rfl, hJ3, hk3⟩ | ⟨rfl, hJx3⟩)
      · gi_wp2
        go_roundw
        case rel => exact ⟨k + 1, by have := Hk4.out; omega, by go_num, H5.out.trans hk3, hk3.texts _ _ N5.out, _, by rw [List.length_append, Hp.out]; rfl, hJ3⟩
        case measure => have := Hk4.out; simp [intOf]; omega
      · gi_wp2
        refine bodyPost_ret (results_none rfl _ _ _) rfl ?_
        exact ⟨⟨_, rfl⟩, .inr ⟨_, (by have := Hk4.out; rw [List.length_append, Hp.out]; simp; omega), hJx3⟩⟩
    · have hkl : k = 4 := by omega
      subst hkl
      obtain ⟨pre, hp, hJp⟩ := HJ.out.2.2
      have HJ2 := Lib.hid hJp
      have Hp := Lib.hid hp
      clear HJ hp hJp
      gi_wp2
      go_end0
      exact ⟨⟨_, rfl⟩, .inl ⟨_, Hp.out, HJ2.out⟩⟩

theorem each_seq (n : Nat) (hn : 1 ≤ n) (n₀ : Nat) (w : World) (hz : n₀ ≤ w.heap.size) :
    SeqE Fence.wide n Try.prog 38 #[] encI (KpI n₀) (fun A B => Below A.heap.size A B) (OkI n₀) (fun ys => ys.length = 4) (fun pre => 1 ≤ pre.length ∧ pre.length ≤ 4) 4 w := fun l J Jx W hW hJT hY h0 =>
  each1 n hn l n₀ J Jx hJT hY W (Nat.le_trans hz hW.size) h0
theorem each_any (w : World) : Calls Try.prog 16 #[] w fun e w' => e = .returned (.func (.func 38) #[] #[]) ∧ w = w' := by
  go_enter Try.func16, Try.ntmps16
  go_wp2
  go_ret
  exact ⟨rfl, rfl⟩
end Go.Proofs.Ytdemoikadojepaa
