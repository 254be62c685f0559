/- Helpers, joined: La, Dm, Dn, Bg, Ld. -/
import Derived.Test.YtcjfcomadcebnaaGreatDoorM1
import Derived.Test.YtcjfcomadcebnaaGreatDoorM6
import Derived.Test.YtcjfcomadcebnaaGreatDoorM10
import Derived.Deep.AppendLies
import Derived.Test.YtcjfcomadcebnaaGreatDoorCards
import Derived.Test.YtcjfcomadcebnaaGreatDoorTie
import Derived.ProofKit
import Derived.OpenShut
import Derived.ChangeSame
import Derived.ChangeVars
import Derived.LaidLaws
import Derived.LaidSub
import Derived.LaidHandle
import Derived.MakeChecks
import Derived.Stop.ErrReads
import Derived.Deep.DeepHandedRow
import Derived.Deep.DeepWitnessRowRef
import Derived.Deep.Slices
import Derived.HandedShaped
import Derived.Shelf.LaysM

/- StoreLists, by a contract. -/
namespace Go.Proofs.YtcjfcomadcebnaaGreatDoor
open Go.RowKit Go.Maps Go.WideMaps Go.WideElems Go.ChangeShapes Go.WideShapes
variable {er : Nat → Addr}

abbrev ic (l : List Int) : List Value := l.map (Value.int .i64)
theorem ic_len (l : List Int) : (ic l).length = l.length * 1 := by simp
theorem ic_one (l : List Int) : ∀ u ∈ ic l, u.oneCell' = true := by
  intro u hu
  obtain ⟨z, _, rfl⟩ := List.mem_map.1 hu
  rfl

theorem news_new (w : World) (cs : Array Value) (t : TypeId) : ∀ j u, cs.toList[j]? = some u → (w.alloc (.cells cs t)).cell? ((⟨w.heap.size, 0, none⟩ : Addr).add j) = some u := World.news_of_block (World.alloc_heap_new w _)

theorem slice_high (g n cap h : Nat) (i : Int) (hi : i = h) (hl : h ≤ cap) (w : World) :
    (Instr.slice 37 (.slice (some ⟨g, 0, none⟩) n cap) none (some (.int .i64 i)) none).run Tryz.prog w = .ok (.slice (some ⟨g, 0, none⟩) h cap) w := by
  subst hi
  rw [run_slice_h w 37 (some ⟨g, 0, none⟩) n cap (by kernel_rfl) .i64 h (by omega) (by omega)]
  have hs : (sizeOf (Tryz.prog.elem 37)).run Tryz.prog w = .ok 1 w := by kernel_rfl
  rw [hs]
  simp [Result.andThen, sliced, Addr.add]
theorem SlAt.front {W : World} {a : Option Addr} {xs ys : List Value} (h : SlAt W a (xs ++ ys)) (ha : a ≠ none) : SlAt W a xs := by
  rcases h with ⟨e, _⟩ | ⟨b, off, e, hl, hc⟩
  · exact absurd e ha
  · exact .inr ⟨b, off, e, fun hx => hl (by simp [hx]), fun j u hj => hc j u (by rw [List.getElem?_append_left (by have := (List.getElem?_eq_some_iff.1 hj).1; exact this)]; exact hj)⟩

/-- A list that never changes, in its box. -/
structure LB (b : Nat) (a : Option Addr) (n c : Nat) (zs : List Int) (A : World) : Prop where
  len : zs.length = n
  box : Boxed A b 54 (.slice a n c)
  sl : SlAt A a (ic zs)
  nz : a = none → c = 0
theorem LB.next {b : Nat} {a : Option Addr} {n c : Nat} {zs : List Int} {A A' : World} (h : LB b a n c zs A) (hb : Below A.heap.size A A') : LB b a n c zs A' :=
  ⟨h.len, boxed_below h.box hb (Array.getElem?_eq_some_iff.1 h.box).1, h.sl.below hb, h.nz⟩
/-- But for one block the world is as it was. -/
structure OnlyG (g : Nat) (A A' : World) : Prop where
  same : ∀ j, j ≠ g → A'.heap[j]? = A.heap[j]?
  size : A'.heap.size = A.heap.size
theorem SlAt.onlyG {g : Nat} {A A' : World} {a : Option Addr} {xs : List Value} (h : SlAt A a xs) (ho : OnlyG g A A') (hg : ∀ b off, a = some ⟨b, off, none⟩ → b ≠ g) : SlAt A' a xs := by
  rcases h with h | ⟨b, off, e, hl, hc⟩
  · exact .inl h
  · exact .inr ⟨b, off, e, fun hx => by rw [ho.size]; exact hl hx, fun j u hj => (World.cell?_of_block (a := ⟨b, off + j, none⟩) (ho.same b (hg b off e))).trans (hc j u hj)⟩
theorem LB.onlyG {g b : Nat} {a : Option Addr} {n c : Nat} {zs : List Int} {A A' : World} (h : LB b a n c zs A) (ho : OnlyG g A A') (hb : b ≠ g) (hg : ∀ b off, a = some ⟨b, off, none⟩ → b ≠ g) : LB b a n c zs A' :=
  ⟨h.len, (ho.same b hb).trans h.box, h.sl.onlyG ho hg, h.nz⟩
theorem row_far {W : World} {B e size n c : Nat} {a : Option Addr} {xs : List Value} (h : W.ownsRow B e size (.slice a n c) n xs) : ∀ b off, a = some ⟨b, off, none⟩ → B ≤ b := by
  intro b off e1
  rcases h.2 with ⟨e2, _⟩ | ⟨g, cap, cur, e2, hB, _⟩
  · cases e2; cases e1
  · cases e2; cases e1; exact hB

/-- A list that was made, or read: a slice of so many whole numbers. -/
def IntsN (W W' : World) (n : Nat) (ys : List Int) (v : Value) : Prop := ys.length = n ∧ ∃ a c, v = .slice a n c ∧ (a = none → c = 0) ∧ SlAt W' a (ic ys) ∧ Below W.heap.size W W'
theorem intsN {W W' : World} {B n : Nat} {v : Value} {ys : List Int} (h : W'.ownsRow B 3 1 v n (ic ys)) (hb : Below W.heap.size W W') : IntsN W W' n ys v := by
  obtain ⟨a, c, rfl, hs, _⟩ := row_sl h
  exact ⟨by have := h.1; simpa using this, a, c, rfl, (row_sl0 h).2, hs, hb⟩
theorem ic_snoc (zs : List Int) (x : Int) : ic zs ++ [.int .i64 x] = ic (zs ++ [x]) := by simp
theorem ic_set (zs : List Int) (k : Nat) (x : Int) : (ic zs).set k (.int .i64 x) = ic (zs.set k x) := by simp [List.map_set]
theorem ic_two (zs : List Int) (x y : Int) : ic zs ++ [.int .i64 x, .int .i64 y] = ic (zs ++ [x, y]) := by simp
theorem ll_with_in (W : World) (a : Option Addr) (n c : Nat) (zs : List Int) (hl : zs.length = n) (hn : n ≤ 1000000) (k : Nat) (hk : k < n) (x : Int) (hs : SlAt W a (ic zs)) : Calls Tryz.prog 23 #[.agg #[.slice a n c], .int .i64 (k : Int), .int .i64 x] W fun e w' => ∃ v', e = .returned (.agg #[v']) ∧ IntsN W w' n (zs.set k x) v' :=
  (with_int_in a n c (ic zs) (by simp [hl]) (ic_one _) hn k hk x W hs).mono fun _ _ ⟨v', e, h⟩ => ⟨v', e, intsN (by rw [← ic_set]; exact h.out.1) h.out.2⟩
theorem ll_with_out (W : World) (a : Option Addr) (n c : Nat) (zs : List Int) (hl : zs.length = n) (i : Int) (hi : ¬(0 ≤ i ∧ i < n)) (x : Int) (hs : SlAt W a (ic zs)) (hz : a = none → c = 0) : Calls Tryz.prog 23 #[.agg #[.slice a n c], .int .i64 i, .int .i64 x] W fun e w' => ∃ v', e = .returned (.agg #[v']) ∧ IntsN W w' n zs v' :=
  (with_int_out a n c i hi x W).mono fun _ _ ⟨e, h⟩ => ⟨_, e, hl, a, c, rfl, hz, hs.below h.out, h.out⟩
theorem ll_and (W : World) (a : Option Addr) (n c : Nat) (zs : List Int) (hl : zs.length = n) (hn : n ≤ 1000000) (x : Int) (hs : SlAt W a (ic zs)) (hz : a = none → c = 0) : Calls Tryz.prog 24 #[.agg #[.slice a n c], .int .i64 x] W fun e w' => ∃ v', e = .returned (.agg #[v']) ∧ IntsN W w' (n + 1) (zs ++ [x]) v' :=
  (and_int a n c (ic zs) (by simp [hl]) (ic_one _) hn x W hs hz).mono fun _ _ ⟨v', e, h⟩ => ⟨v', e, intsN (by rw [← ic_snoc]; exact h.out.1) h.out.2⟩
theorem ll_all (W : World) (a : Option Addr) (n c : Nat) (zs : List Int) (hl : zs.length = n) (hn : n ≤ 1000000) (hs : SlAt W a (ic zs)) : Calls Tryz.prog 26 #[.agg #[.slice a n c]] W fun e w' => ∃ v', e = .returned v' ∧ IntsN W w' n zs v' :=
  (all_int a n c (ic zs) (by simp [hl]) (ic_one _) hn W hs).mono fun _ _ ⟨v', e, h⟩ => ⟨v', e, intsN h.out.1 h.out.2⟩
theorem ll_same (W : World) (a a' : Option Addr) (n c c' : Nat) (zs zs' : List Int) (hl : zs.length = n) (hn : n ≤ 1000000) (hs : IAt W a zs) (hs' : IAt W a' zs') (he : zs = zs') : Calls Tryz.prog 16 #[.slice a n c, .slice a' n c'] W fun e w' => e = .returned (.bool true) ∧ Hid (Below W.heap.size W w') := by
  subst he
  subst hl
  have h := sameInts_any a a' c c' zs zs W hs hs' (by omega) (by omega)
  rw [decide_eq_true rfl] at h
  exact h.mono fun e w' ⟨e1, q, hq⟩ => ⟨e1, hq ▸ below_drewN (Below.refl _ _) q⟩

theorem ll_at_in (W : World) (a : Option Addr) (n c : Nat) (zs : List Int) (hl : zs.length = n) (hn : n ≤ 1000000) (j : Nat) (hj : j < n) (hs : SlAt W a (ic zs)) : Calls Tryz.prog 25 #[.agg #[.slice a n c], .int .i64 (j : Int)] W fun e w' => e = .returned (.tuple #[.int .i64 (zs[j]?.getD 0), .bool true]) ∧ Hid (Below W.heap.size W w') :=
  (at_int a n c zs hl hn j W hs).mono fun e w' ⟨h1, h2⟩ => ⟨by
    rw [h1, if_pos ⟨Int.natCast_nonneg j, by omega⟩, decide_eq_true (Int.natCast_nonneg j), decide_eq_true (by omega : (j : Int) < (n : Int)), Int.toNat_natCast, List.getD_eq_getElem?_getD]; rfl, h2⟩
theorem ll_at_out (W : World) (a : Option Addr) (n c : Nat) (zs : List Int) (hl : zs.length = n) (hn : n ≤ 1000000) (i : Int) (hi : ¬(0 ≤ i ∧ i < n)) (hs : SlAt W a (ic zs)) : Calls Tryz.prog 25 #[.agg #[.slice a n c], .int .i64 i] W fun e w' => e = .returned (.tuple #[.int .i64 0, .bool false]) ∧ Hid (Below W.heap.size W w') :=
  (at_int a n c zs hl hn i W hs).mono fun e w' ⟨h1, h2⟩ => ⟨by
    have e1 : (decide (0 ≤ i) && decide (i < (n : Int))) = false := by simpa using hi
    rw [h1, if_neg hi, e1], h2⟩
/-- A new box behind a call: what lies in it. -/
theorem lb_new {W u : World} {n : Nat} {ys : List Int} {a : Option Addr} {c : Nat} (hl : ys.length = n) (hz : a = none → c = 0) (hs : SlAt u a (ic ys)) (hb : Below W.heap.size W u) :
    ∃ U, u.alloc (.cells #[.slice a n c] 54) = U ∧ Hid (Below W.heap.size W U) ∧ Hid (LB u.heap.size a n c ys U) := by
  obtain ⟨U, hU, Hd, _, Hy⟩ := box_new u 54 (.slice a n c)
  exact ⟨U, hU, hb.trans (Hd.out.mono hb.size), hl, Hy.out, hs.below Hd.out, hz⟩

theorem iat_cellA {W : World} {b off j : Nat} {l : List Int} (h : IAt W (some ⟨b, off, none⟩) l) (hj : j < l.length) : W.cell? ⟨b, off + j, none⟩ = some (.int .i64 (l[j]?.getD 0)) := by
  rcases h with h | ⟨b', off', e, h⟩
  · rw [h] at hj; simp at hj
  · cases e; exact h j hj
/-- An append to a row of one's own, where a guard has said yes. -/
theorem wpList_append_own_if {P : Program} {ops : Array Oper} {rest : List Oper} {o : Oper} {a : Act} {w : World} {Q : Exit → Act → World → Prop}
    (hw : Region.wanted o (yielded ops a.tmps) = true) (s x : Operand) (t : TypeId) (hop : o.op = Op.call { callee := Callee.builtin Builtin.append, args := #[s, x], argTypes := #[t, t] })
    (base : Nat) (e : TypeId) (i : TypeInfo) (z : Value) (size bytes : Nat) (h1 : P.underlying t = some (.slice e)) (h2 : P.info? e = some i) (h3 : i.zero = some z) (h4 : i.size = size) (h5 : i.bytes = bytes) (h6 : z.cells.size = size) (h7 : 0 < size)
    (v : Value) (k : Nat) (xs : List Value) (hs : a.eval s = v) (hown : w.ownsRow base e size v k xs) (ad : Addr) (m c : Nat) (news : List Value) (hx : a.eval x = .slice (some ad) m c) (hn : news.length = m * size)
    (hc : ∀ j u, news[j]? = some u → w.cell? (ad.add j) = some u) (h1c : ∀ u ∈ news, u.oneCell' = true) (b1 : k + m ≤ maxLen) (b2 : (k + m) * bytes ≤ 140737488355328) (b3 : base ≤ w.heap.size)
    (hK : ∀ v' w', w'.ownsRow base e size v' (k + m) (xs ++ news) → w.grownBy w' v.ownBlock → wpList P ops Q rest (a.put o.dst v') w') : wpList P ops Q (o :: rest) a w := by
  refine wpList_step fun K hK' => ?_
  rw [if_pos hw]
  obtain ⟨v', w', hrun, r1, r2, _⟩ := run_append_own (P := P) w base t o.type e i z size bytes h1 h2 h3 h4 h5 h6 h7 v k xs hown ad m c news hn hc h1c b1 b2 b3
  unfold Oper.wp
  simp [execOp, hop, resolve, invoke, builtin, hs, hx, hrun, Result.andThen]
  exact hK' _ _ (hK v' w' r1 r2)

theorem len_int1 (a : Option Addr) (n c : Nat) (w : World) : Calls Tryz.prog 27 #[.agg #[.slice a (n + 1) c]] w fun e w' => e = .returned (.int .i64 ((n : Int) + 1)) ∧ Hid (Below w.heap.size w w') := len_int a (n + 1) c w
theorem len_str0 (w : World) : Calls Tryz.prog 28 #[.agg #[.slice none 0 0]] w fun e w' => e = .returned (.int .i64 0) ∧ Hid (Below w.heap.size w w') := len_str none 0 0 w
theorem str_and (W : World) : Calls Tryz.prog 29 #[.agg #[.slice none 0 0], .string ⟨#[120]⟩] W fun e w' => ∃ v', e = .returned (.agg #[v']) ∧ ∃ a c, v' = .slice a 1 c ∧ SlAt w' a [.string ⟨#[120]⟩] ∧ Below W.heap.size W w' :=
  (and_str none 0 0 [] rfl (by simp) (by decide) ⟨#[120]⟩ W (.inl ⟨rfl, rfl⟩) (fun _ => rfl)).mono fun _ _ ⟨v', e, h⟩ => ⟨v', e, by obtain ⟨a, c, e1, hs, _⟩ := row_sl h.out.1; exact ⟨a, c, e1, hs, h.out.2⟩⟩
theorem str_all (W : World) (a : Option Addr) (c : Nat) (hs : SlAt W a [.string ⟨#[120]⟩]) : Calls Tryz.prog 30 #[.agg #[.slice a 1 c]] W fun e w' => ∃ v', e = .returned v' ∧ ∃ a c, v' = .slice a 1 c ∧ Below W.heap.size W w' :=
  (all_str a 1 c [.string ⟨#[120]⟩] rfl (by intro u hu; simp at hu; subst hu; rfl) (by decide) W hs).mono fun _ _ ⟨v', e, h⟩ => ⟨v', e, by obtain ⟨a, c, e1, _, _⟩ := row_sl h.out.1; exact ⟨a, c, e1, h.out.2⟩⟩

structure Ent where
  b : Nat
  a : Option Addr
  n : Nat
  c : Nat
  zs : List Int
/-- What lies while the lists are compared. -/
structure Bun (w : World) (e9 e11 e12 e13 e14 : Ent) (aw : Option Addr) (ww : List Int) (V : World) : Prop where
  l9 : LB e9.b e9.a e9.n e9.c e9.zs V
  l11 : LB e11.b e11.a e11.n e11.c e11.zs V
  l12 : LB e12.b e12.a e12.n e12.c e12.zs V
  l13 : LB e13.b e13.a e13.n e13.c e13.zs V
  l14 : LB e14.b e14.a e14.n e14.c e14.zs V
  want : SlAt V aw (ic ww)
  below : Below w.heap.size w V
theorem Bun.next {w V V' : World} {e9 e11 e12 e13 e14 : Ent} {aw : Option Addr} {ww : List Int} (h : Bun w e9 e11 e12 e13 e14 aw ww V) (hb : Below V.heap.size V V') : Bun w e9 e11 e12 e13 e14 aw ww V' :=
  ⟨h.l9.next hb, h.l11.next hb, h.l12.next hb, h.l13.next hb, h.l14.next hb, h.want.below hb, h.below.trans (hb.mono h.below.size)⟩
/-- Behind an append to what Ints has just answered. -/
theorem app_row {U u u' w' : World} {n m : Nat} {v v' : Value} {l : List Int} {ys : List Value} {zs : List Int} {o : Obj} (hb : Below U.heap.size U u) (h : u'.ownsRow u.heap.size 3 1 v n (ic l)) (hu : Below u.heap.size u u') (hr : w'.ownsRow u.heap.size 3 1 v' (n + m) (ic l ++ ys)) (hg : (u'.alloc o).grownBy w' v.ownBlock) (e : ic l ++ ys = ic zs) :
    Hid (Below U.heap.size U w') ∧ ∃ a c, v' = .slice a (n + m) c ∧ Hid (IAt w' a zs) ∧ zs.length = n + m := by
  have h3 : Below u.heap.size u w' := (hu.alloc hu.size o).grown hg (by simp; exact Nat.le_succ_of_le hu.size) (fun k hk => (h.lt k hk).1)
  rw [e] at hr
  obtain ⟨a, c, e1, hs, _⟩ := row_sl hr
  exact ⟨hb.trans (h3.mono hb.size), a, c, e1, SlAt.ints hs, by have := hr.1; simpa using this⟩

set_option maxRecDepth 100000 in
set_option maxHeartbeats 4000000 in
theorem lists_any (a : Option Addr) (c : Nat) (l : List Int) (i x : Int) (w : World) (hG : Glob 212 er w) (h : IAt w a l) :
    Calls Tryz.prog 4 #[.slice a l.length c, .int .i64 i, .int .i64 x] w fun e w' => e = .returned (.bool true) ∧ Hid (Below w.heap.size w w') := by
  obtain ⟨i0, hi, hz0, hz1, hz2⟩ := info_parts (P := Tryz.prog) (e := 3) (z := .int .i64 0) (size := 1) (bytes := 8) (by kernel_rfl)
  have HF := Lib.hid (first_any w hG)
  have H := Lib.hid h
  clear hG h
  by_cases hbig : 1000 < l.length
  · have hb2 : decide ((l.length : Int) > 1000) = true := by simp; omega
    go_enter Tryz.func4, Tryz.ntmps4
    go_wp2_with (first | (go_at_call 8; refine HF.out.mono ?_; rintro e w1 ⟨rfl, h1⟩))
    go_ret
    exact ⟨rfl, h1.out⟩
  have Hi := Lib.hid (fun W (hb : Below w.heap.size w W) => ints_any a l.length c l rfl (by omega) W (H.out.below hb))
  have hb2 : decide ((l.length : Int) > 1000) = false := by simp; omega
  have Hn : Hid (l.length ≤ 1000) := by show _ ≤ _; omega
  have hsm : l.length ≤ 1000 := Hn.out
  clear hbig
  go_enter Tryz.func4, Tryz.ntmps4
  go_wp2_with (first
    | (go_at_call 8; refine HF.out.mono ?_; rintro e w1 ⟨rfl, h1⟩)
    | (go_at_call 21; refine (Hi.out _ h1.out).mono ?_; rintro e w2 ⟨v2, rfl, h2⟩)
    | (at_builtin; refine wpList_append_own _ rfl _ _ 37 rfl w1.heap.size 3 i0 (.int .i64 0) 1 8 Tryz.underlying37 hi hz0 hz1 hz2 rfl (by decide) v2 l.length (ic l) rfl (h2.out.1.alloc _) ⟨w2.heap.size, 0, none⟩ 2 2 [.int .i64 47, .int .i64 11] rfl rfl (news_new _ _ _) (one2 _ _) (by unfold maxLen; have := Hn.out; omega) (by have := Hn.out; omega) (by simp; exact Nat.le_succ_of_le h2.out.2.size) ?_))
  intro v3 w3 hown3 hgrow3 hnil3
  clear hnil3
  have hB3 : Hid (Below w1.heap.size w1 w3) := (h2.out.2.alloc h2.out.2.size _).grown hgrow3 (by simp; exact Nat.le_succ_of_le h2.out.2.size) (fun k hk => (h2.out.1.lt k hk).1)
  have hw3 : Hid (Below w.heap.size w w3) := h1.out.trans (hB3.out.mono h1.out.size)
  obtain ⟨g, c3, rfl, hg, hgl⟩ := row_pos hown3 (by omega)
  have Hg : Hid (w1.heap.size ≤ g ∧ g < w3.heap.size) := ⟨hg, hgl⟩
  have Hown3 := Lib.hid hown3
  clear hown3 hgrow3 hg hgl
  obtain ⟨_, _, e3, hsl3, hc3⟩ := row_sl Hown3.out
  cases e3
  have Hof := Lib.hid (of_int (some ⟨g, 0, none⟩) l.length c3 (ic l) (ic_len l) (ic_one l) (by omega) w3 (hsl3.front (by simp)))
  have hsh := slice_high g (l.length + 2) c3 l.length l.length rfl (by omega)
  clear hsl3 hc3
  go_wp2_with (first
    | (go_at_call 22; refine Hof.out.mono ?_; rintro e w4 ⟨v4, rfl, h4⟩; obtain ⟨a4, c4, rfl, -, -⟩ := row_sl h4.out.1; obtain ⟨W5, hW5, Hb5, hs5, Hx5⟩ := box_new w4 54 (.slice a4 l.length c4)))
  have HL5 : Hid (LB w4.heap.size a4 l.length c4 l W5) := ⟨rfl, Hx5.out, (row_sl0 h4.out.1).1.below Hb5.out, (row_sl0 h4.out.1).2⟩
  have hw5 : Hid (Below w.heap.size w W5) := (hw3.out.trans (h4.out.2.mono hw3.out.size)).trans (Hb5.out.mono (Nat.le_trans hw3.out.size h4.out.2.size))
  have Hown5 : Hid (W5.ownsRow w1.heap.size 3 1 (.slice (some ⟨g, 0, none⟩) (l.length + 2) c3) (l.length + 2) _) := ownsRow_below (ownsRow_below Hown3.out h4.out.2) Hb5.out
  have Hfar : Hid (w4.heap.size ≠ g ∧ ∀ b off, a4 = some ⟨b, off, none⟩ → b ≠ g) := ⟨by have := h4.out.2.size; have := Hg.out.2; omega, fun b off e => by have := row_far h4.out.1 b off e; have := Hg.out.2; omega⟩
  have Hwg : Hid (w.heap.size ≤ g) := Nat.le_trans h1.out.size Hg.out.1
  clear Hown3 Hof hsh Hb5 Hx5 hs5 h4 HF
  go_loopw [10] (fun j wr => ∃ (k : Nat) (xs : List Value), k ≤ l.length + 2 ∧ j = .int .i64 k ∧ Hid (wr.ownsRow w1.heap.size 3 1 (.slice (some ⟨g, 0, none⟩) (l.length + 2) c3) (l.length + 2) xs ∧ OnlyG g W5 wr ∧ Below w.heap.size w wr)) (fun j _ => l.length + 2 - (intOf j).toNat)
  case atStart => exact ⟨0, _, Nat.zero_le _, rfl, Hown5.out, ⟨fun _ _ => rfl, rfl⟩, hw5.out⟩
  case round =>
    obtain ⟨k, xs, hk, rfl, HR⟩ := hrel
    by_cases hlt : k < l.length + 2
    · obtain ⟨u0, hu0⟩ : ∃ u0, xs[k]? = some u0 := ⟨_, List.getElem?_eq_getElem (by rw [HR.out.1.1]; omega)⟩
      have hu1 := HR.out.1.cells (g := g) rfl k _ hu0
      rw [Addr.add_lit, Nat.zero_add] at hu1
      have hf1 := HR.out.1.frozenAt k
      clear hu0
      go_wp2
      go_roundw
      case rel => exact ⟨k + 1, _, by omega, by go_num, (HR.out.1.stored k (.int .i64 (-9))).1, ⟨fun j hj => (Below.heap_setCell _ _ _ _ hj).trans (HR.out.2.1.same j hj), by rw [World.size_setCell]; exact HR.out.2.1.size⟩, HR.out.2.2.setCell (p := ⟨g, k, none⟩) Hwg.out _⟩
      case measure => simp [intOf]; omega
    · have HA : Hid (Below w.heap.size w wr) := HR.out.2.2
      have HL : Hid (LB w4.heap.size a4 l.length c4 l wr) := HL5.out.onlyG HR.out.2.1 Hfar.out.1 Hfar.out.2
      have hkl : k = l.length + 2 := by omega
      subst hkl
      clear HR Hown5 hw5 HL5 hlt hk Hfar h1 h2 hB3 hw3 Hg Hwg hb2 hW5
      generalize w4.heap.size = b9 at *
      have c9 := HL.out.box.cell
      by_cases hin : 0 ≤ i ∧ i < l.length
      · obtain ⟨j, rfl⟩ : ∃ j : Nat, i = j := ⟨i.toNat, by omega⟩
        have hj : j < l.length := by omega
        clear hin
        rcases H.out with hz | ⟨b, off, rfl, -⟩
        · rw [hz] at hj; exact absurd hj (by simp)
        have HW := Lib.hid (ll_with_in wr a4 l.length c4 l rfl (by omega) j hj x HL.out.sl)
        go_wp2_with (first
          | (go_at_call 23; (with_reducible refine HW.out.mono ?_); rintro e u1 ⟨v, rfl, l1, a11, c11, rfl, n1, s1, b1⟩; obtain ⟨U1, hU1, D1, L11⟩ := lb_new l1 n1 s1 b1; have L9 := Lib.hid (HL.out.next D1.out); have B1 := Lib.hid (HA.out.trans (D1.out.mono HA.out.size)); clear HW c9 l1 n1 s1 b1 D1; have d9 := L9.out.box.cell; have HN1 := Lib.hid (ll_and U1 a4 l.length c4 l rfl (by omega) x L9.out.sl L9.out.nz))
          | (go_at_call 24; first
            | ((with_reducible refine HN1.out.mono ?_); rintro e u2 ⟨v, rfl, l2, a12, c12, rfl, n2, s2, b2⟩; obtain ⟨U2, hU2, D2, L12⟩ := lb_new l2 n2 s2 b2; have M9 := Lib.hid (L9.out.next D2.out); have M11 := Lib.hid (L11.out.next D2.out); have B2 := Lib.hid (B1.out.trans (D2.out.mono B1.out.size)); clear HN1 d9 l2 n2 s2 b2 D2; have d12 := L12.out.box.cell; have HN2 := Lib.hid (fun y => ll_and U2 a12 (l.length + 1) c12 (l ++ [x]) L12.out.len (by omega) y L12.out.sl L12.out.nz))
            | ((with_reducible refine (HN2.out _).mono ?_); rintro e u3 ⟨v, rfl, l3, a13, c13, rfl, n3, s3, b3⟩; obtain ⟨U3, hU3, D3, L13⟩ := lb_new l3 n3 s3 b3; have N9 := Lib.hid (M9.out.next D3.out); have N11 := Lib.hid (M11.out.next D3.out); have N12 := Lib.hid (L12.out.next D3.out); have B3 := Lib.hid (B2.out.trans (D3.out.mono B2.out.size)); clear HN2 d12 l3 n3 s3 b3 D3; have d12 := N12.out.box.cell; have HN3 := Lib.hid (fun y => ll_and U3 a12 (l.length + 1) c12 (l ++ [x]) N12.out.len (by omega) y N12.out.sl N12.out.nz))
            | ((with_reducible refine (HN3.out _).mono ?_); rintro e u4 ⟨v, rfl, l4, a14, c14, rfl, n4, s4, b4⟩; obtain ⟨U4, hU4, D4, L14⟩ := lb_new l4 n4 s4 b4; have O9 := Lib.hid (N9.out.next D4.out); have O11 := Lib.hid (N11.out.next D4.out); have O12 := Lib.hid (N12.out.next D4.out); have O13 := Lib.hid (L13.out.next D4.out); have B4 := Lib.hid (B3.out.trans (D4.out.mono B3.out.size)); have Hi2 := Lib.hid (Hi.out U4 B4.out); clear HN3 d12 l4 n4 s4 b4 D4))
          | (go_at_call 21; first
            | ((with_reducible refine Hi2.out.mono ?_); rintro e u5 ⟨v15, rfl, h5⟩; obtain ⟨g5, c15, rfl, G5, -⟩ := row_pos h5.out.1 (by omega); have P9 := Lib.hid (O9.out.next h5.out.2); have d9 := P9.out.box.cell; clear Hi2; have HT := Lib.hid (ll_at_in u5 a4 l.length c4 l rfl (by omega) j hj P9.out.sl))
            | ((with_reducible refine Hi3.out.mono ?_); rintro e u12 ⟨v25, rfl, h12⟩; clear Hi3)
            | ((with_reducible refine Hi4.out.mono ?_); rintro e u16 ⟨v26, rfl, h16⟩; clear Hi4)
            | ((with_reducible refine Hi5.out.mono ?_); rintro e u20 ⟨v27, rfl, h20⟩; clear Hi5))
          | (go_at_call 25; (with_reducible refine HT.out.mono ?_); rintro e u6 ⟨rfl, h6⟩; obtain ⟨V6, hV6⟩ : ∃ V, u6.setCell ⟨g5, j, none⟩ (.int .i64 x) = V := ⟨_, rfl⟩; have r6 := ownsRow_below h5.out.1 h6.out; have q6 := r6.cells (g := g5) rfl j (.int .i64 (l[j]?.getD 0)) (by rw [List.getElem?_map, List.getElem?_eq_getElem hj]; rfl); rw [Addr.add_lit, Nat.zero_add] at q6; have f6 := r6.frozenAt j; have E6 : Hid (Below U4.heap.size U4 V6) := hV6 ▸ ((h5.out.2.trans (h6.out.mono h5.out.2.size)).setCell (p := ⟨g5, j, none⟩) G5 (.int .i64 x)); have Z6 : Hid (Bun w ⟨b9, a4, l.length, c4, l⟩ ⟨u1.heap.size, a11, l.length, c11, l.set j x⟩ ⟨u2.heap.size, a12, l.length + 1, c12, l ++ [x]⟩ ⟨u3.heap.size, a13, l.length + 1 + 1, c13, l ++ [x] ++ [_]⟩ ⟨u4.heap.size, a14, l.length + 1 + 1, c14, l ++ [x] ++ [_]⟩ (some ⟨g5, 0, none⟩) (l.set j x) V6) := ⟨O9.out.next E6.out, O11.out.next E6.out, O12.out.next E6.out, O13.out.next E6.out, L14.out.next E6.out, (by rw [← ic_set, ← hV6]; exact (row_sl0 (r6.stored j (.int .i64 x)).1).1), B4.out.trans (E6.out.mono B4.out.size)⟩; have qa := iat_cellA (H.out.below Z6.out.below) hj; clear r6 HT d9; have d9 : V6.cell? ⟨b9, 0, none⟩ = some (.slice a4 l.length c4) := Z6.out.l9.box.cell; have HS1 := Lib.hid (ll_all V6 a4 l.length c4 l rfl (by omega) Z6.out.l9.sl))
          | (go_at_call 26; first
            | ((with_reducible refine HS1.out.mono ?_); rintro e u7 ⟨v, rfl, l7, a20, c20, rfl, n7, s7, b7⟩; have Z7 := Lib.hid (Z6.out.next b7); have HE1 := Lib.hid (ll_same u7 a20 (some ⟨b, off, none⟩) l.length c20 c l l rfl (by omega) (SlAt.ints s7) (H.out.below Z7.out.below) rfl); clear HS1 l7 n7 s7 b7 qa d9)
            | ((with_reducible refine HS2.out.mono ?_); rintro e u9 ⟨v, rfl, l7, a21, c21, rfl, n7, s7, b7⟩; have Z9 := Lib.hid (Z8.out.next b7); have HE2 := Lib.hid (ll_same u9 a21 (some ⟨g5, 0, none⟩) l.length c21 c15 (l.set j x) (l.set j x) (by simp) (by omega) (SlAt.ints s7) (SlAt.ints Z9.out.want) rfl); clear HS2 l7 n7 s7 b7 d9)
            | ((with_reducible refine HS3.out.mono ?_); rintro e u11 ⟨v, rfl, l7, a22, c22, rfl, n7, s7, b7⟩; have Z11 := Lib.hid (Z10.out.next b7); have S11 := Lib.hid s7; have Hi3 := Lib.hid (Hi.out u11 Z11.out.below); clear HS3 l7 n7 s7 b7 d9)
            | ((with_reducible refine HS4.out.mono ?_); rintro e u15 ⟨v, rfl, l7, a23, c23, rfl, n7, s7, b7⟩; have Z15 := Lib.hid (Z14.out.next b7); have S15 := Lib.hid s7; have m15 := Lib.hid l7; have Hi4 := Lib.hid (Hi.out u15 Z15.out.below); clear HS4 l7 n7 s7 b7 d9)
            | ((with_reducible refine HS5.out.mono ?_); rintro e u19 ⟨v, rfl, l7, a24, c24, rfl, n7, s7, b7⟩; have Z19 := Lib.hid (Z18.out.next b7); have S19 := Lib.hid s7; have m19 := Lib.hid l7; have Hi5 := Lib.hid (Hi.out u19 Z19.out.below); clear HS5 l7 n7 s7 b7 d9))
          | (go_at_call 16; first
            | ((with_reducible refine HE1.out.mono ?_); rintro e u8 ⟨rfl, h8⟩; have Z8 := Lib.hid (Z7.out.next h8.out); clear HE1 h8; have d9 : u8.cell? ⟨u1.heap.size, 0, none⟩ = some (.slice a11 l.length c11) := Z8.out.l11.box.cell; have HS2 := Lib.hid (ll_all u8 a11 l.length c11 (l.set j x) Z8.out.l11.len (by omega) Z8.out.l11.sl))
            | ((with_reducible refine HE2.out.mono ?_); rintro e u10 ⟨rfl, h8⟩; have Z10 := Lib.hid (Z9.out.next h8.out); clear HE2 h8; have d9 : u10.cell? ⟨u2.heap.size, 0, none⟩ = some (.slice a12 (l.length + 1) c12) := Z10.out.l12.box.cell; have HS3 := Lib.hid (ll_all u10 a12 (l.length + 1) c12 (l ++ [x]) Z10.out.l12.len (by omega) Z10.out.l12.sl))
            | ((with_reducible refine HE3.out.mono ?_); rintro e u14 ⟨rfl, h8⟩; have Z14 := Lib.hid (Z13.out.next h8.out); clear HE3 h8; have d9 : u14.cell? ⟨u3.heap.size, 0, none⟩ = some (.slice a13 (l.length + 1 + 1) c13) := Z14.out.l13.box.cell; have HS4 := Lib.hid (ll_all u14 a13 (l.length + 1 + 1) c13 _ Z14.out.l13.len (by omega) Z14.out.l13.sl))
            | ((with_reducible refine HE4.out.mono ?_); rintro e u18 ⟨rfl, h8⟩; have Z18 := Lib.hid (Z17.out.next h8.out); clear HE4 h8; have d9 : u18.cell? ⟨u4.heap.size, 0, none⟩ = some (.slice a14 (l.length + 1 + 1) c14) := Z18.out.l14.box.cell; have HS5 := Lib.hid (ll_all u18 a14 (l.length + 1 + 1) c14 _ Z18.out.l14.len (by omega) Z18.out.l14.sl))
            | ((with_reducible refine HE5.out.mono ?_); rintro e u22 ⟨rfl, h8⟩; have Z22 := Lib.hid (Z21.out.next h8.out); clear HE5 h8; obtain ⟨U23, hU23, Hd23, _, Hz23⟩ := box_new u22 63 (.slice none 0 0); have Z23 := Lib.hid (Z22.out.next Hd23.out); have d9 : U23.cell? ⟨b9, 0, none⟩ = some (.slice a4 l.length c4) := Z23.out.l9.box.cell; have HK1 := Lib.hid (len_int a4 l.length c4 U23)))
          | (go_at_call 27; first
            | ((with_reducible refine HK1.out.mono ?_); rintro e u24 ⟨rfl, h8⟩; have Z24 := Lib.hid (Z23.out.next h8.out); have Hz24 := Lib.hid (boxed_below Hz23.out h8.out (Array.getElem?_eq_some_iff.1 Hz23.out).1); clear HK1 h8 d9; have d9 : u24.cell? ⟨u2.heap.size, 0, none⟩ = some (.slice a12 (l.length + 1) c12) := Z24.out.l12.box.cell; have HK2 := Lib.hid (len_int1 a12 l.length c12 u24))
            | ((with_reducible refine HK2.out.mono ?_); rintro e u25 ⟨rfl, h8⟩; have Z25 := Lib.hid (Z24.out.next h8.out); have Hz25 := Lib.hid (boxed_below Hz24.out h8.out (Array.getElem?_eq_some_iff.1 Hz24.out).1); clear HK2 h8 d9; have d9 := Hz25.out.cell; have HK3 := Lib.hid (len_str0 u25)))
          | (go_at_call 28; (with_reducible refine HK3.out.mono ?_); rintro e u26 ⟨rfl, h8⟩; have Z26 := Lib.hid (Z25.out.next h8.out); have Hz26 := Lib.hid (boxed_below Hz25.out h8.out (Array.getElem?_eq_some_iff.1 Hz25.out).1); clear HK3 h8 d9; have d9 := Hz26.out.cell; have HK4 := Lib.hid (str_and u26))
          | (go_at_call 29; (with_reducible refine HK4.out.mono ?_); rintro e u27 ⟨v, rfl, ⟨a28, c28, rfl, s28, b28⟩⟩; have Z27 := Lib.hid (Z26.out.next b28); have HK5 := Lib.hid (str_all u27 a28 c28 s28); clear HK4 d9 s28 b28)
          | (go_at_call 30; (with_reducible refine HK5.out.mono ?_); rintro e u28 ⟨v, rfl, ⟨a29, c29, rfl, b29⟩⟩; have Z28 := Lib.hid (Z27.out.next b29); clear HK5 b29)
          | (at_builtin; refine wpList_append_own _ rfl _ _ 37 rfl u11.heap.size 3 i0 (.int .i64 0) 1 8 Tryz.underlying37 hi hz0 hz1 hz2 rfl (by decide) v25 l.length (ic l) rfl (h12.out.1.alloc _) ⟨u12.heap.size, 0, none⟩ 1 1 [.int .i64 x] rfl rfl (news_new _ _ _) (one1 _) (by unfold maxLen; omega) (by omega) (by simp; exact Nat.le_succ_of_le h12.out.2.size) ?_; intro v' u13 r13 g13 z13; clear z13; obtain ⟨D13, a25, c25, rfl, I13, l13⟩ := app_row (U := u11) (zs := l ++ [x]) (Below.refl _ _) h12.out.1 h12.out.2 r13 g13 (ic_snoc _ _); have Z13 := Lib.hid (Z11.out.next D13.out); have HE3 := Lib.hid (ll_same u13 a22 a25 (l.length + 1) c22 c25 (l ++ [x]) (l ++ [x]) l13 (by omega) (SlAt.ints (S11.out.below D13.out)) I13.out rfl); clear h12 r13 g13 D13 I13 l13 S11)
          | (at_builtin; refine wpList_append_own _ rfl _ _ 37 rfl u15.heap.size 3 i0 (.int .i64 0) 1 8 Tryz.underlying37 hi hz0 hz1 hz2 rfl (by decide) v26 l.length (ic l) rfl (h16.out.1.alloc _) ⟨u16.heap.size, 0, none⟩ 2 2 [.int .i64 x, .int .i64 _] rfl rfl (news_new _ #[_, _] _) (one2 _ _) (by unfold maxLen; omega) (by omega) (by simp; exact Nat.le_succ_of_le h16.out.2.size) ?_; intro v' u17 r17 g17 z17; clear z17; obtain ⟨D17, a26, c26, rfl, I17, l17⟩ := app_row (U := u15) (zs := l ++ [x, _]) (Below.refl _ _) h16.out.1 h16.out.2 r17 g17 (ic_two _ _ _); have Z17 := Lib.hid (Z15.out.next D17.out); have HE4 := Lib.hid (ll_same u17 a23 a26 (l.length + 1 + 1) c23 c26 _ _ m15.out (by omega) (SlAt.ints (S15.out.below D17.out)) I17.out (by simp)); clear h16 r17 g17 D17 I17 l17 S15)
          | (at_builtin; refine wpList_append_own_if rfl _ _ 37 rfl u19.heap.size 3 i0 (.int .i64 0) 1 8 Tryz.underlying37 hi hz0 hz1 hz2 rfl (by decide) v27 l.length (ic l) rfl (h20.out.1.alloc _) ⟨u20.heap.size, 0, none⟩ 2 2 [.int .i64 x, .int .i64 _] rfl rfl (news_new _ #[_, _] _) (one2 _ _) (by unfold maxLen; omega) (by omega) (by simp; exact Nat.le_succ_of_le h20.out.2.size) ?_; intro v' u21 r21 g21; obtain ⟨D21, a27, c27, rfl, I21, l21⟩ := app_row (U := u19) (zs := l ++ [x, _]) (Below.refl _ _) h20.out.1 h20.out.2 r21 g21 (ic_two _ _ _); have Z21 := Lib.hid (Z19.out.next D21.out); have HE5 := Lib.hid (ll_same u21 a24 a27 (l.length + 1 + 1) c24 c27 _ _ m19.out (by omega) (SlAt.ints (S19.out.below D21.out)) I21.out (by simp)); clear h20 r21 g21 D21 I21 l21 S19))
        go_ret
        exact ⟨rfl, Z28.out.below⟩
      · have Hno := Lib.hid hin
        have ho : i < 0 ∨ (0 ≤ i ∧ (l.length : Int) ≤ i) := by omega
        clear hin
        rcases ho with ho | ⟨ho0, ho⟩
        all_goals
          have HW := Lib.hid (ll_with_out wr a4 l.length c4 l rfl i Hno.out x HL.out.sl HL.out.nz)
          go_wp2_with (first
            | (go_at_call 23; (with_reducible refine HW.out.mono ?_); rintro e u1 ⟨v, rfl, l1, a11, c11, rfl, n1, s1, b1⟩; obtain ⟨U1, hU1, D1, L11⟩ := lb_new l1 n1 s1 b1; have L9 := Lib.hid (HL.out.next D1.out); have B1 := Lib.hid (HA.out.trans (D1.out.mono HA.out.size)); clear HW c9 l1 n1 s1 b1 D1; have d9 := L9.out.box.cell; have HN1 := Lib.hid (ll_and U1 a4 l.length c4 l rfl (by omega) x L9.out.sl L9.out.nz))
            | (go_at_call 24; first
              | ((with_reducible refine HN1.out.mono ?_); rintro e u2 ⟨v, rfl, l2, a12, c12, rfl, n2, s2, b2⟩; obtain ⟨U2, hU2, D2, L12⟩ := lb_new l2 n2 s2 b2; have M9 := Lib.hid (L9.out.next D2.out); have M11 := Lib.hid (L11.out.next D2.out); have B2 := Lib.hid (B1.out.trans (D2.out.mono B1.out.size)); clear HN1 d9 l2 n2 s2 b2 D2; have d12 := L12.out.box.cell; have HN2 := Lib.hid (fun y => ll_and U2 a12 (l.length + 1) c12 (l ++ [x]) L12.out.len (by omega) y L12.out.sl L12.out.nz))
              | ((with_reducible refine (HN2.out _).mono ?_); rintro e u3 ⟨v, rfl, l3, a13, c13, rfl, n3, s3, b3⟩; obtain ⟨U3, hU3, D3, L13⟩ := lb_new l3 n3 s3 b3; have N9 := Lib.hid (M9.out.next D3.out); have N11 := Lib.hid (M11.out.next D3.out); have N12 := Lib.hid (L12.out.next D3.out); have B3 := Lib.hid (B2.out.trans (D3.out.mono B2.out.size)); clear HN2 d12 l3 n3 s3 b3 D3; have d12 := N12.out.box.cell; have HN3 := Lib.hid (fun y => ll_and U3 a12 (l.length + 1) c12 (l ++ [x]) N12.out.len (by omega) y N12.out.sl N12.out.nz))
              | ((with_reducible refine (HN3.out _).mono ?_); rintro e u4 ⟨v, rfl, l4, a14, c14, rfl, n4, s4, b4⟩; obtain ⟨U4, hU4, D4, L14⟩ := lb_new l4 n4 s4 b4; have O9 := Lib.hid (N9.out.next D4.out); have O11 := Lib.hid (N11.out.next D4.out); have O12 := Lib.hid (N12.out.next D4.out); have O13 := Lib.hid (L13.out.next D4.out); have B4 := Lib.hid (B3.out.trans (D4.out.mono B3.out.size)); have Hi2 := Lib.hid (Hi.out U4 B4.out); clear HN3 d12 l4 n4 s4 b4 D4))
            | (go_at_call 21; first
              | ((with_reducible refine Hi2.out.mono ?_); rintro e u5 ⟨v15, rfl, h5⟩; obtain ⟨a15, c15, rfl, s15, -⟩ := row_sl h5.out.1; have P9 := Lib.hid (O9.out.next h5.out.2); have d9 := P9.out.box.cell; clear Hi2; have HT := Lib.hid (ll_at_out u5 a4 l.length c4 l rfl (by omega) i Hno.out P9.out.sl))
              | ((with_reducible refine Hi3.out.mono ?_); rintro e u12 ⟨v25, rfl, h12⟩; clear Hi3)
              | ((with_reducible refine Hi4.out.mono ?_); rintro e u16 ⟨v26, rfl, h16⟩; clear Hi4)
              | ((with_reducible refine Hi5.out.mono ?_); rintro e u20 ⟨v27, rfl, h20⟩; clear Hi5))
            | (go_at_call 25; (with_reducible refine HT.out.mono ?_); rintro e u6 ⟨rfl, h6⟩; have E6 : Hid (Below U4.heap.size U4 u6) := h5.out.2.trans (h6.out.mono h5.out.2.size); have Z6 : Hid (Bun w ⟨b9, a4, l.length, c4, l⟩ ⟨u1.heap.size, a11, l.length, c11, l⟩ ⟨u2.heap.size, a12, l.length + 1, c12, l ++ [x]⟩ ⟨u3.heap.size, a13, l.length + 1 + 1, c13, l ++ [x] ++ [_]⟩ ⟨u4.heap.size, a14, l.length + 1 + 1, c14, l ++ [x] ++ [_]⟩ a15 l u6) := ⟨O9.out.next E6.out, O11.out.next E6.out, O12.out.next E6.out, O13.out.next E6.out, L14.out.next E6.out, s15.below h6.out, B4.out.trans (E6.out.mono B4.out.size)⟩; clear HT d9; have d9 : u6.cell? ⟨b9, 0, none⟩ = some (.slice a4 l.length c4) := Z6.out.l9.box.cell; have HS1 := Lib.hid (ll_all u6 a4 l.length c4 l rfl (by omega) Z6.out.l9.sl))
            | (go_at_call 26; first
              | ((with_reducible refine HS1.out.mono ?_); rintro e u7 ⟨v, rfl, l7, a20, c20, rfl, n7, s7, b7⟩; have Z7 := Lib.hid (Z6.out.next b7); have HE1 := Lib.hid (ll_same u7 a20 a l.length c20 c l l rfl (by omega) (SlAt.ints s7) (H.out.below Z7.out.below) rfl); clear HS1 l7 n7 s7 b7 d9)
              | ((with_reducible refine HS2.out.mono ?_); rintro e u9 ⟨v, rfl, l7, a21, c21, rfl, n7, s7, b7⟩; have Z9 := Lib.hid (Z8.out.next b7); have HE2 := Lib.hid (ll_same u9 a21 a15 l.length c21 c15 (l) (l) (by simp) (by omega) (SlAt.ints s7) (SlAt.ints Z9.out.want) rfl); clear HS2 l7 n7 s7 b7 d9)
              | ((with_reducible refine HS3.out.mono ?_); rintro e u11 ⟨v, rfl, l7, a22, c22, rfl, n7, s7, b7⟩; have Z11 := Lib.hid (Z10.out.next b7); have S11 := Lib.hid s7; have Hi3 := Lib.hid (Hi.out u11 Z11.out.below); clear HS3 l7 n7 s7 b7 d9)
              | ((with_reducible refine HS4.out.mono ?_); rintro e u15 ⟨v, rfl, l7, a23, c23, rfl, n7, s7, b7⟩; have Z15 := Lib.hid (Z14.out.next b7); have S15 := Lib.hid s7; have m15 := Lib.hid l7; have Hi4 := Lib.hid (Hi.out u15 Z15.out.below); clear HS4 l7 n7 s7 b7 d9)
              | ((with_reducible refine HS5.out.mono ?_); rintro e u19 ⟨v, rfl, l7, a24, c24, rfl, n7, s7, b7⟩; have Z19 := Lib.hid (Z18.out.next b7); have S19 := Lib.hid s7; have m19 := Lib.hid l7; have Hi5 := Lib.hid (Hi.out u19 Z19.out.below); clear HS5 l7 n7 s7 b7 d9))
            | (go_at_call 16; first
              | ((with_reducible refine HE1.out.mono ?_); rintro e u8 ⟨rfl, h8⟩; have Z8 := Lib.hid (Z7.out.next h8.out); clear HE1 h8; have d9 : u8.cell? ⟨u1.heap.size, 0, none⟩ = some (.slice a11 l.length c11) := Z8.out.l11.box.cell; have HS2 := Lib.hid (ll_all u8 a11 l.length c11 (l) Z8.out.l11.len (by omega) Z8.out.l11.sl))
              | ((with_reducible refine HE2.out.mono ?_); rintro e u10 ⟨rfl, h8⟩; have Z10 := Lib.hid (Z9.out.next h8.out); clear HE2 h8; have d9 : u10.cell? ⟨u2.heap.size, 0, none⟩ = some (.slice a12 (l.length + 1) c12) := Z10.out.l12.box.cell; have HS3 := Lib.hid (ll_all u10 a12 (l.length + 1) c12 (l ++ [x]) Z10.out.l12.len (by omega) Z10.out.l12.sl))
              | ((with_reducible refine HE3.out.mono ?_); rintro e u14 ⟨rfl, h8⟩; have Z14 := Lib.hid (Z13.out.next h8.out); clear HE3 h8; have d9 : u14.cell? ⟨u3.heap.size, 0, none⟩ = some (.slice a13 (l.length + 1 + 1) c13) := Z14.out.l13.box.cell; have HS4 := Lib.hid (ll_all u14 a13 (l.length + 1 + 1) c13 _ Z14.out.l13.len (by omega) Z14.out.l13.sl))
              | ((with_reducible refine HE4.out.mono ?_); rintro e u18 ⟨rfl, h8⟩; have Z18 := Lib.hid (Z17.out.next h8.out); clear HE4 h8; have d9 : u18.cell? ⟨u4.heap.size, 0, none⟩ = some (.slice a14 (l.length + 1 + 1) c14) := Z18.out.l14.box.cell; have HS5 := Lib.hid (ll_all u18 a14 (l.length + 1 + 1) c14 _ Z18.out.l14.len (by omega) Z18.out.l14.sl))
              | ((with_reducible refine HE5.out.mono ?_); rintro e u22 ⟨rfl, h8⟩; have Z22 := Lib.hid (Z21.out.next h8.out); clear HE5 h8; obtain ⟨U23, hU23, Hd23, _, Hz23⟩ := box_new u22 63 (.slice none 0 0); have Z23 := Lib.hid (Z22.out.next Hd23.out); have d9 : U23.cell? ⟨b9, 0, none⟩ = some (.slice a4 l.length c4) := Z23.out.l9.box.cell; have HK1 := Lib.hid (len_int a4 l.length c4 U23)))
            | (go_at_call 27; first
              | ((with_reducible refine HK1.out.mono ?_); rintro e u24 ⟨rfl, h8⟩; have Z24 := Lib.hid (Z23.out.next h8.out); have Hz24 := Lib.hid (boxed_below Hz23.out h8.out (Array.getElem?_eq_some_iff.1 Hz23.out).1); clear HK1 h8 d9; have d9 : u24.cell? ⟨u2.heap.size, 0, none⟩ = some (.slice a12 (l.length + 1) c12) := Z24.out.l12.box.cell; have HK2 := Lib.hid (len_int1 a12 l.length c12 u24))
              | ((with_reducible refine HK2.out.mono ?_); rintro e u25 ⟨rfl, h8⟩; have Z25 := Lib.hid (Z24.out.next h8.out); have Hz25 := Lib.hid (boxed_below Hz24.out h8.out (Array.getElem?_eq_some_iff.1 Hz24.out).1); clear HK2 h8 d9; have d9 := Hz25.out.cell; have HK3 := Lib.hid (len_str0 u25)))
            | (go_at_call 28; (with_reducible refine HK3.out.mono ?_); rintro e u26 ⟨rfl, h8⟩; have Z26 := Lib.hid (Z25.out.next h8.out); have Hz26 := Lib.hid (boxed_below Hz25.out h8.out (Array.getElem?_eq_some_iff.1 Hz25.out).1); clear HK3 h8 d9; have d9 := Hz26.out.cell; have HK4 := Lib.hid (str_and u26))
            | (go_at_call 29; (with_reducible refine HK4.out.mono ?_); rintro e u27 ⟨v, rfl, ⟨a28, c28, rfl, s28, b28⟩⟩; have Z27 := Lib.hid (Z26.out.next b28); have HK5 := Lib.hid (str_all u27 a28 c28 s28); clear HK4 d9 s28 b28)
            | (go_at_call 30; (with_reducible refine HK5.out.mono ?_); rintro e u28 ⟨v, rfl, ⟨a29, c29, rfl, b29⟩⟩; have Z28 := Lib.hid (Z27.out.next b29); clear HK5 b29)
            | (at_builtin; refine wpList_append_own _ rfl _ _ 37 rfl u11.heap.size 3 i0 (.int .i64 0) 1 8 Tryz.underlying37 hi hz0 hz1 hz2 rfl (by decide) v25 l.length (ic l) rfl (h12.out.1.alloc _) ⟨u12.heap.size, 0, none⟩ 1 1 [.int .i64 x] rfl rfl (news_new _ _ _) (one1 _) (by unfold maxLen; omega) (by omega) (by simp; exact Nat.le_succ_of_le h12.out.2.size) ?_; intro v' u13 r13 g13 z13; clear z13; obtain ⟨D13, a25, c25, rfl, I13, l13⟩ := app_row (U := u11) (zs := l ++ [x]) (Below.refl _ _) h12.out.1 h12.out.2 r13 g13 (ic_snoc _ _); have Z13 := Lib.hid (Z11.out.next D13.out); have HE3 := Lib.hid (ll_same u13 a22 a25 (l.length + 1) c22 c25 (l ++ [x]) (l ++ [x]) l13 (by omega) (SlAt.ints (S11.out.below D13.out)) I13.out rfl); clear h12 r13 g13 D13 I13 l13 S11)
            | (at_builtin; refine wpList_append_own _ rfl _ _ 37 rfl u15.heap.size 3 i0 (.int .i64 0) 1 8 Tryz.underlying37 hi hz0 hz1 hz2 rfl (by decide) v26 l.length (ic l) rfl (h16.out.1.alloc _) ⟨u16.heap.size, 0, none⟩ 2 2 [.int .i64 x, .int .i64 _] rfl rfl (news_new _ #[_, _] _) (one2 _ _) (by unfold maxLen; omega) (by omega) (by simp; exact Nat.le_succ_of_le h16.out.2.size) ?_; intro v' u17 r17 g17 z17; clear z17; obtain ⟨D17, a26, c26, rfl, I17, l17⟩ := app_row (U := u15) (zs := l ++ [x, _]) (Below.refl _ _) h16.out.1 h16.out.2 r17 g17 (ic_two _ _ _); have Z17 := Lib.hid (Z15.out.next D17.out); have HE4 := Lib.hid (ll_same u17 a23 a26 (l.length + 1 + 1) c23 c26 _ _ m15.out (by omega) (SlAt.ints (S15.out.below D17.out)) I17.out (by simp)); clear h16 r17 g17 D17 I17 l17 S15)
            | (at_builtin; refine wpList_append_own_if rfl _ _ 37 rfl u19.heap.size 3 i0 (.int .i64 0) 1 8 Tryz.underlying37 hi hz0 hz1 hz2 rfl (by decide) v27 l.length (ic l) rfl (h20.out.1.alloc _) ⟨u20.heap.size, 0, none⟩ 2 2 [.int .i64 x, .int .i64 _] rfl rfl (news_new _ #[_, _] _) (one2 _ _) (by unfold maxLen; omega) (by omega) (by simp; exact Nat.le_succ_of_le h20.out.2.size) ?_; intro v' u21 r21 g21; obtain ⟨D21, a27, c27, rfl, I21, l21⟩ := app_row (U := u19) (zs := l ++ [x, _]) (Below.refl _ _) h20.out.1 h20.out.2 r21 g21 (ic_two _ _ _); have Z21 := Lib.hid (Z19.out.next D21.out); have HE5 := Lib.hid (ll_same u21 a24 a27 (l.length + 1 + 1) c24 c27 _ _ m19.out (by omega) (SlAt.ints (S19.out.below D21.out)) I21.out (by simp)); clear h20 r21 g21 D21 I21 l21 S19))
          go_ret
          exact ⟨rfl, Z28.out.below⟩
end Go.Proofs.YtcjfcomadcebnaaGreatDoor

/- Where two stores of the program differ. -/
namespace Go.Proofs.YtcjfcomadcebnaaGreatDoor
open Go.RowKit Go.Maps Go.WideMaps Go.WideElems Go.ChangeShapes Go.WideShapes
variable {T : TypeId} {er : Nat → Addr}

/-- Where two stores differ, below a place. -/
def difN (S U : List P3) (k : Nat) : List Int := ((List.range k).filter (fun i => decide (S[i]? ≠ U[i]?))).map (fun i : Nat => (i : Int))
theorem difN_all (S U : List P3) : difN S U (max S.length U.length) = difR S U := rfl
theorem difN_yes {S U : List P3} {k : Nat} (h : S[k]? ≠ U[k]?) : difN S U (k + 1) = difN S U k ++ [(k : Int)] := by simp [difN, List.range_succ, h]
theorem difN_no {S U : List P3} {k : Nat} (h : S[k]? = U[k]?) : difN S U (k + 1) = difN S U k := by simp [difN, List.range_succ, h]
theorem difN_len (S U : List P3) (k : Nat) : (difN S U k).length ≤ k := by
  unfold difN
  rw [List.length_map]
  have := List.length_filter_le (fun i => decide (S[i]? ≠ U[i]?)) (List.range k)
  rwa [List.length_range] at this
theorem difR_len (S U : List P3) : (difR S U).length ≤ max S.length U.length := difN_len S U _
theorem dif_out {S U : List P3} {k : Nat} (h : ¬ (k < S.length ↔ k < U.length)) : S[k]? ≠ U[k]? := by
  intro e
  refine h ⟨fun h1 => ?_, fun h1 => ?_⟩
  · rw [List.getElem?_eq_getElem h1] at e
    exact (List.getElem?_eq_some_iff.1 e.symm).1
  · rw [List.getElem?_eq_getElem h1] at e
    exact (List.getElem?_eq_some_iff.1 e).1
theorem dif_in {S U : List P3} {k : Nat} (h : k < S.length ↔ k < U.length) : S[k]? = U[k]? ↔ stA S k = stA U k := by
  unfold stA
  by_cases h1 : k < S.length
  · rw [List.getElem?_eq_getElem h1, List.getElem?_eq_getElem (h.1 h1)]
    simp
  · rw [List.getElem?_eq_none (by omega), List.getElem?_eq_none (by omega : U.length ≤ k)]
    simp

set_option maxHeartbeats 1000000 in
set_option maxRecDepth 100000 in
theorem sat_out (a : Option Addr) (n c : Nat) (i : Int) (hi : ¬(0 ≤ i ∧ i < n)) (w : World) :
    Calls Tryz.prog 10 #[.agg #[.slice a n c], .int .i64 i] w fun e w' => e = .returned (.tuple #[stv 0 0 [], .bool false]) ∧ Hid (Below w.heap.size w w') := by
  obtain ⟨W1, W, hW1, hW, Hb, hs1, hs, Hx, Hy⟩ := box_new13 w 29 (.slice a n c) (.int .i64 0) (.int .i64 0) (.string ⟨#[]⟩) 34
  have x0 := Hx.out.cell
  have HA := Lib.hid (at_sta_out a n c i hi W)
  clear hi
  go_enter Tryz.func10, Tryz.ntmps10
  go_wp2_with (first | (go_at_call 38; refine HA.out.mono ?_; rintro e w2 ⟨rfl, h2⟩; obtain ⟨⟨s0, f0⟩, ⟨s1, f1⟩, ⟨s2, f2⟩, hfin⟩ := row_set3 ((h2.out.block _ hs.out).trans Hy.out) (.int .i64 0) (.int .i64 0) (.string ⟨#[]⟩); have Hfin := Lib.hid hfin; clear hfin))
  refine bodyPost_ret (results_row_tmp rfl _ _ W1.heap.size 34 #[.int .i64 0, .int .i64 0, .string ⟨#[]⟩] (0, 0) _ rfl Hfin.out Tryz.underlying34 rfl (by kernel_rfl)) rfl ?_
  exact ⟨rfl, (((Hb.out.trans (h2.out.mono Hb.out.size)).setCell (p := ⟨W1.heap.size, 0, none⟩) (Nat.le_of_lt hs1.out) _).setCell (p := ⟨W1.heap.size, 1, none⟩) (Nat.le_of_lt hs1.out) _).setCell (p := ⟨W1.heap.size, 2, none⟩) (Nat.le_of_lt hs1.out) _⟩
/-- At, of a natural number. -/
theorem sat_nat (a : Option Addr) (c : Nat) (S : List P3) (k : Nat) (w : World) (h : SlAt w a (sts S)) :
    Calls Tryz.prog 10 #[.agg #[.slice a S.length c], .int .i64 (k : Int)] w fun e w' => e = .returned (.tuple #[stV (stA S k), .bool (decide (k < S.length))]) ∧ Hid (Below w.heap.size w w') := by
  by_cases hk : k < S.length
  · obtain ⟨h0, h1, h2⟩ := stA_at S k hk
    rw [decide_eq_true hk]
    exact sat_in a S.length c (sts S) k hk _ _ _ h0 h1 h2 w h
  · rw [decide_eq_false hk]
    have e : stA S k = (0, 0, []) := by unfold stA; rw [List.getElem?_eq_none (by omega)]; rfl
    rw [e]
    exact sat_out a S.length c k (by omega) w

theorem sat_natN (a : Option Addr) (c : Nat) (S : List P3) (n : Nat) (hn : S.length = n) (k : Nat) (w : World) (h : SlAt w a (sts S)) :
    Calls Tryz.prog 10 #[.agg #[.slice a n c], .int .i64 (k : Int)] w fun e w' => e = .returned (.tuple #[stV (stA S k), .bool (decide (k < n))]) ∧ Hid (Below w.heap.size w w') := by
  subst hn
  exact sat_nat a c S k w h

theorem samev (y z : P3) (w : World) : Calls Tryz.prog 44 #[stV y, stV z] w fun e w' => e = .returned (.bool (decide (y = z))) ∧ Hid (Below w.heap.size w w') := by
  obtain ⟨p, q, r⟩ := y
  obtain ⟨p', q', r'⟩ := z
  have e : decide ((p, q, r) = (p', q', r')) = (decide (p = p') && decide (q = q') && decide (r = r')) := by
    rw [← Bool.decide_and, ← Bool.decide_and]
    congr 1
    simp [Prod.ext_iff, and_assoc]
  rw [e]
  exact same_any p q p' q' r r' w
/-- What the loop over two stores keeps. -/
structure Df (w : World) (b1 b2 : Nat) (v1 v2 : Value) (xs : List Int) (v : Value) (V : World) : Prop where
  row : V.ownsRow w.heap.size 3 1 v xs.length (ic xs)
  box1 : Boxed V b1 29 v1
  box2 : Boxed V b2 29 v2
  below : Below w.heap.size w V
theorem Df.next {w : World} {b1 b2 : Nat} {v1 v2 : Value} {xs : List Int} {v : Value} {V V' : World} (h : Df w b1 b2 v1 v2 xs v V) (hb : Below V.heap.size V V') : Df w b1 b2 v1 v2 xs v V' :=
  ⟨row_kept h.row hb, boxed_below h.box1 hb (Array.getElem?_eq_some_iff.1 h.box1).1, boxed_below h.box2 hb (Array.getElem?_eq_some_iff.1 h.box2).1, h.below.trans (hb.mono h.below.size)⟩
theorem Df.grow {w : World} {b1 b2 : Nat} {v1 v2 : Value} {xs ys : List Int} {v v' : Value} {V V' : World} (h : Df w b1 b2 v1 v2 xs v V) (hr : V'.ownsRow w.heap.size 3 1 v' ys.length (ic ys)) (hg : V.grownBy V' v.ownBlock) : Df w b1 b2 v1 v2 ys v' V' :=
  ⟨hr, boxed_apart h.row h.box1 (by decide) hg, boxed_apart h.row h.box2 (by decide) hg, h.below.grown hg h.below.size (fun k e => (h.row.lt k e).1)⟩

set_option maxHeartbeats 4000000 in
set_option maxRecDepth 100000 in
theorem differ_any (a b : Option Addr) (c d : Nat) (S U : List P3) (n m : Nat) (hn : S.length = n) (hm : U.length = m) (hS : n ≤ 100) (hU : m ≤ 100) (w : World) (h : SlAt w a (sts S)) (hu : SlAt w b (sts U)) :
    Calls Tryz.prog 17 #[.agg #[.slice a n c], .agg #[.slice b m d]] w fun e w' => ∃ v, e = .returned v ∧ Hid (w'.ownsRow w.heap.size 3 1 v (difR S U).length (ic (difR S U)) ∧ Below w.heap.size w w') := by
  obtain ⟨i0, hi, hz0, hz1, hz2⟩ := info_parts (P := Tryz.prog) (e := 3) (z := .int .i64 0) (size := 1) (bytes := 8) (by kernel_rfl)
  obtain ⟨W1, W, hW1, hW, Hb, hs1, hs, Hx, Hy⟩ := box_new2 w 29 29 (.slice a n c) (.slice b m d)
  have x0 := Hx.out.cell
  have y0 := Hy.out.cell
  have Ha := Lib.hid (fun V (hV : Below w.heap.size w V) k => sat_natN a c S n hn k V (h.below hV))
  have Hu := Lib.hid (fun V (hV : Below w.heap.size w V) k => sat_natN b d U m hm k V (hu.below hV))
  have HLa := fun V => slen_any a n c V
  have HLb := fun V => slen_any b m d V
  have Hall := Lib.hid (difN_all S U)
  have Hn := Lib.hid hn
  have Hm := Lib.hid hm
  have Hs1 : Hid (w.heap.size ≤ W1.heap.size) := Nat.le_of_lt hs1.out
  have HLa := Lib.hid HLa
  have HLb := Lib.hid HLb
  clear h hu
  rw [hn, hm] at Hall
  clear hn hm
  have hX0 : Hid (∀ V, Below W.heap.size W V → V.cell? ⟨w.heap.size, 0, none⟩ = some (.slice a n c) ∧ V.cell? ⟨W1.heap.size, 0, none⟩ = some (.slice b m d)) := fun V hV => ⟨(boxed_below Hx.out hV (Nat.lt_trans hs1.out hs.out)).cell, (boxed_below Hy.out hV hs.out).cell⟩
  have HS0 := And.intro x0 y0
  go_enter Tryz.func17, Tryz.ntmps17
  go_wp2_with fail
  go_region_held3 (fun w' => w'.cell? ⟨w.heap.size, 0, none⟩ = some (.slice a n c) ∧ w'.cell? ⟨W1.heap.size, 0, none⟩ = some (.slice b m d))
    (first | (with_reducible exact HS0) | (with_reducible exact hX0.out _ (stepB h2.out h3.out)) | (with_reducible exact hX0.out _ h2.out) | (with_reducible exact hX0.out _ (stepB h2.out.drew h3.out)) | exact hX0.out _ (stepD (Below.refl _ _)) | exact hX0.out _ (stepB (stepD (Below.refl _ _)) h2.out) | exact hX0.out _ (stepB (stepB (stepD (Below.refl _ _)) h2.out) h3.out))
    (first
      | (go_at_call 32; first
        | ((with_reducible refine (HLa.out _).mono ?_); rintro e w2 ⟨rfl, h2⟩)
        | ((with_reducible refine (HLb.out _).mono ?_); rintro e w3 ⟨rfl, h3⟩)))
  have eM : max (n : Int) (m : Int) = ((max n m : Nat) : Int) := by omega
  rw [eM]
  clear eM HS0
  have HM : Hid (max n m ≤ 100) := by show _ ≤ _; omega
  have Hnm : Hid (n ≤ max n m ∧ m ≤ max n m ∧ ∀ k, k < max n m → k < n ∨ k < m) := ⟨by omega, by omega, fun k h => by omega⟩
  generalize max n m = M at *
  have H0 : Hid (Df w w.heap.size W1.heap.size (.slice a n c) (.slice b m d) (difN S U 0) (.slice none 0 0) w3) := by
    have hb3 : Below W.heap.size W w3 := stepB (stepB (stepD (Below.refl _ _)) h2.out) h3.out
    exact ⟨World.ownsRow_nil _ _ _ _, boxed_below Hx.out hb3 (Nat.lt_trans hs1.out hs.out), boxed_below Hy.out hb3 hs.out, Hb.out.trans (hb3.mono Hb.out.size)⟩
  have hM100 : M ≤ 100 := HM.out
  clear x0 y0 hS hU
  go_wp2_with fail
  go_loopw [5, 16] (fun v i wr => ∃ k : Nat, k ≤ M ∧ i = .int .i64 k ∧ Hid (Df w w.heap.size W1.heap.size (.slice a n c) (.slice b m d) (difN S U k) v wr)) (fun _ i _ => M - (intOf i).toNat)
  case atStart => exact ⟨0, Nat.zero_le _, rfl, H0.out⟩
  case round =>
    clear H0
    obtain ⟨k, hk, rfl, HD⟩ := hrel
    obtain ⟨v, hv⟩ : ∃ v, u5 = v := ⟨_, rfl⟩
    rw [hv] at HD ⊢
    clear hv
    by_cases hlt : k < M
    · have hlen : Hid ((difN S U k).length ≤ 100) := by have := difN_len S U k; have := HM.out; show _ ≤ _; omega
      have x0 := HD.out.box1.cell
      have HA := Lib.hid (Ha.out wr HD.out.below k)
      have HU := Lib.hid (fun V hV => Hu.out V hV k)
      have HS := Lib.hid (fun V => samev (stA S k) (stA U k) V)
      have hltI : (k : Int) < (M : Int) := by omega
      by_cases h1 : k < n
      · by_cases h2 : k < m
        · rw [decide_eq_true h1] at HA
          simp only [decide_eq_true h2] at HU
          by_cases hq : stA S k = stA U k
          · have Hst : Hid (difN S U (k + 1) = difN S U k) := difN_no ((dif_in (by rw [Hn.out, Hm.out]; exact ⟨fun _ => h2, fun _ => h1⟩)).2 hq)
            simp only [decide_eq_true hq] at HS
            clear hq h1 h2
            have Hstp := Lib.hid Hst.out
            obtain ⟨xs, hxs⟩ : ∃ xs, difN S U k = xs := ⟨_, rfl⟩
            rw [hxs] at HD hlen Hst
            clear hxs Hstp
            generalize stA S k = y at HA HS
            generalize stA U k = z at HU HS
            obtain ⟨p, q, r⟩ := y
            obtain ⟨p', q', r'⟩ := z
            try dsimp only at HA HU HS
            go_wp2_with (first
              | (go_at_call 10; first
                | ((with_reducible refine HA.out.mono ?_); rintro e w4 ⟨rfl, h4⟩
                   obtain ⟨W5, hW5, Hb5, hs5, Hp5⟩ := cells_new w4 #[.int .i64 p, .int .i64 q, tv r] 34
                   have H5 : Hid (Df w w.heap.size W1.heap.size (.slice a n c) (.slice b m d) xs v W5) := HD.out.next (stepB h4.out Hb5.out)
                   have z1 := H5.out.box2.cell)
                | ((with_reducible refine (HU.out _ H5.out.below).mono ?_); rintro e w6 ⟨rfl, h6⟩
                   obtain ⟨W7, hW7, Hb7, hs7, Hp7⟩ := cells_new w6 #[.int .i64 p', .int .i64 q', tv r'] 34
                   obtain ⟨y70, y71, y72⟩ := row_three Hp7.out
                   obtain ⟨y50, y51, y52⟩ := row_three (keepB (stepB h6.out Hb7.out) Hp5.out)
                   have H7 : Hid (Df w w.heap.size W1.heap.size (.slice a n c) (.slice b m d) xs v W7) := H5.out.next (stepB h6.out Hb7.out)))
              | (go_at_call 44; (with_reducible refine (HS.out _).mono ?_); rintro e w8 ⟨rfl, h8⟩
                 have H8 : Hid (Df w w.heap.size W1.heap.size (.slice a n c) (.slice b m d) xs v w8) := H7.out.next h8.out))
            go_wp2_with fail
            have H9 : Hid (Df w w.heap.size W1.heap.size (.slice a n c) (.slice b m d) (difN S U (k + 1)) v w8) := by
              show Df _ _ _ _ _ _ _ _
              rw [Hst.out]
              exact H8.out
            go_roundw
            case rel => exact ⟨k + 1, by omega, by go_num, H9.out⟩
            case measure => simp [intOf]; omega
          · have Hst : Hid (difN S U (k + 1) = difN S U k ++ [(k : Int)]) := difN_yes (fun e => hq ((dif_in (by rw [Hn.out, Hm.out]; exact ⟨fun _ => h2, fun _ => h1⟩)).1 e))
            simp only [decide_eq_false hq] at HS
            clear hq h1 h2
            have Hstp := Lib.hid Hst.out
            obtain ⟨xs, hxs⟩ : ∃ xs, difN S U k = xs := ⟨_, rfl⟩
            rw [hxs] at HD hlen Hst
            clear hxs Hstp
            generalize stA S k = y at HA HS
            generalize stA U k = z at HU HS
            obtain ⟨p, q, r⟩ := y
            obtain ⟨p', q', r'⟩ := z
            try dsimp only at HA HU HS
            go_wp2_with (first
              | (go_at_call 10; first
                | ((with_reducible refine HA.out.mono ?_); rintro e w4 ⟨rfl, h4⟩
                   obtain ⟨W5, hW5, Hb5, hs5, Hp5⟩ := cells_new w4 #[.int .i64 p, .int .i64 q, tv r] 34
                   have H5 : Hid (Df w w.heap.size W1.heap.size (.slice a n c) (.slice b m d) xs v W5) := HD.out.next (stepB h4.out Hb5.out)
                   have z1 := H5.out.box2.cell)
                | ((with_reducible refine (HU.out _ H5.out.below).mono ?_); rintro e w6 ⟨rfl, h6⟩
                   obtain ⟨W7, hW7, Hb7, hs7, Hp7⟩ := cells_new w6 #[.int .i64 p', .int .i64 q', tv r'] 34
                   obtain ⟨y70, y71, y72⟩ := row_three Hp7.out
                   obtain ⟨y50, y51, y52⟩ := row_three (keepB (stepB h6.out Hb7.out) Hp5.out)
                   have H7 : Hid (Df w w.heap.size W1.heap.size (.slice a n c) (.slice b m d) xs v W7) := H5.out.next (stepB h6.out Hb7.out)))
              | (go_at_call 44; (with_reducible refine (HS.out _).mono ?_); rintro e w8 ⟨rfl, h8⟩
                 have H8 : Hid (Df w w.heap.size W1.heap.size (.slice a n c) (.slice b m d) xs v w8) := H7.out.next h8.out)
              | (at_builtin; refine wpList_append_own _ rfl _ _ 37 rfl w.heap.size 3 i0 (.int .i64 0) 1 8 Tryz.underlying37 hi hz0 hz1 hz2 rfl (by decide) _ _ _ rfl (H8.out.row.alloc _) ⟨w8.heap.size, 0, none⟩ 1 1 [.int .i64 k] rfl rfl (cell_one_new _ _ _) (by intro u hu; simp at hu; subst hu; rfl) (by unfold maxLen; have := hlen.out; omega) (by have := hlen.out; omega) (by show _ ≤ _; simp; exact Nat.le_trans H8.out.below.size (Nat.le_succ _)) ?_))
            intro v' w9 hown9 hgrow9 _
            have H9 : Hid (Df w w.heap.size W1.heap.size (.slice a n c) (.slice b m d) (difN S U (k + 1)) v' w9) := by
              show Df _ _ _ _ _ _ _ _
              have e9 := Hst.out
              have hb9 : Below w8.heap.size w8 (w8.alloc (.cells #[.int .i64 k] 3)) := (Below.refl _ _).alloc (Nat.le_refl _) _
              refine Df.grow (H8.out.next hb9) ?_ hgrow9
              rw [e9, List.length_append]
              simpa [ic] using hown9
            go_wp2_with fail
            go_roundw
            case rel => exact ⟨k + 1, by omega, by go_num, H9.out⟩
            case measure => simp [intOf]; omega
        · have Hst : Hid (difN S U (k + 1) = difN S U k ++ [(k : Int)]) := difN_yes (dif_out (by rw [Hn.out, Hm.out]; exact fun e => h2 (e.1 h1)))
          rw [decide_eq_true h1] at HA
          simp only [decide_eq_false h2] at HU
          clear h1 h2
          have Hstp := Lib.hid Hst.out
          obtain ⟨xs, hxs⟩ : ∃ xs, difN S U k = xs := ⟨_, rfl⟩
          rw [hxs] at HD hlen Hst
          clear hxs Hstp
          generalize stA S k = y at HA HS
          generalize stA U k = z at HU HS
          obtain ⟨p, q, r⟩ := y
          obtain ⟨p', q', r'⟩ := z
          try dsimp only at HA HU HS
          go_wp2_with (first
            | (go_at_call 10; first
              | ((with_reducible refine HA.out.mono ?_); rintro e w4 ⟨rfl, h4⟩
                 obtain ⟨W5, hW5, Hb5, hs5, Hp5⟩ := cells_new w4 #[.int .i64 p, .int .i64 q, tv r] 34
                 have H5 : Hid (Df w w.heap.size W1.heap.size (.slice a n c) (.slice b m d) xs v W5) := HD.out.next (stepB h4.out Hb5.out)
                 have z1 := H5.out.box2.cell)
              | ((with_reducible refine (HU.out _ H5.out.below).mono ?_); rintro e w6 ⟨rfl, h6⟩
                 obtain ⟨W7, hW7, Hb7, hs7, Hp7⟩ := cells_new w6 #[.int .i64 p', .int .i64 q', tv r'] 34
                 obtain ⟨y70, y71, y72⟩ := row_three Hp7.out
                 obtain ⟨y50, y51, y52⟩ := row_three (keepB (stepB h6.out Hb7.out) Hp5.out)
                 have H7 : Hid (Df w w.heap.size W1.heap.size (.slice a n c) (.slice b m d) xs v W7) := H5.out.next (stepB h6.out Hb7.out)))
            | (at_builtin; refine wpList_append_own _ rfl _ _ 37 rfl w.heap.size 3 i0 (.int .i64 0) 1 8 Tryz.underlying37 hi hz0 hz1 hz2 rfl (by decide) _ _ _ rfl (H7.out.row.alloc _) ⟨W7.heap.size, 0, none⟩ 1 1 [.int .i64 k] rfl rfl (cell_one_new _ _ _) (by intro u hu; simp at hu; subst hu; rfl) (by unfold maxLen; have := hlen.out; omega) (by have := hlen.out; omega) (by show _ ≤ _; simp; exact Nat.le_trans H7.out.below.size (Nat.le_succ _)) ?_))
          intro v' w9 hown9 hgrow9 _
          have H9 : Hid (Df w w.heap.size W1.heap.size (.slice a n c) (.slice b m d) (difN S U (k + 1)) v' w9) := by
            show Df _ _ _ _ _ _ _ _
            have e9 := Hst.out
            have hb9 : Below W7.heap.size W7 (W7.alloc (.cells #[.int .i64 k] 3)) := (Below.refl _ _).alloc (Nat.le_refl _) _
            refine Df.grow (H7.out.next hb9) ?_ hgrow9
            rw [e9, List.length_append]
            simpa [ic] using hown9
          go_wp2_with fail
          go_roundw
          case rel => exact ⟨k + 1, by omega, by go_num, H9.out⟩
          case measure => simp [intOf]; omega
      · have h2 : k < m := by have := Hnm.out.2.2 k hlt; omega
        have Hst : Hid (difN S U (k + 1) = difN S U k ++ [(k : Int)]) := difN_yes (dif_out (by rw [Hn.out, Hm.out]; exact fun e => h1 (e.2 h2)))
        rw [decide_eq_false h1] at HA
        simp only [decide_eq_true h2] at HU
        clear h1 h2
        have Hstp := Lib.hid Hst.out
        obtain ⟨xs, hxs⟩ : ∃ xs, difN S U k = xs := ⟨_, rfl⟩
        rw [hxs] at HD hlen Hst
        clear hxs Hstp
        generalize stA S k = y at HA HS
        generalize stA U k = z at HU HS
        obtain ⟨p, q, r⟩ := y
        obtain ⟨p', q', r'⟩ := z
        try dsimp only at HA HU HS
        go_wp2_with (first
          | (go_at_call 10; first
            | ((with_reducible refine HA.out.mono ?_); rintro e w4 ⟨rfl, h4⟩
               obtain ⟨W5, hW5, Hb5, hs5, Hp5⟩ := cells_new w4 #[.int .i64 p, .int .i64 q, tv r] 34
               have H5 : Hid (Df w w.heap.size W1.heap.size (.slice a n c) (.slice b m d) xs v W5) := HD.out.next (stepB h4.out Hb5.out)
               have z1 := H5.out.box2.cell)
            | ((with_reducible refine (HU.out _ H5.out.below).mono ?_); rintro e w6 ⟨rfl, h6⟩
               obtain ⟨W7, hW7, Hb7, hs7, Hp7⟩ := cells_new w6 #[.int .i64 p', .int .i64 q', tv r'] 34
               obtain ⟨y70, y71, y72⟩ := row_three Hp7.out
               obtain ⟨y50, y51, y52⟩ := row_three (keepB (stepB h6.out Hb7.out) Hp5.out)
               have H7 : Hid (Df w w.heap.size W1.heap.size (.slice a n c) (.slice b m d) xs v W7) := H5.out.next (stepB h6.out Hb7.out)))
          | (at_builtin; refine wpList_append_own _ rfl _ _ 37 rfl w.heap.size 3 i0 (.int .i64 0) 1 8 Tryz.underlying37 hi hz0 hz1 hz2 rfl (by decide) _ _ _ rfl (H7.out.row.alloc _) ⟨W7.heap.size, 0, none⟩ 1 1 [.int .i64 k] rfl rfl (cell_one_new _ _ _) (by intro u hu; simp at hu; subst hu; rfl) (by unfold maxLen; have := hlen.out; omega) (by have := hlen.out; omega) (by show _ ≤ _; simp; exact Nat.le_trans H7.out.below.size (Nat.le_succ _)) ?_))
        intro v' w9 hown9 hgrow9 _
        have H9 : Hid (Df w w.heap.size W1.heap.size (.slice a n c) (.slice b m d) (difN S U (k + 1)) v' w9) := by
          show Df _ _ _ _ _ _ _ _
          have e9 := Hst.out
          have hb9 : Below W7.heap.size W7 (W7.alloc (.cells #[.int .i64 k] 3)) := (Below.refl _ _).alloc (Nat.le_refl _) _
          refine Df.grow (H7.out.next hb9) ?_ hgrow9
          rw [e9, List.length_append]
          simpa [ic] using hown9
        go_wp2_with fail
        go_roundw
        case rel => exact ⟨k + 1, by omega, by go_num, H9.out⟩
        case measure => simp [intOf]; omega
    · have hkM : k = M := by omega
      clear hlt
      go_wp2_with fail
      go_ret
      have h9 := HD.out.row
      rw [hkM, Hall.out] at h9
      exact ⟨_, rfl, h9, HD.out.below⟩
end Go.Proofs.YtcjfcomadcebnaaGreatDoor

/- Same of two stores of the program. -/
namespace Go.Proofs.YtcjfcomadcebnaaGreatDoor
open Go.RowKit Go.Maps Go.WideMaps Go.WideElems Go.ChangeShapes Go.WideShapes
variable {T : TypeId} {er : Nat → Addr}

set_option maxHeartbeats 2000000 in
set_option maxRecDepth 100000 in
theorem ssame_any (a b : Option Addr) (c d : Nat) (S U : List P3) (n m : Nat) (hn : S.length = n) (hm : U.length = m) (hS : n ≤ 100) (hU : m ≤ 100) (w : World) (h : SlAt w a (sts S)) (hu : SlAt w b (sts U)) :
    Calls Tryz.prog 19 #[.agg #[.slice a n c], .agg #[.slice b m d]] w fun e w' => e = .returned (.bool (decide (S = U))) ∧ Hid (Below w.heap.size w w') := by
  obtain ⟨W1, W, hW1, hW, Hb, hs1, hs, Hx, Hy⟩ := box_new2 w 29 29 (.slice a n c) (.slice b m d)
  have x0 := Hx.out.cell
  have y0 := Hy.out.cell
  have HD := Lib.hid (fun V (hV : Below w.heap.size w V) => differ_any a b c d S U n m hn hm hS hU V (h.below hV) (hu.below hV))
  obtain ⟨D, hD⟩ : ∃ D, decide (S = U) = D := ⟨_, rfl⟩
  have Hlen : Hid ((difR S U).length ≤ 100) := by have := difR_len S U; show _ ≤ _; rw [hn, hm] at this; omega
  have Hnil : Hid ((((difR S U).length : Int) == 0) = D) := by
    show _ = _
    rw [← hD]
    by_cases e : S = U
    · rw [decide_eq_true e, difR_nil.2 e]; rfl
    · rw [decide_eq_false e]
      have : (difR S U).length ≠ 0 := fun e2 => e (difR_nil.1 (List.length_eq_zero_iff.1 e2))
      exact beq_eq_false_iff_ne.2 (by omega)
  have Hne : n ≠ m → D = false := fun e => by rw [← hD, decide_eq_false]; rintro rfl; exact e (hn.symm.trans hm)
  rw [hD]
  have HLa := Lib.hid (fun V => slen_any a n c V)
  have HLb := Lib.hid (fun V => slen_any b m d V)
  clear h hu hD hn hm
  obtain ⟨q, hq⟩ : ∃ q, (difR S U).length = q := ⟨_, rfl⟩
  rw [hq] at HD Hlen Hnil
  have hX0 : Hid (∀ V, Below W.heap.size W V → V.cell? ⟨w.heap.size, 0, none⟩ = some (.slice a n c) ∧ V.cell? ⟨W1.heap.size, 0, none⟩ = some (.slice b m d)) := fun V hV => ⟨(boxed_below Hx.out hV (Nat.lt_trans hs1.out hs.out)).cell, (boxed_below Hy.out hV hs.out).cell⟩
  have HS0 := And.intro x0 y0
  by_cases hnm : n = m
  · have e1 : ((n : Int) == (m : Int)) = true := by rw [hnm]; exact beq_self_eq_true _
    have e2 := Hnil.out
    clear Hne hnm hq
    go_enter Tryz.func19, Tryz.ntmps19
    go_wp2_with fail
    go_region_held3 (fun w' => w'.cell? ⟨w.heap.size, 0, none⟩ = some (.slice a n c) ∧ w'.cell? ⟨W1.heap.size, 0, none⟩ = some (.slice b m d))
      (first | (with_reducible exact HS0) | (with_reducible exact hX0.out _ (stepD (Below.refl _ _))) | (with_reducible exact hX0.out _ (stepB (stepD (Below.refl _ _)) h2.out)) | (with_reducible exact hX0.out _ (stepB (stepB (stepD (Below.refl _ _)) h2.out) h3.out)) | (with_reducible exact hX0.out _ (stepB (stepB (stepB (stepD (Below.refl _ _)) h2.out) h3.out) h4.out.2)))
      (first
        | (go_at_call 32; first
          | ((with_reducible refine (HLa.out _).mono ?_); rintro e w2 ⟨rfl, h2⟩)
          | ((with_reducible refine (HLb.out _).mono ?_); rintro e w3 ⟨rfl, h3⟩))
        | (go_at_call 17; (with_reducible refine (HD.out _ (stepB Hb.out (stepB (stepB (stepD (Below.refl _ _)) h2.out) h3.out))).mono ?_); rintro e w4 ⟨v4, rfl, h4⟩
           obtain ⟨a4, c4, rfl, -, -⟩ := row_sl h4.out.1))
    all_goals
      go_wp2_with fail
      go_ret
      exact ⟨rfl, stepB (stepB (stepB Hb.out (stepD (Below.refl _ _))) (stepB h2.out h3.out)) h4.out.2⟩
  · have e1 : ((n : Int) == (m : Int)) = false := by simp; omega
    have e2 := Hne hnm
    clear Hne hnm hq
    go_enter Tryz.func19, Tryz.ntmps19
    go_wp2_with fail
    refine wp_region_held_drew (S := (fun w' => w'.cell? ⟨w.heap.size, 0, none⟩ = some (.slice a n c) ∧ w'.cell? ⟨W1.heap.size, 0, none⟩ = some (.slice b m d))) (by kernel_rfl) (hX0.out _ (stepD (Below.refl _ _))) (fun hHeld => ?_)
    refine held_take 0 (some 5) ?_ rfl rfl (by kernel_rfl) (by kernel_rfl) (by kernel_rfl) (fun _ _ _ h => h) (by kernel_rfl) ?_ (by assumption) ?_
    rotate_left
    · intro w hSw; (try dsimp only at hSw); go_simp <;> (try with_reducible rfl)
    simp only [Act.put, List.setIfInBounds_toArray, List.set_cons_zero, List.set_cons_succ]
    refine held_take 2 (some 7) ?_ rfl rfl (by kernel_rfl) (by kernel_rfl) (by kernel_rfl) (fun _ _ _ h => h) (by kernel_rfl) ?_ (by assumption) ?_
    rotate_left
    · intro w hSw; (try dsimp only at hSw); go_simp <;> (try with_reducible rfl)
    simp only [Act.put, List.setIfInBounds_toArray, List.set_cons_zero, List.set_cons_succ]
    refine wpAnyH_ready (rs := [1]) (by kernel_rfl) (by simp) (AllReadyH.cons rfl (fun K hK => ?_) AllReadyH.nil)
    go_simp
    (go_at_call 32; (with_reducible refine (HLa.out _).mono ?_); rintro e w2 ⟨rfl, h2⟩)
    go_wp2_with fail
    refine hK.out _ _ (hX0.out _ (stepB (stepD (Below.refl _ _)) h2.out)) (fun hHeld => ?_)
    clear hK K
    try simp only [Act.put, List.setIfInBounds_toArray, List.set_cons_zero, List.set_cons_succ]
    refine wpAnyH_ready (rs := [3]) (by kernel_rfl) (by simp) (AllReadyH.cons rfl (fun K hK => ?_) AllReadyH.nil)
    go_simp
    (go_at_call 32; (with_reducible refine (HLb.out _).mono ?_); rintro e w3 ⟨rfl, h3⟩)
    go_wp2_with fail
    refine hK.out _ _ (hX0.out _ (stepB (stepB (stepD (Below.refl _ _)) h2.out) h3.out)) (fun hHeld => ?_)
    clear hK K
    try simp only [Act.put, List.setIfInBounds_toArray, List.set_cons_zero, List.set_cons_succ]
    refine held_take 4 (some 9) ?_ rfl rfl (by kernel_rfl) (by kernel_rfl) (by kernel_rfl) (fun _ _ _ h => h) (by kernel_rfl) ?_ (by assumption) ?_
    rotate_left
    · intro w hSw; (try dsimp only at hSw); go_simp <;> (try with_reducible rfl)
    simp only [Act.put, List.setIfInBounds_toArray, List.set_cons_zero, List.set_cons_succ]
    refine held_take 5 (some 10) ?_ rfl rfl (by kernel_rfl) (by kernel_rfl) (by kernel_rfl) (fun _ _ _ h => h) (by kernel_rfl) ?_ (by assumption) ?_
    rotate_left
    · intro w hSw; (try dsimp only at hSw); go_simp <;> (try with_reducible rfl)
    simp only [Act.put, List.setIfInBounds_toArray, List.set_cons_zero, List.set_cons_succ]
    refine held_skip 6 (some 11) rfl rfl (by kernel_rfl) (by kernel_rfl) (by kernel_rfl) (fun _ _ _ h => h) (by kernel_rfl) (by assumption) ?_
    simp only [Act.put, List.setIfInBounds_toArray, List.set_cons_zero, List.set_cons_succ]
    refine held_skip 7 (some 12) rfl rfl (by kernel_rfl) (by kernel_rfl) (by kernel_rfl) (fun _ _ _ h => h) (by kernel_rfl) (by assumption) ?_
    simp only [Act.put, List.setIfInBounds_toArray, List.set_cons_zero, List.set_cons_succ]
    refine held_skip 8 (some 13) rfl rfl (by kernel_rfl) (by kernel_rfl) (by kernel_rfl) (fun _ _ _ h => h) (by kernel_rfl) (by assumption) ?_
    simp only [Act.put, List.setIfInBounds_toArray, List.set_cons_zero, List.set_cons_succ]
    refine held_skip 9 (some 14) rfl rfl (by kernel_rfl) (by kernel_rfl) (by kernel_rfl) (fun _ _ _ h => h) (by kernel_rfl) (by assumption) ?_
    simp only [Act.put, List.setIfInBounds_toArray, List.set_cons_zero, List.set_cons_succ]
    refine held_skip 10 (some 15) rfl rfl (by kernel_rfl) (by kernel_rfl) (by kernel_rfl) (fun _ _ _ h => h) (by kernel_rfl) (by assumption) ?_
    simp only [Act.put, List.setIfInBounds_toArray, List.set_cons_zero, List.set_cons_succ]
    refine held_take 11 (some 16) ?_ rfl rfl (by kernel_rfl) (by kernel_rfl) (by kernel_rfl) (fun _ _ _ h => h) (by kernel_rfl) ?_ (by assumption) ?_
    rotate_left
    · intro w hSw; (try dsimp only at hSw); go_simp <;> (try with_reducible rfl)
    simp only [Act.put, List.setIfInBounds_toArray, List.set_cons_zero, List.set_cons_succ]
    refine held_take 12 (some 4) ?_ rfl rfl (by kernel_rfl) (by kernel_rfl) (by kernel_rfl) (fun _ _ _ h => h) (by kernel_rfl) ?_ (by assumption) ?_
    rotate_left
    · intro w hSw; (try dsimp only at hSw); go_simp <;> (try with_reducible rfl)
    simp only [Act.put, List.setIfInBounds_toArray, List.set_cons_zero, List.set_cons_succ]
    refine wpAnyH_done (by kernel_rfl) ?_ _
    go_wp2_with fail
    go_ret
    exact ⟨by rw [e2]; rfl, stepB (stepB Hb.out (stepD (Below.refl _ _))) (stepB h2.out h3.out)⟩
theorem differ_n (a b : Option Addr) (c d : Nat) (S U : List P3) (n : Nat) (hS : S.length = n) (hU : U.length = n) (hn : n ≤ 100) (w : World) (h : SlAt w a (sts S)) (hu : SlAt w b (sts U)) :
    Calls Tryz.prog 17 #[.agg #[.slice a n c], .agg #[.slice b n d]] w fun e w' => ∃ v, e = .returned v ∧ Hid (w'.ownsRow w.heap.size 3 1 v (difR S U).length (ic (difR S U)) ∧ Below w.heap.size w w') := by
  exact differ_any a b c d S U n n hS hU hn hn w h hu
theorem ssame_n (a b : Option Addr) (c d : Nat) (S U : List P3) (n : Nat) (hS : S.length = n) (hU : U.length = n) (hn : n ≤ 100) (w : World) (h : SlAt w a (sts S)) (hu : SlAt w b (sts U)) :
    Calls Tryz.prog 19 #[.agg #[.slice a n c], .agg #[.slice b n d]] w fun e w' => e = .returned (.bool (decide (S = U))) ∧ Hid (Below w.heap.size w w') := by
  exact ssame_any a b c d S U n n hS hU hn hn w h hu
theorem skey_n (a : Option Addr) (c : Nat) (S : List PS) (n : Nat) (hS : S.length = n) (hn : n ≤ 100) (b : Nat) (hb : b ≤ 40000) (hok : OkS S b) (w : World) (h : SlAt w a (sts (S.map stP))) (hG : Glob T er w) :
    Calls Tryz.prog 33 #[.agg #[.slice a n c]] w fun e w' => e = .returned (tv (keyS (S.map stP))) ∧ Hid (Below w.heap.size w w') := by
  have h1 := skey_any (T := T) (er := er) a c (S.map stP) (by rw [List.length_map]; omega) (by
    intro s hs
    obtain ⟨p, hp, rfl⟩ := List.mem_map.1 hs
    exact ok_tells hb (hok p hp)) w h hG
  rw [List.length_map, hS] at h1
  exact h1
end Go.Proofs.YtcjfcomadcebnaaGreatDoor

/- What Behind answers, in short. -/
namespace Go.Proofs.YtcjfcomadcebnaaGreatDoor
open Go.RowKit Go.Maps Go.WideMaps Go.WideElems Go.ChangeShapes Go.WideShapes
variable {T : TypeId} {er : Nat → Addr}

/-- What Behind answers for fit objects. -/
def BGood (os : List (Int × Int)) (l : List CO) (n : Nat) (w : World) (e : Ending) (w' : World) : Prop :=
  ∃ pa pc u, e = .returned (.tuple #[.agg #[.slice pa n pc], u, .bool true]) ∧ Hid (SlAt w' pa (sts ((runS (startS os) l).map stP)) ∧ SAt w' (runS (startS os) l) u ∧ Below w.heap.size w w')
theorem runS_len (os : List (Int × Int)) (hv : ∀ o ∈ os, validO o.1 o.2 = true) (l : List CO) : (runS (startS os) l).length = os.length := by
  rw [(runS_ok l (start_ok os hv)).2]
  simp [startS]
theorem runS_fit (os : List (Int × Int)) (hv : ∀ o ∈ os, validO o.1 o.2 = true) (l : List CO) (hl : l.length ≤ 200) : OkS (runS (startS os) l) 300 := by
  intro s hs
  have h3 := (runS_ok l (start_ok os hv)).1 s hs
  have h4 := h3.len
  exact ⟨h3.kind, h3.reg, h3.cnt, h3.num, h3.vs, h3.ks, h3.vb, h3.kb, h3.rises, by omega⟩
theorem goS_kinds (S : List PS) {b : Nat} (h : OkS S b) (c : CO) : (goS S c).map (·.kind) = S.map (·.kind) := by
  unfold goS
  split
  · rename_i X r g hd
    exact (h.next hd).2.2
  · rfl
theorem runS_kinds' : ∀ (l : List CO) {S : List PS} {b : Nat}, OkS S b → (runS S l).map (·.kind) = S.map (·.kind)
  | [], S, b, _ => rfl
  | c :: l, S, b, h => by
    have h1 := runS_kinds' l (goS_ok h c).1
    exact h1.trans (goS_kinds S h c)
theorem runS_kinds (os : List (Int × Int)) (hv : ∀ o ∈ os, validO o.1 o.2 = true) (l : List CO) : (runS (startS os) l).map (·.kind) = (startS os).map (·.kind) := runS_kinds' l (start_ok os hv)
theorem behind_good (a : Option Addr) (c : Nat) (os : List (Int × Int)) (hn : os.length ≤ 8) (hv : ∀ o ∈ os, validO o.1 o.2 = true) (l : List CO) (hlen : l.length ≤ 200) (hf : ∀ x ∈ l, fits64 x.key ∧ fits64 x.val) (ca : Option Addr) (cc : Nat) (w : World) (h : SlAt w a (obs os)) (hc : SlAt w ca (cls l)) (hG : Glob T er w) :
    Calls Tryz.prog 9 #[.slice a os.length c, .slice ca l.length cc] w (BGood os l os.length w) := by
  refine (behind_ok a c os hn hv l hlen hf ca cc w h hc hG).mono fun e w' ⟨v, u, e1, h9⟩ => ?_
  obtain ⟨⟨pa, pc, rfl, h1⟩, h2, h3⟩ := h9.out
  rw [runS_len os hv l] at e1
  exact ⟨pa, pc, u, e1, h1, h2, h3⟩
end Go.Proofs.YtcjfcomadcebnaaGreatDoor

/- What the listed variables give a walk: each error lies in its cell, a pointer; the tables lie whole; a world that meets the list. -/
namespace Go.Proofs.YtcjfcomadcebnaaGreatDoor
open Go.ChangeShapes Go.WideShapes Go.ChangeAt Go.RowKit

theorem own : ownKnob Tryz.prog.godebug = none := by kernel_rfl
theorem laidOut : laidOutB Tryz.prog = true := by kernel_rfl
theorem cellsE : Tryz.prog.cellsOf 214 = 1 := by kernel_rfl
theorem cells9 : Tryz.prog.cellsOf 9 = 1 := by kernel_rfl
theorem star : "*" ++ "errors.errorString" = "*errors.errorString" := by decide
theorem rowE (u : TypeId) (h : Tryz.prog.typeName? 3 u = some "*errors.errorString") : u = 212 :=
  typeName_ptr_named (nm := "errors.errorString") (by rw [star]; kernel_rfl) (by kernel_rfl) (by decide) u (by rw [star]; exact h)

set_option maxRecDepth 100000 in
theorem err_of_one {W : World} {name : String} {g : Nat} {text : List UInt8} (hg : Tryz.prog.globalNamed name = some g) (hty : (Tryz.prog.globals[g]?).map (·.type) = some 70)
    (h : laidMet Tryz.prog [(name, .iface "*errors.errorString" (.ptr (.agg [.lit (.string text)])))] W) : ∃ ea : Addr, W.cell? ⟨g, 0, none⟩ = some (.iface 212 (.pointer (some ea))) := by
  obtain ⟨ps, ⟨g0, t0, cs0, f0, p0, q0, hg0, ht0, hv0, hd0, hq0, e0⟩, hnd, hrows⟩ := h
  obtain rfl := Option.some.inj (hg.symm.trans hg0)
  obtain rfl := Option.some.inj (hty.symm.trans ht0)
  have hq0' : q0 = [] := hq0
  subst hq0'
  subst e0
  obtain ⟨l0⟩ := cs0
  have ok0 : ∀ u v, l0 = [.iface u v] → Value.okWide Tryz.prog W .any 0 u v := fun u v e => by
    subst e
    exact (hrows g 0 (by simp [MemPlace.row])).2 u v (by simpa using World.var?_cell hg hv0 0)
  obtain ⟨a0, s0, rfl, hc0, hs0, hz0, rfl⟩ := errorString_of_trod Tryz.underlying70 rowE Tryz.underlying212 Tryz.underlying214 rfl rfl Tryz.underlying9 cellsE cells9 hd0 ok0
  exact ⟨a0, by simpa using World.var?_cell hg hv0 0⟩

theorem one_of_list {L : List (String × DataW Unit)} {W : World} (hH : laidMetH Tryz.prog L W) (name : String) {one : List (String × DataW Unit)} (h1 : (L.filter fun x => x.1 == name) = one) (h2 : (one.all fun x => x.2.handleName?.isNone) = true) : laidMet Tryz.prog one W := by
  have h := hH.filter (fun x => x.1 == name)
  rw [h1, MakeChecks.laidMetH_plain Tryz.prog one W h2] at h
  exact h

/-- An array's parts, read. -/
theorem trod_arr {H : Type} {enc : TypeId × Value → H} {P : Program} {w : World} {base : Nat} {sp : Nat → Bool} {held : Bool} {fuel : Nat} {t e : TypeId} {n m : Nat} {cs : List Value} {ds : List (DataW H)} {p : List MemPlace}
    (ht : P.underlying t = some (.array n e)) (hm : P.cellsOf e = m) (h : DataW.trod enc P w base sp held fuel t cs = some (.agg ds, p)) :
    ∃ f, ∀ i, i < n → ∃ y, DataW.trod enc P w base sp held f e ((cs.drop (i * m)).take m) = some y ∧ ds[i]? = some y.1 := by
  cases fuel with
  | zero => simp [DataW.trod] at h
  | succ fuel =>
    simp only [DataW.trod, ht, hm] at h
    split at h
    · obtain ⟨xs, hx, he⟩ := Option.map_eq_some_iff.1 h
      refine ⟨fuel, fun i hi => ?_⟩
      obtain ⟨b, hb, hf⟩ := Lib.mapM_at hx i i (by simp [hi])
      refine ⟨b, hf, ?_⟩
      have := congrArg Prod.fst he
      have e2 : xs.map (·.1) = ds := by simpa using this
      rw [← e2]; simp [hb]
    · cases h

theorem take_one_at {cs : List Value} {i j m : Nat} {v : Value} (hj : j < m) (h : (((cs.drop i).take m).drop j).take 1 = [v]) : cs[i + j]? = some v := by
  have := congrArg (·[0]?) h
  simp only [List.getElem?_take, List.getElem?_drop] at this
  simpa [hj] using this

/-- The tables of words, as they are listed. -/
def wordsData {H : Type} : DataW H := .agg ((List.range 7).map fun a => .agg ((List.range 10).map fun b => .lit (.string (wflat.getD (a * 10 + b) []))))
theorem words_cells {H : Type} {enc : TypeId × Value → H} {W : World} {base : Nat} {sp : Nat → Bool} {held : Bool} {fuel : Nat} {cs : List Value} {p : List MemPlace}
    (h : DataW.trod enc Tryz.prog W base sp held fuel 114 cs = some (wordsData, p)) : ∀ i, i < 70 → cs[i]? = some (.string ⟨(wflat.getD i []).toArray⟩) := by
  obtain ⟨f, h1⟩ := trod_arr (n := 7) (e := 113) (m := 10) Tryz.underlying114 (by kernel_rfl) h
  intro i hi
  obtain ⟨a, b, ha, hb, rfl⟩ : ∃ a b, a < 7 ∧ b < 10 ∧ i = a * 10 + b := ⟨i / 10, i % 10, by omega, by omega, by omega⟩
  obtain ⟨y, hy, hd⟩ := h1 a ha
  have e1 : y.1 = .agg ((List.range 10).map fun b => .lit (.string (wflat.getD (a * 10 + b) []))) := by
    simp [ha] at hd
    exact hd.symm
  obtain ⟨y1, y2⟩ := y
  cases e1
  obtain ⟨f2, h2⟩ := trod_arr (n := 10) (e := 9) (m := 1) Tryz.underlying113 (by kernel_rfl) hy
  obtain ⟨z, hz, hd2⟩ := h2 b hb
  obtain ⟨s, hs, rfl, _⟩ := DataW.trod_string Tryz.underlying9 hz
  have e2 : s.data.toList = wflat.getD (a * 10 + b) [] := by
    simp [hb] at hd2
    exact hd2.symm
  rw [Nat.mul_one] at hs
  rw [take_one_at hb hs, ← e2, Array.toArray_toList]

/-- The bounds of the fields, as they are listed. -/
def boundsData {H : Type} : DataW H := .agg ((List.range 7).map fun a => .agg [.lit (.int .i64 (bndL.getD (2 * a) 0)), .lit (.int .i64 (bndL.getD (2 * a + 1) 0))])
theorem bounds_cells {H : Type} {enc : TypeId × Value → H} {W : World} {base : Nat} {sp : Nat → Bool} {held : Bool} {fuel : Nat} {cs : List Value} {p : List MemPlace}
    (h : DataW.trod enc Tryz.prog W base sp held fuel 161 cs = some (boundsData, p)) : ∀ i, i < 14 → cs[i]? = some (.int .i64 (bndL.getD i 0)) := by
  obtain ⟨f, h1⟩ := trod_arr (n := 7) (e := 160) (m := 2) Tryz.underlying161 (by kernel_rfl) h
  intro i hi
  obtain ⟨a, b, ha, hb, rfl⟩ : ∃ a b, a < 7 ∧ b < 2 ∧ i = a * 2 + b := ⟨i / 2, i % 2, by omega, by omega, by omega⟩
  obtain ⟨y, hy, hd⟩ := h1 a ha
  have e1 : y.1 = .agg [.lit (.int .i64 (bndL.getD (2 * a) 0)), .lit (.int .i64 (bndL.getD (2 * a + 1) 0))] := by
    simp [ha] at hd
    exact hd.symm
  obtain ⟨y1, y2⟩ := y
  cases e1
  obtain ⟨xs, n, _, hx, _, hxl, hxs⟩ := DataW.trod_struct Tryz.underlying160 hy
  have hx1 := congrArg Prod.fst hx
  have c3 : Tryz.prog.cellsOf 3 = 1 := by kernel_rfl
  have q : ∀ j, j < 2 → DataW.trod enc Tryz.prog W base sp held n 3 (((((cs.drop (a * 2)).take 2)).drop j).take 1) = xs[j]? := by
    intro j hj
    rcases (show j = 0 ∨ j = 1 by omega) with rfl | rfl
    · have : DataW.trod enc Tryz.prog W base sp held n 3 (((((cs.drop (a * 2)).take 2)).drop 0).take (Tryz.prog.cellsOf 3)) = xs[0]? := hxs 0 _ rfl
      rw [c3] at this; exact this
    · have : DataW.trod enc Tryz.prog W base sp held n 3 (((((cs.drop (a * 2)).take 2)).drop 1).take (Tryz.prog.cellsOf 3)) = xs[1]? := hxs 1 _ rfl
      rw [c3] at this; exact this
  have hq := q b hb
  have hm : xs.map (·.1) = [DataW.lit (.int .i64 (bndL.getD (2 * a) 0)), .lit (.int .i64 (bndL.getD (2 * a + 1) 0))] := by
    have := hx1
    simp only [DataW.agg.injEq] at this
    exact this.symm
  have hmb : (xs.map (·.1))[b]? = some (.lit (.int .i64 (bndL.getD (a * 2 + b) 0))) := by
    rw [hm]
    rcases (show b = 0 ∨ b = 1 by omega) with rfl | rfl
    · simp [Nat.mul_comm]
    · simp [Nat.mul_comm]
  rw [List.getElem?_map, Option.map_eq_some_iff] at hmb
  obtain ⟨z, hz1, hz2⟩ := hmb
  rw [hz1] at hq
  obtain ⟨k, hk1, rfl, _⟩ := DataW.trod_int Tryz.underlying3 hq
  rw [take_one_at hb hk1]
  simp only [DataW.lit.injEq, Lit.int.injEq, true_and] at hz2
  rw [hz2]

theorem var_lt {P : Program} {w : World} {n : String} {g : Nat} {cs : Array Value} (hg : P.globalNamed n = some g) (h : w.var? P n = some cs) : g < w.heap.size := by
  simp only [World.var?, hg, Option.bind_some] at h
  by_cases hl : g < w.heap.size
  · exact hl
  · have : w.heap[g]? = none := Array.getElem?_eq_none (by omega)
    rw [this] at h
    cases h

/-- What the list gives. The errors: 0 Object, 1 Op, 2 Event, 3 Many, 4 Code. -/
theorem glob_of_list {L : List (String × DataW Unit)} {W : World} (hsh : W.ShapedOpen Tryz.prog) (hH : laidMetH Tryz.prog L W)
    (l0 : (L.filter fun x => x.1 == "umpire/api.ErrObject") = [("umpire/api.ErrObject", Rows.laid_umpire_api_ErrObject)])
    (l1 : (L.filter fun x => x.1 == "umpire/api.ErrOp") = [("umpire/api.ErrOp", Rows.laid_umpire_api_ErrOp)])
    (l2 : (L.filter fun x => x.1 == "umpire/api.ErrEvent") = [("umpire/api.ErrEvent", Rows.laid_umpire_api_ErrEvent)])
    (l3 : (L.filter fun x => x.1 == "umpire/api.ErrMany") = [("umpire/api.ErrMany", Rows.laid_umpire_api_ErrMany)])
    (l4 : (L.filter fun x => x.1 == "umpire/api.ErrCode") = [("umpire/api.ErrCode", Rows.laid_umpire_api_ErrCode)])
    (l5 : (L.filter fun x => x.1 == "strconv.ErrSyntax") = [("strconv.ErrSyntax", Rows.laid_strconv_ErrSyntax)])
    (l6 : (L.filter fun x => x.1 == "strconv.ErrRange") = [("strconv.ErrRange", Rows.laid_strconv_ErrRange)])
    (lt : (L.filter fun x => x.1 == "internal/strconv.uint64pow10") = [("internal/strconv.uint64pow10", Lib.tabData .u64 Lib.pow10Tab)])
    (lw : (L.filter fun x => x.1 == "umpire/event.words") = [("umpire/event.words", wordsData)])
    (lb : (L.filter fun x => x.1 == "umpire/event.bounds") = [("umpire/event.bounds", boundsData)]) :
    ∃ er, Glob 212 er W := by
  obtain ⟨e0, h0⟩ := err_of_one (g := 0) (by kernel_rfl) (by kernel_rfl) (one_of_list hH _ l0 (by kernel_rfl))
  obtain ⟨e1, h1⟩ := err_of_one (g := 2) (by kernel_rfl) (by kernel_rfl) (one_of_list hH _ l1 (by kernel_rfl))
  obtain ⟨e2, h2⟩ := err_of_one (g := 3) (by kernel_rfl) (by kernel_rfl) (one_of_list hH _ l2 (by kernel_rfl))
  obtain ⟨e3, h3⟩ := err_of_one (g := 4) (by kernel_rfl) (by kernel_rfl) (one_of_list hH _ l3 (by kernel_rfl))
  obtain ⟨e4, h4⟩ := err_of_one (g := 6) (by kernel_rfl) (by kernel_rfl) (one_of_list hH _ l4 (by kernel_rfl))
  obtain ⟨e5, h5⟩ := err_of_one (g := 11) (by kernel_rfl) (by kernel_rfl) (one_of_list hH _ l5 (by kernel_rfl))
  obtain ⟨e6, h6⟩ := err_of_one (g := 12) (by kernel_rfl) (by kernel_rfl) (one_of_list hH _ l6 (by kernel_rfl))
  have htab := Lib.tabIs_of_head (P := Tryz.prog) (W := W) (g := 8) (t := 188) (e := 176) (n := 20) (k := .u64) (zs := Lib.pow10Tab) (rest := []) (by kernel_rfl) (by kernel_rfl) (by kernel_rfl) (by kernel_rfl) (by kernel_rfl) (by kernel_rfl) (one_of_list hH _ lt (by kernel_rfl))
  obtain ⟨m, hm⟩ := cell_of_shapedOpen_int (zero := #[.int .i64 0]) (t := 3) (g := 7) hsh (of_decide_eq_true (by kernel_rfl)) (by kernel_rfl) rfl (by kernel_rfl) (by kernel_rfl) Tryz.underlying3
  have hwords : WordsAt W := by
    obtain ⟨ps, ⟨g0, t0, cs0, f0, p0, q0, hg0, ht0, hv0, hd0, hq0, _⟩, _, _⟩ := one_of_list hH _ lw (by kernel_rfl)
    obtain rfl := Option.some.inj ((show Tryz.prog.globalNamed "umpire/event.words" = some 1 by kernel_rfl).symm.trans hg0)
    obtain rfl := Option.some.inj ((show (Tryz.prog.globals[1]?).map (·.type) = some 114 by kernel_rfl).symm.trans ht0)
    intro i hi
    rw [World.var?_cell hg0 hv0 i]
    have := words_cells hd0 i hi
    simpa using this
  have hbounds : BoundsAt W := by
    obtain ⟨ps, ⟨g0, t0, cs0, f0, p0, q0, hg0, ht0, hv0, hd0, hq0, _⟩, _, _⟩ := one_of_list hH _ lb (by kernel_rfl)
    obtain rfl := Option.some.inj ((show Tryz.prog.globalNamed "umpire/event.bounds" = some 5 by kernel_rfl).symm.trans hg0)
    obtain rfl := Option.some.inj ((show (Tryz.prog.globals[5]?).map (·.type) = some 161 by kernel_rfl).symm.trans ht0)
    intro i hi
    rw [World.var?_cell hg0 hv0 i]
    have := bounds_cells hd0 i hi
    simpa using this
  have hsz : 13 ≤ W.heap.size := by
    obtain ⟨ps, ⟨g0, t0, cs0, f0, p0, q0, hg0, ht0, hv0, hd0, hq0, _⟩, _, _⟩ := one_of_list hH _ l6 (by kernel_rfl)
    obtain rfl := Option.some.inj ((show Tryz.prog.globalNamed "strconv.ErrRange" = some 12 by kernel_rfl).symm.trans hg0)
    exact var_lt hg0 hv0
  exact ⟨fun | 0 => e1 | 2 => e2 | 3 => e0 | 5 => e3 | _ => e4, ⟨hsz, h1, h2, h0, h3, h4, ⟨m, hm⟩, ⟨_, _, h5⟩, ⟨_, _, h6⟩, htab, hwords, hbounds⟩⟩

/-- The cells that a plain datum takes. -/
def flat1 : DataW Unit → List Value
  | .lit (.int k n) => [.int k n]
  | .lit (.string s) => [.string ⟨s.toArray⟩]
  | _ => []
def flat2 : DataW Unit → List Value
  | .agg ps => ps.flatMap fun x => match x with
    | .agg qs => qs.flatMap flat1
    | y => flat1 y
  | _ => []
def errText : DataW Unit → ByteArray
  | .iface _ (.ptr (.agg [.lit (.string s)])) => ⟨s.toArray⟩
  | _ => ⟨#[]⟩
noncomputable def low : Nat := (World.holding Tryz.prog default ⟨#[], #[], []⟩).heap.size
def filled (vs : Array Value) : Obj → Obj
  | .cells _ t fr => .cells vs t fr
  | o => o
noncomputable def laidWorld (os : Os) : World :=
  let w0 := World.holding Tryz.prog os ⟨#[.cells #[.string (errText Rows.laid_umpire_api_ErrObject)] 214, .cells #[.string (errText Rows.laid_umpire_api_ErrOp)] 214, .cells #[.string (errText Rows.laid_umpire_api_ErrEvent)] 214, .cells #[.string (errText Rows.laid_umpire_api_ErrMany)] 214, .cells #[.string (errText Rows.laid_umpire_api_ErrCode)] 214, .cells #[.string (errText Rows.laid_strconv_ErrSyntax)] 214, .cells #[.string (errText Rows.laid_strconv_ErrRange)] 214], #[], []⟩
  let e := fun (h : Array Obj) (g k : Nat) => h.modify g (filled #[.iface 212 (.pointer (some ⟨low + k, 0, none⟩))])
  let t := fun (h : Array Obj) (g : Nat) (d : DataW Unit) => h.modify g (filled (flat2 d).toArray)
  { w0 with heap := t (t (t (t (t (e (e (e (e (e (e (e w0.heap 0 0) 2 1) 3 2) 4 3) 6 4) 11 5) 12 6) 1 Rows.laid_umpire_event_words) 5 Rows.laid_umpire_event_bounds) 8 Rows.laid_internal_strconv_uint64pow10) 9 Rows.laid_math_bits_deBruijn32tab) 10 Rows.laid_math_bits_deBruijn64tab }

theorem laid_met (os : Os) (args : Array Value) : laidMet Tryz.prog Rows.storeAsksRow.laid ((laidWorld os).forCall (fun _ _ => 0) ⟨#[], args, []⟩).memory :=
  laidMet_of_run' 8 (by kernel_rfl) (by kernel_rfl)
end Go.Proofs.YtcjfcomadcebnaaGreatDoor
