/- Helpers, joined: Hc, Hd, He, Hf, Hg. -/
import Derived.Test.YtfjjhjojcgacbaaDoorM2

/- Same of objects and of events, the document's, by contracts. -/
namespace Go.Proofs.YtfjjhjojcgacbaaDoor
open Go.RowKit Go.Maps Go.WideMaps Go.WideElems Go.ChangeShapes Go.WideShapes

theorem beq_yes {x y : Int} (h : x = y) : (x == y) = true := by simp [h]
theorem beq_no {x y : Int} (h : ¬ x = y) : (x == y) = false := by simp [h]
theorem row_two {W : World} {B : Nat} {x0 x1 : Value} {t : TypeId} (h : W.heap[B]? = some (.cells #[x0, x1] t)) : W.cell? ⟨B, 0, none⟩ = some x0 ∧ W.cell? ⟨B, 1, none⟩ = some x1 := by simp [World.cell?, h]
theorem row_eight {W : World} {B : Nat} {x0 x1 x2 x3 x4 x5 x6 x7 : Value} {t : TypeId} (h : W.heap[B]? = some (.cells #[x0, x1, x2, x3, x4, x5, x6, x7] t)) : W.cell? ⟨B, 0, none⟩ = some x0 ∧ W.cell? ⟨B, 1, none⟩ = some x1 ∧ W.cell? ⟨B, 2, none⟩ = some x2 ∧ W.cell? ⟨B, 3, none⟩ = some x3 ∧ W.cell? ⟨B, 4, none⟩ = some x4 ∧ W.cell? ⟨B, 5, none⟩ = some x5 ∧ W.cell? ⟨B, 6, none⟩ = some x6 ∧ W.cell? ⟨B, 7, none⟩ = some x7 := by simp [World.cell?, h]

set_option maxHeartbeats 4000000 in
set_option maxRecDepth 100000 in
theorem robj_eq (p0 p1 q0 q1 : Int) (w : World) : Calls Tryd.prog 48 #[.agg #[.int .i64 p0, .int .i64 p1], .agg #[.int .i64 q0, .int .i64 q1]] w fun e w' => e = .returned (.bool (decide (p0 = q0 ∧ p1 = q1))) ∧ Hid (Below w.heap.size w w') := by
  obtain ⟨W1, hW1, Hb1, hs1, Hx1⟩ := cells_new w #[.int .i64 p0, .int .i64 p1] 31
  obtain ⟨W, hW, Hb2, hs2, Hy⟩ := cells_new W1 #[.int .i64 q0, .int .i64 q1] 31
  have Hx : Hid (W.heap[w.heap.size]? = some (.cells #[.int .i64 p0, .int .i64 p1] 31)) := keepB Hb2.out Hx1.out
  have HB : Hid (Below w.heap.size w W) := stepB Hb1.out Hb2.out
  obtain ⟨a0, a1⟩ := row_two Hx.out
  obtain ⟨b0, b1⟩ := row_two Hy.out
  clear Hb1 Hb2 Hx1
  by_cases e0 : p0 = q0
  rotate_left
  · have t0 := beq_no e0
    have HR : (decide (p0 = q0 ∧ p1 = q1)) = false := by simp [e0]
    rw [HR]
    clear HR e0
    go_enter Tryd.func48, Tryd.ntmps48
    go_wp2
    go_ret
    exact ⟨rfl, HB.out⟩
  by_cases e1 : p1 = q1
  rotate_left
  · have t1 := beq_no e1
    have t0 := beq_yes e0
    have HR : (decide (p0 = q0 ∧ p1 = q1)) = false := by simp [e1]
    rw [HR]
    clear HR e0 e1
    go_enter Tryd.func48, Tryd.ntmps48
    go_wp2
    go_ret
    exact ⟨rfl, HB.out⟩
  have t0 := beq_yes e0
  have t1 := beq_yes e1
  have HR : (decide (p0 = q0 ∧ p1 = q1)) = true := by simp [e0, e1]
  rw [HR]
  clear HR e0 e1
  go_enter Tryd.func48, Tryd.ntmps48
  go_wp2
  go_ret
  exact ⟨rfl, HB.out⟩

set_option maxHeartbeats 4000000 in
set_option maxRecDepth 100000 in
theorem rev_eq (p0 p1 p2 p3 p4 p5 p6 p7 q0 q1 q2 q3 q4 q5 q6 q7 : Int) (w : World) : Calls Tryd.prog 42 #[.agg #[.int .i64 p0, .int .i64 p1, .int .i64 p2, .int .i64 p3, .int .i64 p4, .int .i64 p5, .int .i64 p6, .int .i64 p7], .agg #[.int .i64 q0, .int .i64 q1, .int .i64 q2, .int .i64 q3, .int .i64 q4, .int .i64 q5, .int .i64 q6, .int .i64 q7]] w fun e w' => e = .returned (.bool (decide (p0 = q0 ∧ p1 = q1 ∧ p2 = q2 ∧ p3 = q3 ∧ p4 = q4 ∧ p5 = q5 ∧ p6 = q6 ∧ p7 = q7))) ∧ Hid (Below w.heap.size w w') := by
  obtain ⟨W1, hW1, Hb1, hs1, Hx1⟩ := cells_new w #[.int .i64 p0, .int .i64 p1, .int .i64 p2, .int .i64 p3, .int .i64 p4, .int .i64 p5, .int .i64 p6, .int .i64 p7] 34
  obtain ⟨W, hW, Hb2, hs2, Hy⟩ := cells_new W1 #[.int .i64 q0, .int .i64 q1, .int .i64 q2, .int .i64 q3, .int .i64 q4, .int .i64 q5, .int .i64 q6, .int .i64 q7] 34
  have Hx : Hid (W.heap[w.heap.size]? = some (.cells #[.int .i64 p0, .int .i64 p1, .int .i64 p2, .int .i64 p3, .int .i64 p4, .int .i64 p5, .int .i64 p6, .int .i64 p7] 34)) := keepB Hb2.out Hx1.out
  have HB : Hid (Below w.heap.size w W) := stepB Hb1.out Hb2.out
  obtain ⟨a0, a1, a2, a3, a4, a5, a6, a7⟩ := row_eight Hx.out
  obtain ⟨b0, b1, b2, b3, b4, b5, b6, b7⟩ := row_eight Hy.out
  clear Hb1 Hb2 Hx1
  by_cases e0 : p0 = q0
  rotate_left
  · have t0 := beq_no e0
    have HR : (decide (p0 = q0 ∧ p1 = q1 ∧ p2 = q2 ∧ p3 = q3 ∧ p4 = q4 ∧ p5 = q5 ∧ p6 = q6 ∧ p7 = q7)) = false := by simp [e0]
    rw [HR]
    clear HR e0
    go_enter Tryd.func42, Tryd.ntmps42
    go_wp2
    go_ret
    exact ⟨rfl, HB.out⟩
  by_cases e1 : p1 = q1
  rotate_left
  · have t1 := beq_no e1
    have t0 := beq_yes e0
    have HR : (decide (p0 = q0 ∧ p1 = q1 ∧ p2 = q2 ∧ p3 = q3 ∧ p4 = q4 ∧ p5 = q5 ∧ p6 = q6 ∧ p7 = q7)) = false := by simp [e1]
    rw [HR]
    clear HR e0 e1
    go_enter Tryd.func42, Tryd.ntmps42
    go_wp2
    go_ret
    exact ⟨rfl, HB.out⟩
  by_cases e2 : p2 = q2
  rotate_left
  · have t2 := beq_no e2
    have t0 := beq_yes e0
    have t1 := beq_yes e1
    have HR : (decide (p0 = q0 ∧ p1 = q1 ∧ p2 = q2 ∧ p3 = q3 ∧ p4 = q4 ∧ p5 = q5 ∧ p6 = q6 ∧ p7 = q7)) = false := by simp [e2]
    rw [HR]
    clear HR e0 e1 e2
    go_enter Tryd.func42, Tryd.ntmps42
    go_wp2
    go_ret
    exact ⟨rfl, HB.out⟩
  by_cases e3 : p3 = q3
  rotate_left
  · have t3 := beq_no e3
    have t0 := beq_yes e0
    have t1 := beq_yes e1
    have t2 := beq_yes e2
    have HR : (decide (p0 = q0 ∧ p1 = q1 ∧ p2 = q2 ∧ p3 = q3 ∧ p4 = q4 ∧ p5 = q5 ∧ p6 = q6 ∧ p7 = q7)) = false := by simp [e3]
    rw [HR]
    clear HR e0 e1 e2 e3
    go_enter Tryd.func42, Tryd.ntmps42
    go_wp2
    go_ret
    exact ⟨rfl, HB.out⟩
  by_cases e4 : p4 = q4
  rotate_left
  · have t4 := beq_no e4
    have t0 := beq_yes e0
    have t1 := beq_yes e1
    have t2 := beq_yes e2
    have t3 := beq_yes e3
    have HR : (decide (p0 = q0 ∧ p1 = q1 ∧ p2 = q2 ∧ p3 = q3 ∧ p4 = q4 ∧ p5 = q5 ∧ p6 = q6 ∧ p7 = q7)) = false := by simp [e4]
    rw [HR]
    clear HR e0 e1 e2 e3 e4
    go_enter Tryd.func42, Tryd.ntmps42
    go_wp2
    go_ret
    exact ⟨rfl, HB.out⟩
  by_cases e5 : p5 = q5
  rotate_left
  · have t5 := beq_no e5
    have t0 := beq_yes e0
    have t1 := beq_yes e1
    have t2 := beq_yes e2
    have t3 := beq_yes e3
    have t4 := beq_yes e4
    have HR : (decide (p0 = q0 ∧ p1 = q1 ∧ p2 = q2 ∧ p3 = q3 ∧ p4 = q4 ∧ p5 = q5 ∧ p6 = q6 ∧ p7 = q7)) = false := by simp [e5]
    rw [HR]
    clear HR e0 e1 e2 e3 e4 e5
    go_enter Tryd.func42, Tryd.ntmps42
    go_wp2
    go_ret
    exact ⟨rfl, HB.out⟩
  by_cases e6 : p6 = q6
  rotate_left
  · have t6 := beq_no e6
    have t0 := beq_yes e0
    have t1 := beq_yes e1
    have t2 := beq_yes e2
    have t3 := beq_yes e3
    have t4 := beq_yes e4
    have t5 := beq_yes e5
    have HR : (decide (p0 = q0 ∧ p1 = q1 ∧ p2 = q2 ∧ p3 = q3 ∧ p4 = q4 ∧ p5 = q5 ∧ p6 = q6 ∧ p7 = q7)) = false := by simp [e6]
    rw [HR]
    clear HR e0 e1 e2 e3 e4 e5 e6
    go_enter Tryd.func42, Tryd.ntmps42
    go_wp2
    go_ret
    exact ⟨rfl, HB.out⟩
  by_cases e7 : p7 = q7
  rotate_left
  · have t7 := beq_no e7
    have t0 := beq_yes e0
    have t1 := beq_yes e1
    have t2 := beq_yes e2
    have t3 := beq_yes e3
    have t4 := beq_yes e4
    have t5 := beq_yes e5
    have t6 := beq_yes e6
    have HR : (decide (p0 = q0 ∧ p1 = q1 ∧ p2 = q2 ∧ p3 = q3 ∧ p4 = q4 ∧ p5 = q5 ∧ p6 = q6 ∧ p7 = q7)) = false := by simp [e7]
    rw [HR]
    clear HR e0 e1 e2 e3 e4 e5 e6 e7
    go_enter Tryd.func42, Tryd.ntmps42
    go_wp2
    go_ret
    exact ⟨rfl, HB.out⟩
  have t0 := beq_yes e0
  have t1 := beq_yes e1
  have t2 := beq_yes e2
  have t3 := beq_yes e3
  have t4 := beq_yes e4
  have t5 := beq_yes e5
  have t6 := beq_yes e6
  have t7 := beq_yes e7
  have HR : (decide (p0 = q0 ∧ p1 = q1 ∧ p2 = q2 ∧ p3 = q3 ∧ p4 = q4 ∧ p5 = q5 ∧ p6 = q6 ∧ p7 = q7)) = true := by simp [e0, e1, e2, e3, e4, e5, e6, e7]
  rw [HR]
  clear HR e0 e1 e2 e3 e4 e5 e6 e7
  go_enter Tryd.func42, Tryd.ntmps42
  go_wp2
  go_ret
  exact ⟨rfl, HB.out⟩
end Go.Proofs.YtfjjhjojcgacbaaDoor

/- Same of rows of objects and of events, the document's, by contracts. -/
namespace Go.Proofs.YtfjjhjojcgacbaaDoor
open Go.RowKit Go.Maps Go.WideMaps Go.WideElems Go.ChangeShapes Go.WideShapes

theorem obs_get : ∀ (os : List (Int × Int)) (k : Nat) (o : Int × Int) (_ : os[k]? = some o), (obs os)[k * 2]? = some (.int .i64 o.1) ∧ (obs os)[k * 2 + 1]? = some (.int .i64 o.2)
  | [], k, o, h => by simp at h
  | o :: os, 0, o', h => by simp at h; subst h; exact ⟨rfl, rfl⟩
  | o :: os, k + 1, o', h => by
    have ih := obs_get os k o' (by simpa using h)
    have e : obs (o :: os) = .int .i64 o.1 :: .int .i64 o.2 :: obs os := rfl
    rw [e, show (k + 1) * 2 = k * 2 + 1 + 1 from by omega]
    simp only [List.getElem?_cons_succ]
    exact ih
theorem evs_get : ∀ (es : List Ev) (k : Nat) (e : Ev) (_ : es[k]? = some e), (evs es)[k * 8]? = some (.int .i64 e.kind) ∧ (evs es)[k * 8 + 1]? = some (.int .i64 e.tx) ∧ (evs es)[k * 8 + 2]? = some (.int .i64 e.thread) ∧ (evs es)[k * 8 + 3]? = some (.int .i64 e.obj) ∧ (evs es)[k * 8 + 4]? = some (.int .i64 e.op) ∧ (evs es)[k * 8 + 5]? = some (.int .i64 e.key) ∧ (evs es)[k * 8 + 6]? = some (.int .i64 e.val) ∧ (evs es)[k * 8 + 7]? = some (.int .i64 e.ret)
  | [], k, o, h => by simp at h
  | o :: os, 0, o', h => by simp at h; subst h; exact ⟨rfl, rfl, rfl, rfl, rfl, rfl, rfl, rfl⟩
  | o :: os, k + 1, o', h => by
    have ih := evs_get os k o' (by simpa using h)
    have e : evs (o :: os) = .int .i64 o.kind :: .int .i64 o.tx :: .int .i64 o.thread :: .int .i64 o.obj :: .int .i64 o.op :: .int .i64 o.key :: .int .i64 o.val :: .int .i64 o.ret :: evs os := rfl
    rw [e, show (k + 1) * 8 = k * 8 + 1 + 1 + 1 + 1 + 1 + 1 + 1 + 1 from by omega]
    simp only [show ∀ a b : Nat, a + 1 + 1 + 1 + 1 + 1 + 1 + 1 + 1 + b = a + b + 8 from by intro a b; omega, List.getElem?_cons_succ]
    simpa using ih
/-- The elements that lie there, now and later. -/
def ObAt (w : World) (a : Option Addr) (es : List (Int × Int)) (n : Nat) : Prop := ∀ k, k < n → ∃ b o e, a = some ⟨b, o, none⟩ ∧ es[k]? = some e ∧ ∀ V, Below w.heap.size w V → (V.cell? ⟨b, o + k * 2, none⟩ = some (.int .i64 e.1) ∧ V.cell? ⟨b, o + k * 2 + 1, none⟩ = some (.int .i64 e.2))
theorem ObAt.of {w : World} {a : Option Addr} {es : List (Int × Int)} {n : Nat} (h : SlAt w a (obs es)) (hn : es.length = n) : ObAt w a es n := by
  intro k hk
  have hk2 : es[k]? = some es[k] := List.getElem?_eq_getElem (by omega)
  have g := obs_get es k _ hk2
  rcases h with ⟨_, h0⟩ | ⟨b, o, rfl, hb, hc⟩
  · rw [h0] at g; simp at g
  have hb2 : b < w.heap.size := hb (by intro e; rw [e] at g; simp at g)
  refine ⟨b, o, _, rfl, hk2, fun V hV => ?_⟩
  have K : ∀ i u, (obs es)[i]? = some u → V.cell? ⟨b, o + i, none⟩ = some u := fun i u hi => (hV.cell (p := ⟨b, o + i, none⟩) hb2).trans (hc i u hi)
  exact ⟨K _ _ g.1, K _ _ g.2⟩
theorem ObAt.below {w V : World} {a : Option Addr} {es : List (Int × Int)} {n : Nat} (h : ObAt w a es n) (hb : Below w.heap.size w V) : ObAt V a es n := by
  intro k hk
  obtain ⟨b, o, e, h1, h2, h3⟩ := h k hk
  exact ⟨b, o, e, h1, h2, fun U hU => h3 U (stepB hb hU)⟩
/-- The elements that lie there, now and later. -/
def EvsAt (w : World) (a : Option Addr) (es : List Ev) (n : Nat) : Prop := ∀ k, k < n → ∃ b o e, a = some ⟨b, o, none⟩ ∧ es[k]? = some e ∧ ∀ V, Below w.heap.size w V → (V.cell? ⟨b, o + k * 8, none⟩ = some (.int .i64 e.kind) ∧ V.cell? ⟨b, o + k * 8 + 1, none⟩ = some (.int .i64 e.tx) ∧ V.cell? ⟨b, o + k * 8 + 2, none⟩ = some (.int .i64 e.thread) ∧ V.cell? ⟨b, o + k * 8 + 3, none⟩ = some (.int .i64 e.obj) ∧ V.cell? ⟨b, o + k * 8 + 4, none⟩ = some (.int .i64 e.op) ∧ V.cell? ⟨b, o + k * 8 + 5, none⟩ = some (.int .i64 e.key) ∧ V.cell? ⟨b, o + k * 8 + 6, none⟩ = some (.int .i64 e.val) ∧ V.cell? ⟨b, o + k * 8 + 7, none⟩ = some (.int .i64 e.ret))
theorem EvsAt.of {w : World} {a : Option Addr} {es : List Ev} {n : Nat} (h : SlAt w a (evs es)) (hn : es.length = n) : EvsAt w a es n := by
  intro k hk
  have hk2 : es[k]? = some es[k] := List.getElem?_eq_getElem (by omega)
  have g := evs_get es k _ hk2
  rcases h with ⟨_, h0⟩ | ⟨b, o, rfl, hb, hc⟩
  · rw [h0] at g; simp at g
  have hb2 : b < w.heap.size := hb (by intro e; rw [e] at g; simp at g)
  refine ⟨b, o, _, rfl, hk2, fun V hV => ?_⟩
  have K : ∀ i u, (evs es)[i]? = some u → V.cell? ⟨b, o + i, none⟩ = some u := fun i u hi => (hV.cell (p := ⟨b, o + i, none⟩) hb2).trans (hc i u hi)
  exact ⟨K _ _ g.1, K _ _ g.2.1, K _ _ g.2.2.1, K _ _ g.2.2.2.1, K _ _ g.2.2.2.2.1, K _ _ g.2.2.2.2.2.1, K _ _ g.2.2.2.2.2.2.1, K _ _ g.2.2.2.2.2.2.2⟩
theorem EvsAt.below {w V : World} {a : Option Addr} {es : List Ev} {n : Nat} (h : EvsAt w a es n) (hb : Below w.heap.size w V) : EvsAt V a es n := by
  intro k hk
  obtain ⟨b, o, e, h1, h2, h3⟩ := h k hk
  exact ⟨b, o, e, h1, h2, fun U hU => h3 U (stepB hb hU)⟩
theorem take_next {α : Type} {l m : List α} {k : Nat} {x : α} (h : l.take k = m.take k) (hl : l[k]? = some x) (hm : m[k]? = some x) : l.take (k + 1) = m.take (k + 1) := by
  rw [List.take_add_one, List.take_add_one, h, hl, hm]
theorem ne_get {α : Type} {l m : List α} {k : Nat} {x y : α} (hl : l[k]? = some x) (hm : m[k]? = some y) (h : ¬ x = y) : ¬ l = m := by
  intro e; subst e; rw [hl] at hm; exact h (Option.some.inj hm)
theorem whole_eq {α : Type} {l m : List α} {n : Nat} (h : l.take n = m.take n) (hl : l.length = n) (hm : m.length = n) : l = m := by
  rwa [List.take_of_length_le (by omega), List.take_of_length_le (by omega)] at h
theorem ev_ext {x y : Ev} (h : x.kind = y.kind ∧ x.tx = y.tx ∧ x.thread = y.thread ∧ x.obj = y.obj ∧ x.op = y.op ∧ x.key = y.key ∧ x.val = y.val ∧ x.ret = y.ret) : y = x := by
  obtain ⟨_, _, _, _, _, _, _, _⟩ := x
  obtain ⟨_, _, _, _, _, _, _, _⟩ := y
  obtain ⟨h1, h2, h3, h4, h5, h6, h7, h8⟩ := h
  simp only at h1 h2 h3 h4 h5 h6 h7 h8
  subst h1 h2 h3 h4 h5 h6 h7 h8
  rfl

set_option maxHeartbeats 4000000 in
set_option maxRecDepth 100000 in
theorem robs_same (a a' : Option Addr) (c c' n m : Nat) (l l' : List (Int × Int)) (hn : l.length = n) (hm : l'.length = m) (hb : n ≤ 100000 ∧ m ≤ 100000) (w : World) (h : ObAt w a l n) (h' : ObAt w a' l' m) :
    Calls Tryd.prog 35 #[.slice a n c, .slice a' m c'] w fun e w' => e = .returned (.bool (decide (l = l'))) ∧ Hid (Below w.heap.size w w') := by
  by_cases hnm : n = m
  rotate_left
  · have HR : decide (l = l') = false := decide_eq_false (by intro e; subst e; omega)
    rw [HR]
    clear HR h h' hn hm
    go_enter Tryd.func35, Tryd.ntmps35
    go_wp2
    go_ret
    exact ⟨rfl, Below.refl _ _⟩
  subst hnm
  obtain ⟨R, hR⟩ : ∃ R, decide (l = l') = R := ⟨_, rfl⟩
  rw [hR]
  have HR := Lib.hid hR
  have H := Lib.hid h
  have H' := Lib.hid h'
  have Hn := Lib.hid hn
  have Hm := Lib.hid hm
  have HE := Lib.hid robj_eq
  have hT0 : Hid (l.take 0 = l'.take 0) := by show _ = _; simp
  have hb1 := hb.1
  clear h h' hn hm hR hb
  go_enter Tryd.func35, Tryd.ntmps35
  go_wp2_with fail
  go_loopw [5] (fun i wr => ∃ k : Nat, k ≤ n ∧ i = .int .i64 k ∧ Hid (l.take k = l'.take k) ∧ Hid (Below w.heap.size w wr)) (fun i _ => n - (intOf i).toNat)
  case atStart => exact ⟨0, Nat.zero_le _, rfl, hT0.out, Below.refl _ _⟩
  case round =>
    clear hT0
    obtain ⟨k, hk, rfl, hT, HB⟩ := hrel
    by_cases hlt : k < n
    · obtain ⟨b1, o1, x, rfl, hx, hc⟩ := H.out k hlt
      obtain ⟨b2, o2, y, rfl, hy, hc'⟩ := H'.out k hlt
      have HC : Hid (∀ V, Below wr.heap.size wr V → (V.cell? ⟨b1, o1 + k * 2, none⟩ = some (.int .i64 x.1) ∧ V.cell? ⟨b1, o1 + k * 2 + 1, none⟩ = some (.int .i64 x.2)) ∧ (V.cell? ⟨b2, o2 + k * 2, none⟩ = some (.int .i64 y.1) ∧ V.cell? ⟨b2, o2 + k * 2 + 1, none⟩ = some (.int .i64 y.2))) := fun V hV => ⟨hc V (stepB HB.out hV), hc' V (stepB HB.out hV)⟩
      have BD : Hid (Below wr.heap.size wr wr.drew) := stepD (Below.refl _ _)
      have HS := Lib.hid (fun V => HE.out x.1 x.2 y.1 y.2 V)
      clear hc hc' HE
      by_cases hq : x.1 = y.1 ∧ x.2 = y.2
      · have HT1 : Hid (l.take (k + 1) = l'.take (k + 1)) := take_next hT.out hx (by rw [hy]; exact congrArg some (Prod.ext hq.1.symm hq.2.symm))
        simp only [decide_eq_true hq] at HS
        clear hq hx hy hT
        go_wp2_with fail
        go_region_held3 (fun w' => (w'.cell? ⟨b1, o1 + k * 2, none⟩ = some (.int .i64 x.1) ∧ w'.cell? ⟨b1, o1 + k * 2 + 1, none⟩ = some (.int .i64 x.2)) ∧ (w'.cell? ⟨b2, o2 + k * 2, none⟩ = some (.int .i64 y.1) ∧ w'.cell? ⟨b2, o2 + k * 2 + 1, none⟩ = some (.int .i64 y.2)))
          (first | (with_reducible exact HC.out _ BD.out) | (with_reducible exact HC.out _ (stepB BD.out h8.out)))
          (first | (go_at_call 48; (with_reducible refine (HS.out _).mono ?_); rintro e w8 ⟨rfl, h8⟩))
        all_goals
          have H8 : Hid (Below w.heap.size w w8) := stepB HB.out (stepB BD.out h8.out)
          go_wp2_with fail
          go_roundw
          case rel => exact ⟨k + 1, by omega, by go_num, HT1.out, H8.out⟩
          case measure => simp [intOf]; omega
      · have HF : Hid (R = false) := by show _ = _; rw [← HR.out]; exact decide_eq_false (ne_get hx hy (by rintro rfl; exact hq ⟨rfl, rfl⟩))
        simp only [decide_eq_false hq] at HS
        clear hq hx hy hT
        go_wp2_with fail
        go_region_held3 (fun w' => (w'.cell? ⟨b1, o1 + k * 2, none⟩ = some (.int .i64 x.1) ∧ w'.cell? ⟨b1, o1 + k * 2 + 1, none⟩ = some (.int .i64 x.2)) ∧ (w'.cell? ⟨b2, o2 + k * 2, none⟩ = some (.int .i64 y.1) ∧ w'.cell? ⟨b2, o2 + k * 2 + 1, none⟩ = some (.int .i64 y.2)))
          (first | (with_reducible exact HC.out _ BD.out) | (with_reducible exact HC.out _ (stepB BD.out h8.out)))
          (first | (go_at_call 48; (with_reducible refine (HS.out _).mono ?_); rintro e w8 ⟨rfl, h8⟩))
        all_goals
          have H8 : Hid (Below w.heap.size w w8) := stepB HB.out (stepB BD.out h8.out)
          go_wp2_with fail
          go_ret
          exact ⟨by rw [HF.out]; rfl, H8.out⟩
    · have hkn : k = n := by omega
      have HF : Hid (R = true) := by show _ = _; rw [← HR.out]; exact decide_eq_true (whole_eq (hkn ▸ hT.out) Hn.out Hm.out)
      go_wp2_with fail
      go_ret
      exact ⟨by rw [HF.out]; rfl, HB.out⟩

set_option maxHeartbeats 4000000 in
set_option maxRecDepth 100000 in
theorem revs_same (a a' : Option Addr) (c c' n m : Nat) (l l' : List Ev) (hn : l.length = n) (hm : l'.length = m) (hb : n ≤ 100000 ∧ m ≤ 100000) (w : World) (h : EvsAt w a l n) (h' : EvsAt w a' l' m) :
    Calls Tryd.prog 36 #[.slice a n c, .slice a' m c'] w fun e w' => e = .returned (.bool (decide (l = l'))) ∧ Hid (Below w.heap.size w w') := by
  by_cases hnm : n = m
  rotate_left
  · have HR : decide (l = l') = false := decide_eq_false (by intro e; subst e; omega)
    rw [HR]
    clear HR h h' hn hm
    go_enter Tryd.func36, Tryd.ntmps36
    go_wp2
    go_ret
    exact ⟨rfl, Below.refl _ _⟩
  subst hnm
  obtain ⟨R, hR⟩ : ∃ R, decide (l = l') = R := ⟨_, rfl⟩
  rw [hR]
  have HR := Lib.hid hR
  have H := Lib.hid h
  have H' := Lib.hid h'
  have Hn := Lib.hid hn
  have Hm := Lib.hid hm
  have HE := Lib.hid rev_eq
  have hT0 : Hid (l.take 0 = l'.take 0) := by show _ = _; simp
  have hb1 := hb.1
  clear h h' hn hm hR hb
  go_enter Tryd.func36, Tryd.ntmps36
  go_wp2_with fail
  go_loopw [5] (fun i wr => ∃ k : Nat, k ≤ n ∧ i = .int .i64 k ∧ Hid (l.take k = l'.take k) ∧ Hid (Below w.heap.size w wr)) (fun i _ => n - (intOf i).toNat)
  case atStart => exact ⟨0, Nat.zero_le _, rfl, hT0.out, Below.refl _ _⟩
  case round =>
    clear hT0
    obtain ⟨k, hk, rfl, hT, HB⟩ := hrel
    by_cases hlt : k < n
    · obtain ⟨b1, o1, x, rfl, hx, hc⟩ := H.out k hlt
      obtain ⟨b2, o2, y, rfl, hy, hc'⟩ := H'.out k hlt
      have HC : Hid (∀ V, Below wr.heap.size wr V → (V.cell? ⟨b1, o1 + k * 8, none⟩ = some (.int .i64 x.kind) ∧ V.cell? ⟨b1, o1 + k * 8 + 1, none⟩ = some (.int .i64 x.tx) ∧ V.cell? ⟨b1, o1 + k * 8 + 2, none⟩ = some (.int .i64 x.thread) ∧ V.cell? ⟨b1, o1 + k * 8 + 3, none⟩ = some (.int .i64 x.obj) ∧ V.cell? ⟨b1, o1 + k * 8 + 4, none⟩ = some (.int .i64 x.op) ∧ V.cell? ⟨b1, o1 + k * 8 + 5, none⟩ = some (.int .i64 x.key) ∧ V.cell? ⟨b1, o1 + k * 8 + 6, none⟩ = some (.int .i64 x.val) ∧ V.cell? ⟨b1, o1 + k * 8 + 7, none⟩ = some (.int .i64 x.ret)) ∧ (V.cell? ⟨b2, o2 + k * 8, none⟩ = some (.int .i64 y.kind) ∧ V.cell? ⟨b2, o2 + k * 8 + 1, none⟩ = some (.int .i64 y.tx) ∧ V.cell? ⟨b2, o2 + k * 8 + 2, none⟩ = some (.int .i64 y.thread) ∧ V.cell? ⟨b2, o2 + k * 8 + 3, none⟩ = some (.int .i64 y.obj) ∧ V.cell? ⟨b2, o2 + k * 8 + 4, none⟩ = some (.int .i64 y.op) ∧ V.cell? ⟨b2, o2 + k * 8 + 5, none⟩ = some (.int .i64 y.key) ∧ V.cell? ⟨b2, o2 + k * 8 + 6, none⟩ = some (.int .i64 y.val) ∧ V.cell? ⟨b2, o2 + k * 8 + 7, none⟩ = some (.int .i64 y.ret))) := fun V hV => ⟨hc V (stepB HB.out hV), hc' V (stepB HB.out hV)⟩
      have BD : Hid (Below wr.heap.size wr wr.drew) := stepD (Below.refl _ _)
      have HS := Lib.hid (fun V => HE.out x.kind x.tx x.thread x.obj x.op x.key x.val x.ret y.kind y.tx y.thread y.obj y.op y.key y.val y.ret V)
      clear hc hc' HE
      by_cases hq : x.kind = y.kind ∧ x.tx = y.tx ∧ x.thread = y.thread ∧ x.obj = y.obj ∧ x.op = y.op ∧ x.key = y.key ∧ x.val = y.val ∧ x.ret = y.ret
      · have HT1 : Hid (l.take (k + 1) = l'.take (k + 1)) := take_next hT.out hx (by rw [hy]; exact congrArg some (ev_ext hq))
        simp only [decide_eq_true hq] at HS
        clear hq hx hy hT
        go_wp2_with fail
        go_region_held3 (fun w' => (w'.cell? ⟨b1, o1 + k * 8, none⟩ = some (.int .i64 x.kind) ∧ w'.cell? ⟨b1, o1 + k * 8 + 1, none⟩ = some (.int .i64 x.tx) ∧ w'.cell? ⟨b1, o1 + k * 8 + 2, none⟩ = some (.int .i64 x.thread) ∧ w'.cell? ⟨b1, o1 + k * 8 + 3, none⟩ = some (.int .i64 x.obj) ∧ w'.cell? ⟨b1, o1 + k * 8 + 4, none⟩ = some (.int .i64 x.op) ∧ w'.cell? ⟨b1, o1 + k * 8 + 5, none⟩ = some (.int .i64 x.key) ∧ w'.cell? ⟨b1, o1 + k * 8 + 6, none⟩ = some (.int .i64 x.val) ∧ w'.cell? ⟨b1, o1 + k * 8 + 7, none⟩ = some (.int .i64 x.ret)) ∧ (w'.cell? ⟨b2, o2 + k * 8, none⟩ = some (.int .i64 y.kind) ∧ w'.cell? ⟨b2, o2 + k * 8 + 1, none⟩ = some (.int .i64 y.tx) ∧ w'.cell? ⟨b2, o2 + k * 8 + 2, none⟩ = some (.int .i64 y.thread) ∧ w'.cell? ⟨b2, o2 + k * 8 + 3, none⟩ = some (.int .i64 y.obj) ∧ w'.cell? ⟨b2, o2 + k * 8 + 4, none⟩ = some (.int .i64 y.op) ∧ w'.cell? ⟨b2, o2 + k * 8 + 5, none⟩ = some (.int .i64 y.key) ∧ w'.cell? ⟨b2, o2 + k * 8 + 6, none⟩ = some (.int .i64 y.val) ∧ w'.cell? ⟨b2, o2 + k * 8 + 7, none⟩ = some (.int .i64 y.ret)))
          (first | (with_reducible exact HC.out _ BD.out) | (with_reducible exact HC.out _ (stepB BD.out h8.out)))
          (first | (go_at_call 42; (with_reducible refine (HS.out _).mono ?_); rintro e w8 ⟨rfl, h8⟩))
        all_goals
          have H8 : Hid (Below w.heap.size w w8) := stepB HB.out (stepB BD.out h8.out)
          go_wp2_with fail
          go_roundw
          case rel => exact ⟨k + 1, by omega, by go_num, HT1.out, H8.out⟩
          case measure => simp [intOf]; omega
      · have HF : Hid (R = false) := by show _ = _; rw [← HR.out]; exact decide_eq_false (ne_get hx hy (by rintro rfl; exact hq ⟨rfl, rfl, rfl, rfl, rfl, rfl, rfl, rfl⟩))
        simp only [decide_eq_false hq] at HS
        clear hq hx hy hT
        go_wp2_with fail
        go_region_held3 (fun w' => (w'.cell? ⟨b1, o1 + k * 8, none⟩ = some (.int .i64 x.kind) ∧ w'.cell? ⟨b1, o1 + k * 8 + 1, none⟩ = some (.int .i64 x.tx) ∧ w'.cell? ⟨b1, o1 + k * 8 + 2, none⟩ = some (.int .i64 x.thread) ∧ w'.cell? ⟨b1, o1 + k * 8 + 3, none⟩ = some (.int .i64 x.obj) ∧ w'.cell? ⟨b1, o1 + k * 8 + 4, none⟩ = some (.int .i64 x.op) ∧ w'.cell? ⟨b1, o1 + k * 8 + 5, none⟩ = some (.int .i64 x.key) ∧ w'.cell? ⟨b1, o1 + k * 8 + 6, none⟩ = some (.int .i64 x.val) ∧ w'.cell? ⟨b1, o1 + k * 8 + 7, none⟩ = some (.int .i64 x.ret)) ∧ (w'.cell? ⟨b2, o2 + k * 8, none⟩ = some (.int .i64 y.kind) ∧ w'.cell? ⟨b2, o2 + k * 8 + 1, none⟩ = some (.int .i64 y.tx) ∧ w'.cell? ⟨b2, o2 + k * 8 + 2, none⟩ = some (.int .i64 y.thread) ∧ w'.cell? ⟨b2, o2 + k * 8 + 3, none⟩ = some (.int .i64 y.obj) ∧ w'.cell? ⟨b2, o2 + k * 8 + 4, none⟩ = some (.int .i64 y.op) ∧ w'.cell? ⟨b2, o2 + k * 8 + 5, none⟩ = some (.int .i64 y.key) ∧ w'.cell? ⟨b2, o2 + k * 8 + 6, none⟩ = some (.int .i64 y.val) ∧ w'.cell? ⟨b2, o2 + k * 8 + 7, none⟩ = some (.int .i64 y.ret)))
          (first | (with_reducible exact HC.out _ BD.out) | (with_reducible exact HC.out _ (stepB BD.out h8.out)))
          (first | (go_at_call 42; (with_reducible refine (HS.out _).mono ?_); rintro e w8 ⟨rfl, h8⟩))
        all_goals
          have H8 : Hid (Below w.heap.size w w8) := stepB HB.out (stepB BD.out h8.out)
          go_wp2_with fail
          go_ret
          exact ⟨by rw [HF.out]; rfl, H8.out⟩
    · have hkn : k = n := by omega
      have HF : Hid (R = true) := by show _ = _; rw [← HR.out]; exact decide_eq_true (whole_eq (hkn ▸ hT.out) Hn.out Hm.out)
      go_wp2_with fail
      go_ret
      exact ⟨by rw [HF.out]; rfl, HB.out⟩
end Go.Proofs.YtfjjhjojcgacbaaDoor

/- Histories: Same, Clone, Prefix, by contracts. -/
namespace Go.Proofs.YtfjjhjojcgacbaaDoor
open Go.RowKit Go.Maps Go.WideMaps Go.WideElems Go.ChangeShapes Go.WideShapes

theorem results_row1 {P : Program} {fn : Func} {p : Tmp} {ty : TypeId} (h : fn.results = #[.cell p ty]) (tmps : Array Value) (w : World) (g : Nat) (t : TypeId) (cs : Array Value) (fr : Nat × Nat) (d : TypeDesc)
    (hp : tmps.getD p undef = .pointer (some ⟨g, 0, none⟩)) (hg : w.heap[g]? = some (.cells cs t fr))
    (hu : P.underlying ty = some d) (hd : (match d with | .struct _ | .array _ _ => true | _ => false) = true) (hi : (P.info? ty).map (·.size) = some cs.size) :
    (results fn tmps).run P w = .ok (.agg cs) w := by
  have hp' : tmps[p]?.getD undef = .pointer (some ⟨g, 0, none⟩) := by simpa using hp
  simp only [results, h]
  simp [hp', asAddr, run_loadVar_row w g t ty cs fr d hg hu hd hi]


theorem box_put2x {w V : World} {rb : Nat} {x y : Value} {t : TypeId} (p q : Value) (hM : V.heap[rb]? = some (.cells #[x, y] t)) (hr : w.heap.size ≤ rb) :
    ∃ V1 V2, V.setCell ⟨rb, 0, none⟩ p = V1 ∧ V1.setCell ⟨rb, 1, none⟩ q = V2 ∧ ((V.cell? ⟨rb, 0, none⟩ = some x ∧ V.frozen? ⟨rb, 0, none⟩ = false) ∧ (V1.cell? ⟨rb, 1, none⟩ = some y ∧ V1.frozen? ⟨rb, 1, none⟩ = false)) ∧ Hid (V2.heap[rb]? = some (.cells #[p, q] t)) ∧ Hid (Below w.heap.size V V2) ∧ Hid (∀ b o u, b ≠ rb → V.cell? ⟨b, o, none⟩ = some u → V2.cell? ⟨b, o, none⟩ = some u) ∧ Hid (∀ (B : Nat) (e : TypeId) (size n : Nat) (v : Value) (xs : List Value), rb < B → V.ownsRow B e size v n xs → V2.ownsRow B e size v n xs) := by
  obtain ⟨V1, V2, h1, h2, h3, h4, h5⟩ := box_put2 (w := w) p q hM hr
  refine ⟨V1, V2, h1, h2, h3, h4, h5, ?_, ?_⟩
  · intro b o u hne hc
    rw [← h2, ← h1]
    exact cellS hne (cellS hne hc)
  · intro B e size n v xs hb ho
    rw [← h2, ← h1]
    exact ownsRow_setCell_below (ownsRow_setCell_below ho hb _) hb _
/-- The value of a history. -/
abbrev hv (a : Option Addr) (n c : Nat) (b : Option Addr) (m d : Nat) : Value := .agg #[.slice a n c, .slice b m d]

set_option maxHeartbeats 4000000 in
set_option maxRecDepth 100000 in
theorem rhis_same (a a' b b' : Option Addr) (c c' d d' n n' m m' : Nat) (l l' : List (Int × Int)) (k k' : List Ev) (hn : l.length = n) (hn' : l'.length = n') (hm : k.length = m) (hm' : k'.length = m') (hb : n ≤ 100000 ∧ n' ≤ 100000 ∧ m ≤ 100000 ∧ m' ≤ 100000) (w : World) (h : ObAt w a l n) (h' : ObAt w a' l' n') (g : EvsAt w b k m) (g' : EvsAt w b' k' m') :
    Calls Tryd.prog 12 #[hv a n c b m d, hv a' n' c' b' m' d'] w fun e w' => e = .returned (.bool (decide (l = l') && decide (k = k'))) ∧ Hid (Below w.heap.size w w') := by
  obtain ⟨W1, hW1, Hb1, hs1, Hx1⟩ := cells_new w #[.slice a n c, .slice b m d] 25
  obtain ⟨W, hW, Hb2, hs2, Hy⟩ := cells_new W1 #[.slice a' n' c', .slice b' m' d'] 25
  have HB : Hid (Below w.heap.size w W) := stepB Hb1.out Hb2.out
  have HX : Hid (W.heap[w.heap.size]? = some (.cells #[.slice a n c, .slice b m d] 25)) := keepB Hb2.out Hx1.out
  obtain ⟨a0, a1⟩ := row_two HX.out
  obtain ⟨b0, b1⟩ := row_two Hy.out
  have H1 := Lib.hid (robs_same a a' c c' n n' l l' hn hn' ⟨hb.1, hb.2.1⟩ W (h.below HB.out) (h'.below HB.out))
  have H2 := Lib.hid (fun V hV => revs_same b b' d d' m m' k k' hm hm' hb.2.2 V ((g.below HB.out).below hV) ((g'.below HB.out).below hV))
  clear h h' g g' hn hn' hm hm' hb Hb1 Hb2 Hx1
  generalize decide (l = l') = R1 at *
  generalize decide (k = k') = R2 at *
  cases R1 <;> cases R2
  all_goals
    go_enter Tryd.func12, Tryd.ntmps12
    go_wp2_with (first
      | (go_at_call 35; (with_reducible refine H1.out.mono ?_); rintro e w2 ⟨rfl, h2⟩
         obtain ⟨c0, c1⟩ := row_two (keepB h2.out HX.out)
         obtain ⟨d0, d1⟩ := row_two (keepB h2.out Hy.out))
      | (go_at_call 36; (with_reducible refine (H2.out _ h2.out).mono ?_); rintro e w3 ⟨rfl, h3⟩))
    go_ret
    exact ⟨rfl, stepB HB.out (stepB h2.out h3.out)⟩

set_option maxHeartbeats 4000000 in
set_option maxRecDepth 100000 in
/-- hist.Clone. -/
theorem clone_his (a b : Option Addr) (n c m d : Nat) (xs ys : List Value) (hx : xs.length = n * 2) (hy : ys.length = m * 8) (h1 : ∀ u ∈ xs, u.oneCell' = true) (h2 : ∀ u ∈ ys, u.oneCell' = true) (hn : n ≤ 100000 ∧ m ≤ 100000) (w : World) (h : SlAt w a xs) (g : SlAt w b ys) :
    Calls Tryd.prog 37 #[hv a n c b m d] w fun e w' => ∃ v1 v2, e = .returned (.agg #[v1, v2]) ∧ Hid (w'.ownsRow w.heap.size 31 2 v1 n xs ∧ w'.ownsRow w.heap.size 34 8 v2 m ys ∧ Below w.heap.size w w') := by
  obtain ⟨W1, hW1, Hb1, hs1, Hx1⟩ := cells_new w #[.slice a n c, .slice b m d] 25
  obtain ⟨W, hW, Hb2, hs2, Hy⟩ := cells_new W1 #[.slice none 0 0, .slice none 0 0] 25
  have HB : Hid (Below w.heap.size w W) := stepB Hb1.out Hb2.out
  have HX : Hid (∀ V, Below W.heap.size W V → V.cell? ⟨w.heap.size, 0, none⟩ = some (.slice a n c) ∧ V.cell? ⟨w.heap.size, 1, none⟩ = some (.slice b m d)) := fun V hV => row_two (keepB hV (keepB Hb2.out Hx1.out))
  have H1 := Lib.hid (fun V hV => clone_obs a n c xs hx h1 hn.1 V ((h.below HB.out).below hV))
  have H2 := Lib.hid (fun V hV => clone_evs b m d ys hy h2 hn.2 V ((g.below HB.out).below hV))
  have Hw1 : Hid (w.heap.size < W1.heap.size) := hs1.out
  clear h g hx hy h1 h2 hn Hb1 Hb2 Hx1
  have HS0 := HX.out W (Below.refl _ _)
  have BD : Hid (Below W.heap.size W W.drew) := stepD (Below.refl _ _)
  go_enter Tryd.func37, Tryd.ntmps37
  go_wp2_with fail
  go_region_held3 (fun w' => w'.cell? ⟨w.heap.size, 0, none⟩ = some (.slice a n c) ∧ w'.cell? ⟨w.heap.size, 1, none⟩ = some (.slice b m d))
    (first | (with_reducible exact HS0) | (with_reducible exact HX.out _ BD.out) | (with_reducible exact HX.out _ (stepB BD.out K2.out.2)) | (with_reducible exact HX.out _ (stepB (stepB BD.out K2.out.2) K3.out.2)) | (with_reducible exact HXF.out))
    (first
      | (go_at_call 39; (with_reducible refine (H1.out _ BD.out).mono ?_); rintro e w2 ⟨v1, rfl, K2⟩; obtain ⟨a1, c1, rfl, -, -⟩ := row_sl K2.out.1)
      | (go_at_call 49; (with_reducible refine (H2.out _ (stepB BD.out K2.out.2)).mono ?_); rintro e w3 ⟨v2, rfl, K3⟩; obtain ⟨a2, c2, rfl, -, -⟩ := row_sl K3.out.1
         have B3 : Hid (Below W.heap.size W w3) := stepB (stepB BD.out K2.out.2) K3.out.2
         obtain ⟨F1, F2, hF1, hF2, ⟨⟨f0, e0⟩, ⟨f1, e1⟩⟩, HF, HE, HC, HO⟩ := box_put2x (w := w) (.slice a1 n c1) (.slice a2 m c2) (keepB B3.out Hy.out) (Nat.le_of_lt Hw1.out)
         have HXF : Hid (F2.cell? ⟨w.heap.size, 0, none⟩ = some (.slice a n c) ∧ F2.cell? ⟨w.heap.size, 1, none⟩ = some (.slice b m d)) := ⟨HC.out _ _ _ (Nat.ne_of_lt Hw1.out) (HX.out _ B3.out).1, HC.out _ _ _ (Nat.ne_of_lt Hw1.out) (HX.out _ B3.out).2⟩))
  all_goals
    go_wp2_with fail
    refine bodyPost_ret (results_row1 rfl _ _ W1.heap.size 25 _ (0, 0) _ rfl HF.out Tryd.underlying25 rfl (by kernel_rfl)) rfl ?_
    refine ⟨_, _, rfl, ?_, ?_, (stepB HB.out B3.out).trans HE.out⟩
    · exact row_base (HO.out _ _ _ _ _ _ (Nat.lt_of_lt_of_le hs2.out BD.out.size) (row_kept K2.out.1 K3.out.2)) (Nat.le_trans HB.out.size BD.out.size)
    · exact row_base (HO.out _ _ _ _ _ _ (Nat.lt_of_lt_of_le hs2.out (stepB BD.out K2.out.2).size) K3.out.1) (Nat.le_trans HB.out.size (stepB BD.out K2.out.2).size)

set_option maxHeartbeats 4000000 in
set_option maxRecDepth 100000 in
/-- The document's copy. -/
theorem rhis (a b : Option Addr) (n c m d : Nat) (xs ys : List Value) (hx : xs.length = n * 2) (hy : ys.length = m * 8) (h1 : ∀ u ∈ xs, u.oneCell' = true) (h2 : ∀ u ∈ ys, u.oneCell' = true) (hn : n ≤ 100000 ∧ m ≤ 100000) (w : World) (h : SlAt w a xs) (g : SlAt w b ys) :
    Calls Tryd.prog 32 #[hv a n c b m d] w fun e w' => ∃ v1 v2, e = .returned (.agg #[v1, v2]) ∧ Hid (w'.ownsRow w.heap.size 31 2 v1 n xs ∧ w'.ownsRow w.heap.size 34 8 v2 m ys ∧ Below w.heap.size w w') := by
  obtain ⟨W1, hW1, Hb1, hs1, Hx1⟩ := cells_new w #[.slice a n c, .slice b m d] 25
  obtain ⟨W, hW, Hb2, hs2, Hy⟩ := cells_new W1 #[.slice none 0 0, .slice none 0 0] 25
  have HB : Hid (Below w.heap.size w W) := stepB Hb1.out Hb2.out
  have HX : Hid (∀ V, Below W.heap.size W V → V.cell? ⟨w.heap.size, 0, none⟩ = some (.slice a n c) ∧ V.cell? ⟨w.heap.size, 1, none⟩ = some (.slice b m d)) := fun V hV => row_two (keepB hV (keepB Hb2.out Hx1.out))
  have H1 := Lib.hid (fun V hV => robs a n c xs hx hn.1 h1 V ((h.below HB.out).below hV))
  have H2 := Lib.hid (fun V hV => revs b m d ys hy hn.2 h2 V ((g.below HB.out).below hV))
  have Hw1 : Hid (w.heap.size < W1.heap.size) := hs1.out
  clear h g hx hy h1 h2 hn Hb1 Hb2 Hx1
  have HS0 := HX.out W (Below.refl _ _)
  have BD : Hid (Below W.heap.size W W.drew) := stepD (Below.refl _ _)
  go_enter Tryd.func32, Tryd.ntmps32
  go_wp2_with fail
  go_region_held3 (fun w' => w'.cell? ⟨w.heap.size, 0, none⟩ = some (.slice a n c) ∧ w'.cell? ⟨w.heap.size, 1, none⟩ = some (.slice b m d))
    (first | (with_reducible exact HS0) | (with_reducible exact HX.out _ BD.out) | (with_reducible exact HX.out _ (stepB BD.out K2.out.2)) | (with_reducible exact HX.out _ (stepB (stepB BD.out K2.out.2) K3.out.2)) | (with_reducible exact HXF.out))
    (first
      | (go_at_call 10; (with_reducible refine (H1.out _ BD.out).mono ?_); rintro e w2 ⟨v1, rfl, K2⟩; obtain ⟨a1, c1, rfl, -, -⟩ := row_sl K2.out.1)
      | (go_at_call 11; (with_reducible refine (H2.out _ (stepB BD.out K2.out.2)).mono ?_); rintro e w3 ⟨v2, rfl, K3⟩; obtain ⟨a2, c2, rfl, -, -⟩ := row_sl K3.out.1
         have B3 : Hid (Below W.heap.size W w3) := stepB (stepB BD.out K2.out.2) K3.out.2
         obtain ⟨F1, F2, hF1, hF2, ⟨⟨f0, e0⟩, ⟨f1, e1⟩⟩, HF, HE, HC, HO⟩ := box_put2x (w := w) (.slice a1 n c1) (.slice a2 m c2) (keepB B3.out Hy.out) (Nat.le_of_lt Hw1.out)
         have HXF : Hid (F2.cell? ⟨w.heap.size, 0, none⟩ = some (.slice a n c) ∧ F2.cell? ⟨w.heap.size, 1, none⟩ = some (.slice b m d)) := ⟨HC.out _ _ _ (Nat.ne_of_lt Hw1.out) (HX.out _ B3.out).1, HC.out _ _ _ (Nat.ne_of_lt Hw1.out) (HX.out _ B3.out).2⟩))
  all_goals
    go_wp2_with fail
    refine bodyPost_ret (results_row1 rfl _ _ W1.heap.size 25 _ (0, 0) _ rfl HF.out Tryd.underlying25 rfl (by kernel_rfl)) rfl ?_
    refine ⟨_, _, rfl, ?_, ?_, (stepB HB.out B3.out).trans HE.out⟩
    · exact row_base (HO.out _ _ _ _ _ _ (Nat.lt_of_lt_of_le hs2.out BD.out.size) (row_kept K2.out.1 K3.out.2)) (Nat.le_trans HB.out.size BD.out.size)
    · exact row_base (HO.out _ _ _ _ _ _ (Nat.lt_of_lt_of_le hs2.out (stepB BD.out K2.out.2).size) K3.out.1) (Nat.le_trans HB.out.size (stepB BD.out K2.out.2).size)
end Go.Proofs.YtfjjhjojcgacbaaDoor

/- Prefix, the program's and the document's, by contracts. -/
namespace Go.Proofs.YtfjjhjojcgacbaaDoor
open Go.RowKit Go.Maps Go.WideMaps Go.WideElems Go.ChangeShapes Go.WideShapes

theorem SlAt.take {w : World} {a : Option Addr} {xs : List Value} (h : SlAt w a xs) (i : Nat) : SlAt w a (xs.take i) := by
  rcases h with ⟨h1, h2⟩ | ⟨b, off, rfl, hb, hc⟩
  · exact .inl ⟨h1, by rw [h2]; simp⟩
  · refine .inr ⟨b, off, rfl, fun hx => hb (by intro e; rw [e] at hx; simp at hx), fun j u hj => hc j u ?_⟩
    rw [List.getElem?_take] at hj
    split at hj
    · exact hj
    · cases hj
theorem evs_take (es : List Ev) (k : Nat) : evs (es.take k) = (evs es).take (k * 8) := by
  induction es generalizing k with
  | nil => simp [evs]
  | cons e es ih =>
    cases k with
    | zero => simp [evs]
    | succ k =>
      have h1 : evs (e :: es) = e.row ++ evs es := rfl
      have h2 : evs (e :: es.take k) = e.row ++ evs (es.take k) := rfl
      rw [List.take_succ_cons, h1, h2, ih, List.take_append, show e.row.length = 8 from rfl, List.take_of_length_le (l := e.row) (by show 8 ≤ _; omega), show (k + 1) * 8 - 8 = k * 8 from by omega]
/-- How many events a prefix has. -/
def preN (z : Int) (m : Nat) : Nat := (max 0 (min z m)).toNat
theorem preN_le (z : Int) (m : Nat) : preN z m ≤ m := by unfold preN; omega
theorem preN_one (z : Int) (m : Nat) : min (max z 0) (m : Int) = (preN z m : Int) := by unfold preN; omega
theorem preN_two (z : Int) (m : Nat) : max 0 (min z (m : Int)) = (preN z m : Int) := by unfold preN; omega

set_option maxHeartbeats 4000000 in
set_option maxRecDepth 100000 in
theorem prefix_any (a b : Option Addr) (n c m d : Nat) (z : Int) (xs ys : List Value) (hx : xs.length = n * 2) (hy : ys.length = m * 8) (h1 : ∀ u ∈ xs, u.oneCell' = true) (h2 : ∀ u ∈ ys, u.oneCell' = true) (hn : n ≤ 100000 ∧ m ≤ 100000) (hd : m ≤ d) (w : World) (h : SlAt w a xs) (g : SlAt w b ys) :
    Calls Tryd.prog 13 #[hv a n c b m d, .int .i64 z] w fun e w' => ∃ v1 v2, e = .returned (.agg #[v1, v2]) ∧ Hid (w'.ownsRow w.heap.size 31 2 v1 n xs ∧ w'.ownsRow w.heap.size 34 8 v2 (preN z m) (ys.take (preN z m * 8)) ∧ Below w.heap.size w w') := by
  obtain ⟨W1, hW1, Hb1, hs1, Hx1⟩ := cells_new w #[.slice a n c, .slice b m d] 25
  obtain ⟨W, hW, Hb2, hs2, Hy⟩ := cells_new W1 #[.slice none 0 0, .slice none 0 0] 25
  have HB : Hid (Below w.heap.size w W) := stepB Hb1.out Hb2.out
  have HX : Hid (∀ V, Below W.heap.size W V → V.cell? ⟨w.heap.size, 0, none⟩ = some (.slice a n c) ∧ V.cell? ⟨w.heap.size, 1, none⟩ = some (.slice b m d)) := fun V hV => row_two (keepB hV (keepB Hb2.out Hx1.out))
  have eN : (z < 0 ∧ preN z m = 0) ∨ (z = 0 ∧ preN z m = 0) ∨ ((0 < z ∧ z ≤ m) ∧ z = preN z m) ∨ ((m : Int) < z ∧ m = 0 ∧ preN z m = 0) ∨ ((m : Int) < z ∧ 0 < m ∧ preN z m = m) := by unfold preN; omega
  have hNm := preN_le z m
  obtain ⟨N, hN⟩ : ∃ N, preN z m = N := ⟨_, rfl⟩
  rw [hN] at eN hNm ⊢
  clear hN
  have hty : (ys.take (N * 8)).length = N * 8 := by rw [List.length_take]; omega
  have ht2 : ∀ u ∈ ys.take (N * 8), u.oneCell' = true := fun u hu => h2 u (List.mem_of_mem_take hu)
  have H1 := Lib.hid (fun V hV => clone_his a b n c N d xs (ys.take (N * 8)) hx hty h1 ht2 ⟨hn.1, Nat.le_trans hNm hn.2⟩ V ((h.below HB.out).below hV) (((g.take (N * 8)).below HB.out).below hV))
  have Hw1 : Hid (w.heap.size < W1.heap.size) := hs1.out
  have i0 : (0 : Int) ≤ (N : Int) := by omega
  have i1 : (N : Int) ≤ (d : Int) := by omega
  have i2 : (N : Int) ≤ (m : Int) := by omega
  have i3 : N ≤ d := by omega
  clear h g hx hy h1 h2 hn Hb1 Hb2 Hx1 hty ht2 hNm hd
  have HS0 := HX.out W (Below.refl _ _)
  have BD : Hid (Below W.heap.size W W.drew) := stepD (Below.refl _ _)
  have hm0 : ¬ (m : Int) < 0 := by omega
  have hm1 : (0 : Int) ≤ (m : Int) := by omega
  rcases eN with ⟨q1, rfl⟩ | ⟨rfl, rfl⟩ | ⟨⟨q1, q2⟩, rfl⟩ | ⟨q1, rfl, rfl⟩ | ⟨q1, q2, rfl⟩
  · have q3 : ¬ (m : Int) < z := by omega
    have q4 : ¬ 0 < z := by omega
    obtain ⟨x0, x1⟩ := HX.out W (Below.refl _ _)
    go_enter Tryd.func13, Tryd.ntmps13
    go_wp2_with fail
    clear x0 x1
    go_region_held3 (fun w' => w'.cell? ⟨w.heap.size, 0, none⟩ = some (.slice a n c) ∧ w'.cell? ⟨w.heap.size, 1, none⟩ = some (.slice b m d))
      (first | (with_reducible exact HS0) | (with_reducible exact HX.out _ BD.out) | (with_reducible exact HX.out _ (stepB BD.out K2.out.2.2)) | (with_reducible exact HXF.out))
      (first
        | (go_at_call 37; (with_reducible refine (H1.out _ BD.out).mono ?_); rintro e w2 ⟨v1, v2, rfl, K2⟩; obtain ⟨a1, c1, rfl, -, -⟩ := row_sl K2.out.1; obtain ⟨a2, c2, rfl, -, -⟩ := row_sl K2.out.2.1
           have B3 : Hid (Below W.heap.size W w2) := stepB BD.out K2.out.2.2
           obtain ⟨F1, F2, hF1, hF2, ⟨⟨f0, e0⟩, ⟨f1, e1⟩⟩, HF, HE, HC, HO⟩ := box_put2x (w := w) (.slice a1 n c1) (.slice a2 0 c2) (keepB B3.out Hy.out) (Nat.le_of_lt Hw1.out)
           have HXF : Hid (F2.cell? ⟨w.heap.size, 0, none⟩ = some (.slice a n c) ∧ F2.cell? ⟨w.heap.size, 1, none⟩ = some (.slice b m d)) := ⟨HC.out _ _ _ (Nat.ne_of_lt Hw1.out) (HX.out _ B3.out).1, HC.out _ _ _ (Nat.ne_of_lt Hw1.out) (HX.out _ B3.out).2⟩))
    all_goals
      go_wp2_with fail
      refine bodyPost_ret (results_row1 rfl _ _ W1.heap.size 25 _ (0, 0) _ rfl HF.out Tryd.underlying25 rfl (by kernel_rfl)) rfl ?_
      refine ⟨_, _, rfl, ?_, ?_, (stepB HB.out B3.out).trans HE.out⟩
      · exact row_base (HO.out _ _ _ _ _ _ (Nat.lt_of_lt_of_le hs2.out BD.out.size) K2.out.1) (Nat.le_trans HB.out.size BD.out.size)
      · exact row_base (HO.out _ _ _ _ _ _ (Nat.lt_of_lt_of_le hs2.out BD.out.size) K2.out.2.1) (Nat.le_trans HB.out.size BD.out.size)
  · obtain ⟨x0, x1⟩ := HX.out W (Below.refl _ _)
    go_enter Tryd.func13, Tryd.ntmps13
    go_wp2_with fail
    clear x0 x1
    go_region_held3 (fun w' => w'.cell? ⟨w.heap.size, 0, none⟩ = some (.slice a n c) ∧ w'.cell? ⟨w.heap.size, 1, none⟩ = some (.slice b m d))
      (first | (with_reducible exact HS0) | (with_reducible exact HX.out _ BD.out) | (with_reducible exact HX.out _ (stepB BD.out K2.out.2.2)) | (with_reducible exact HXF.out))
      (first
        | (go_at_call 37; (with_reducible refine (H1.out _ BD.out).mono ?_); rintro e w2 ⟨v1, v2, rfl, K2⟩; obtain ⟨a1, c1, rfl, -, -⟩ := row_sl K2.out.1; obtain ⟨a2, c2, rfl, -, -⟩ := row_sl K2.out.2.1
           have B3 : Hid (Below W.heap.size W w2) := stepB BD.out K2.out.2.2
           obtain ⟨F1, F2, hF1, hF2, ⟨⟨f0, e0⟩, ⟨f1, e1⟩⟩, HF, HE, HC, HO⟩ := box_put2x (w := w) (.slice a1 n c1) (.slice a2 0 c2) (keepB B3.out Hy.out) (Nat.le_of_lt Hw1.out)
           have HXF : Hid (F2.cell? ⟨w.heap.size, 0, none⟩ = some (.slice a n c) ∧ F2.cell? ⟨w.heap.size, 1, none⟩ = some (.slice b m d)) := ⟨HC.out _ _ _ (Nat.ne_of_lt Hw1.out) (HX.out _ B3.out).1, HC.out _ _ _ (Nat.ne_of_lt Hw1.out) (HX.out _ B3.out).2⟩))
    all_goals
      go_wp2_with fail
      refine bodyPost_ret (results_row1 rfl _ _ W1.heap.size 25 _ (0, 0) _ rfl HF.out Tryd.underlying25 rfl (by kernel_rfl)) rfl ?_
      refine ⟨_, _, rfl, ?_, ?_, (stepB HB.out B3.out).trans HE.out⟩
      · exact row_base (HO.out _ _ _ _ _ _ (Nat.lt_of_lt_of_le hs2.out BD.out.size) K2.out.1) (Nat.le_trans HB.out.size BD.out.size)
      · exact row_base (HO.out _ _ _ _ _ _ (Nat.lt_of_lt_of_le hs2.out BD.out.size) K2.out.2.1) (Nat.le_trans HB.out.size BD.out.size)
  · have q3 : ¬ (m : Int) < (N : Int) := by omega
    have q4 : ¬ (N : Int) < 0 := by omega
    obtain ⟨x0, x1⟩ := HX.out W (Below.refl _ _)
    go_enter Tryd.func13, Tryd.ntmps13
    go_wp2_with fail
    clear x0 x1
    go_region_held3 (fun w' => w'.cell? ⟨w.heap.size, 0, none⟩ = some (.slice a n c) ∧ w'.cell? ⟨w.heap.size, 1, none⟩ = some (.slice b m d))
      (first | (with_reducible exact HS0) | (with_reducible exact HX.out _ BD.out) | (with_reducible exact HX.out _ (stepB BD.out K2.out.2.2)) | (with_reducible exact HXF.out))
      (first
        | (go_at_call 37; (with_reducible refine (H1.out _ BD.out).mono ?_); rintro e w2 ⟨v1, v2, rfl, K2⟩; obtain ⟨a1, c1, rfl, -, -⟩ := row_sl K2.out.1; obtain ⟨a2, c2, rfl, -, -⟩ := row_sl K2.out.2.1
           have B3 : Hid (Below W.heap.size W w2) := stepB BD.out K2.out.2.2
           obtain ⟨F1, F2, hF1, hF2, ⟨⟨f0, e0⟩, ⟨f1, e1⟩⟩, HF, HE, HC, HO⟩ := box_put2x (w := w) (.slice a1 n c1) (.slice a2 N c2) (keepB B3.out Hy.out) (Nat.le_of_lt Hw1.out)
           have HXF : Hid (F2.cell? ⟨w.heap.size, 0, none⟩ = some (.slice a n c) ∧ F2.cell? ⟨w.heap.size, 1, none⟩ = some (.slice b m d)) := ⟨HC.out _ _ _ (Nat.ne_of_lt Hw1.out) (HX.out _ B3.out).1, HC.out _ _ _ (Nat.ne_of_lt Hw1.out) (HX.out _ B3.out).2⟩))
    all_goals
      go_wp2_with fail
      refine bodyPost_ret (results_row1 rfl _ _ W1.heap.size 25 _ (0, 0) _ rfl HF.out Tryd.underlying25 rfl (by kernel_rfl)) rfl ?_
      refine ⟨_, _, rfl, ?_, ?_, (stepB HB.out B3.out).trans HE.out⟩
      · exact row_base (HO.out _ _ _ _ _ _ (Nat.lt_of_lt_of_le hs2.out BD.out.size) K2.out.1) (Nat.le_trans HB.out.size BD.out.size)
      · exact row_base (HO.out _ _ _ _ _ _ (Nat.lt_of_lt_of_le hs2.out BD.out.size) K2.out.2.1) (Nat.le_trans HB.out.size BD.out.size)
  · have q3 : ¬ z < 0 := by omega
    have q4 : 0 < z := by omega
    obtain ⟨x0, x1⟩ := HX.out W (Below.refl _ _)
    go_enter Tryd.func13, Tryd.ntmps13
    go_wp2_with fail
    clear x0 x1
    go_region_held3 (fun w' => w'.cell? ⟨w.heap.size, 0, none⟩ = some (.slice a n c) ∧ w'.cell? ⟨w.heap.size, 1, none⟩ = some (.slice b 0 d))
      (first | (with_reducible exact HS0) | (with_reducible exact HX.out _ BD.out) | (with_reducible exact HX.out _ (stepB BD.out K2.out.2.2)) | (with_reducible exact HXF.out))
      (first
        | (go_at_call 37; (with_reducible refine (H1.out _ BD.out).mono ?_); rintro e w2 ⟨v1, v2, rfl, K2⟩; obtain ⟨a1, c1, rfl, -, -⟩ := row_sl K2.out.1; obtain ⟨a2, c2, rfl, -, -⟩ := row_sl K2.out.2.1
           have B3 : Hid (Below W.heap.size W w2) := stepB BD.out K2.out.2.2
           obtain ⟨F1, F2, hF1, hF2, ⟨⟨f0, e0⟩, ⟨f1, e1⟩⟩, HF, HE, HC, HO⟩ := box_put2x (w := w) (.slice a1 n c1) (.slice a2 0 c2) (keepB B3.out Hy.out) (Nat.le_of_lt Hw1.out)
           have HXF : Hid (F2.cell? ⟨w.heap.size, 0, none⟩ = some (.slice a n c) ∧ F2.cell? ⟨w.heap.size, 1, none⟩ = some (.slice b 0 d)) := ⟨HC.out _ _ _ (Nat.ne_of_lt Hw1.out) (HX.out _ B3.out).1, HC.out _ _ _ (Nat.ne_of_lt Hw1.out) (HX.out _ B3.out).2⟩))
    all_goals
      go_wp2_with fail
      refine bodyPost_ret (results_row1 rfl _ _ W1.heap.size 25 _ (0, 0) _ rfl HF.out Tryd.underlying25 rfl (by kernel_rfl)) rfl ?_
      refine ⟨_, _, rfl, ?_, ?_, (stepB HB.out B3.out).trans HE.out⟩
      · exact row_base (HO.out _ _ _ _ _ _ (Nat.lt_of_lt_of_le hs2.out BD.out.size) K2.out.1) (Nat.le_trans HB.out.size BD.out.size)
      · exact row_base (HO.out _ _ _ _ _ _ (Nat.lt_of_lt_of_le hs2.out BD.out.size) K2.out.2.1) (Nat.le_trans HB.out.size BD.out.size)
  · have q3 : ¬ z < 0 := by omega
    have q4 : 0 < z := by omega
    have q5 : (0 : Int) < (N : Int) := by omega
    obtain ⟨x0, x1⟩ := HX.out W (Below.refl _ _)
    go_enter Tryd.func13, Tryd.ntmps13
    go_wp2_with fail
    clear x0 x1
    go_region_held3 (fun w' => w'.cell? ⟨w.heap.size, 0, none⟩ = some (.slice a n c) ∧ w'.cell? ⟨w.heap.size, 1, none⟩ = some (.slice b N d))
      (first | (with_reducible exact HS0) | (with_reducible exact HX.out _ BD.out) | (with_reducible exact HX.out _ (stepB BD.out K2.out.2.2)) | (with_reducible exact HXF.out))
      (first
        | (go_at_call 37; (with_reducible refine (H1.out _ BD.out).mono ?_); rintro e w2 ⟨v1, v2, rfl, K2⟩; obtain ⟨a1, c1, rfl, -, -⟩ := row_sl K2.out.1; obtain ⟨a2, c2, rfl, -, -⟩ := row_sl K2.out.2.1
           have B3 : Hid (Below W.heap.size W w2) := stepB BD.out K2.out.2.2
           obtain ⟨F1, F2, hF1, hF2, ⟨⟨f0, e0⟩, ⟨f1, e1⟩⟩, HF, HE, HC, HO⟩ := box_put2x (w := w) (.slice a1 n c1) (.slice a2 N c2) (keepB B3.out Hy.out) (Nat.le_of_lt Hw1.out)
           have HXF : Hid (F2.cell? ⟨w.heap.size, 0, none⟩ = some (.slice a n c) ∧ F2.cell? ⟨w.heap.size, 1, none⟩ = some (.slice b N d)) := ⟨HC.out _ _ _ (Nat.ne_of_lt Hw1.out) (HX.out _ B3.out).1, HC.out _ _ _ (Nat.ne_of_lt Hw1.out) (HX.out _ B3.out).2⟩))
    all_goals
      go_wp2_with fail
      refine bodyPost_ret (results_row1 rfl _ _ W1.heap.size 25 _ (0, 0) _ rfl HF.out Tryd.underlying25 rfl (by kernel_rfl)) rfl ?_
      refine ⟨_, _, rfl, ?_, ?_, (stepB HB.out B3.out).trans HE.out⟩
      · exact row_base (HO.out _ _ _ _ _ _ (Nat.lt_of_lt_of_le hs2.out BD.out.size) K2.out.1) (Nat.le_trans HB.out.size BD.out.size)
      · exact row_base (HO.out _ _ _ _ _ _ (Nat.lt_of_lt_of_le hs2.out BD.out.size) K2.out.2.1) (Nat.le_trans HB.out.size BD.out.size)

set_option maxHeartbeats 4000000 in
set_option maxRecDepth 100000 in
theorem rprefix_any (a b : Option Addr) (n c m d : Nat) (z : Int) (xs ys : List Value) (hx : xs.length = n * 2) (hy : ys.length = m * 8) (h1 : ∀ u ∈ xs, u.oneCell' = true) (h2 : ∀ u ∈ ys, u.oneCell' = true) (hn : n ≤ 100000 ∧ m ≤ 100000) (hd : m ≤ d) (w : World) (h : SlAt w a xs) (g : SlAt w b ys) :
    Calls Tryd.prog 14 #[hv a n c b m d, .int .i64 z] w fun e w' => ∃ v1 v2, e = .returned (.agg #[v1, v2]) ∧ Hid (w'.ownsRow w.heap.size 31 2 v1 n xs ∧ w'.ownsRow w.heap.size 34 8 v2 (preN z m) (ys.take (preN z m * 8)) ∧ Below w.heap.size w w') := by
  obtain ⟨W1, hW1, Hb1, hs1, Hx1⟩ := cells_new w #[.slice a n c, .slice b m d] 25
  obtain ⟨W, hW, Hb2, hs2, Hy⟩ := cells_new W1 #[.slice none 0 0, .slice none 0 0] 25
  have HB : Hid (Below w.heap.size w W) := stepB Hb1.out Hb2.out
  have HX : Hid (∀ V, Below W.heap.size W V → V.cell? ⟨w.heap.size, 0, none⟩ = some (.slice a n c) ∧ V.cell? ⟨w.heap.size, 1, none⟩ = some (.slice b m d)) := fun V hV => row_two (keepB hV (keepB Hb2.out Hx1.out))
  have eN : (z < 0 ∧ preN z m = 0) ∨ (z = 0 ∧ preN z m = 0) ∨ ((0 < z ∧ z ≤ m) ∧ z = preN z m) ∨ ((m : Int) < z ∧ m = 0 ∧ preN z m = 0) ∨ ((m : Int) < z ∧ 0 < m ∧ preN z m = m) := by unfold preN; omega
  have hNm := preN_le z m
  obtain ⟨N, hN⟩ : ∃ N, preN z m = N := ⟨_, rfl⟩
  rw [hN] at eN hNm ⊢
  clear hN
  have hty : (ys.take (N * 8)).length = N * 8 := by rw [List.length_take]; omega
  have ht2 : ∀ u ∈ ys.take (N * 8), u.oneCell' = true := fun u hu => h2 u (List.mem_of_mem_take hu)
  have H1 := Lib.hid (fun V hV => robs a n c xs hx hn.1 h1 V ((h.below HB.out).below hV))
  have H2 := Lib.hid (fun V hV => revs b N d (ys.take (N * 8)) hty (Nat.le_trans hNm hn.2) ht2 V (((g.take (N * 8)).below HB.out).below hV))
  have Hw1 : Hid (w.heap.size < W1.heap.size) := hs1.out
  have i0 : (0 : Int) ≤ (N : Int) := by omega
  have i1 : (N : Int) ≤ (d : Int) := by omega
  have i2 : (N : Int) ≤ (m : Int) := by omega
  have i3 : N ≤ d := by omega
  clear h g hx hy h1 h2 hn Hb1 Hb2 Hx1 hty ht2 hNm hd
  have HS0 := HX.out W (Below.refl _ _)
  have BD : Hid (Below W.heap.size W W.drew) := stepD (Below.refl _ _)
  have hm0 : ¬ (m : Int) < 0 := by omega
  have hm1 : (0 : Int) ≤ (m : Int) := by omega
  rcases eN with ⟨q1, rfl⟩ | ⟨rfl, rfl⟩ | ⟨⟨q1, q2⟩, rfl⟩ | ⟨q1, rfl, rfl⟩ | ⟨q1, q2, rfl⟩
  · have q3 : ¬ (m : Int) < z := by omega
    have q4 : ¬ 0 < z := by omega
    obtain ⟨x0, x1⟩ := HX.out W (Below.refl _ _)
    go_enter Tryd.func14, Tryd.ntmps14
    go_wp2_with fail
    clear x0 x1
    go_region_held3 (fun w' => w'.cell? ⟨w.heap.size, 0, none⟩ = some (.slice a n c) ∧ w'.cell? ⟨w.heap.size, 1, none⟩ = some (.slice b m d))
      (first | (with_reducible exact HS0) | (with_reducible exact HX.out _ BD.out) | (with_reducible exact HX.out _ (stepB BD.out K2.out.2)) | (with_reducible exact HX.out _ (stepB (stepB BD.out K2.out.2) K3.out.2)) | (with_reducible exact HXF.out))
      (first
        | (go_at_call 10; (with_reducible refine (H1.out _ BD.out).mono ?_); rintro e w2 ⟨v1, rfl, K2⟩; obtain ⟨a1, c1, rfl, -, -⟩ := row_sl K2.out.1)
        | (go_at_call 11; (with_reducible refine (H2.out _ (stepB BD.out K2.out.2)).mono ?_); rintro e w3 ⟨v2, rfl, K3⟩; obtain ⟨a2, c2, rfl, -, -⟩ := row_sl K3.out.1
           have B3 : Hid (Below W.heap.size W w3) := stepB (stepB BD.out K2.out.2) K3.out.2
           obtain ⟨F1, F2, hF1, hF2, ⟨⟨f0, e0⟩, ⟨f1, e1⟩⟩, HF, HE, HC, HO⟩ := box_put2x (w := w) (.slice a1 n c1) (.slice a2 0 c2) (keepB B3.out Hy.out) (Nat.le_of_lt Hw1.out)
           have HXF : Hid (F2.cell? ⟨w.heap.size, 0, none⟩ = some (.slice a n c) ∧ F2.cell? ⟨w.heap.size, 1, none⟩ = some (.slice b m d)) := ⟨HC.out _ _ _ (Nat.ne_of_lt Hw1.out) (HX.out _ B3.out).1, HC.out _ _ _ (Nat.ne_of_lt Hw1.out) (HX.out _ B3.out).2⟩))
    all_goals
      go_wp2_with fail
      refine bodyPost_ret (results_row1 rfl _ _ W1.heap.size 25 _ (0, 0) _ rfl HF.out Tryd.underlying25 rfl (by kernel_rfl)) rfl ?_
      refine ⟨_, _, rfl, ?_, ?_, (stepB HB.out B3.out).trans HE.out⟩
      · exact row_base (HO.out _ _ _ _ _ _ (Nat.lt_of_lt_of_le hs2.out BD.out.size) (row_kept K2.out.1 K3.out.2)) (Nat.le_trans HB.out.size BD.out.size)
      · exact row_base (HO.out _ _ _ _ _ _ (Nat.lt_of_lt_of_le hs2.out (stepB BD.out K2.out.2).size) K3.out.1) (Nat.le_trans HB.out.size (stepB BD.out K2.out.2).size)
  · obtain ⟨x0, x1⟩ := HX.out W (Below.refl _ _)
    go_enter Tryd.func14, Tryd.ntmps14
    go_wp2_with fail
    clear x0 x1
    go_region_held3 (fun w' => w'.cell? ⟨w.heap.size, 0, none⟩ = some (.slice a n c) ∧ w'.cell? ⟨w.heap.size, 1, none⟩ = some (.slice b m d))
      (first | (with_reducible exact HS0) | (with_reducible exact HX.out _ BD.out) | (with_reducible exact HX.out _ (stepB BD.out K2.out.2)) | (with_reducible exact HX.out _ (stepB (stepB BD.out K2.out.2) K3.out.2)) | (with_reducible exact HXF.out))
      (first
        | (go_at_call 10; (with_reducible refine (H1.out _ BD.out).mono ?_); rintro e w2 ⟨v1, rfl, K2⟩; obtain ⟨a1, c1, rfl, -, -⟩ := row_sl K2.out.1)
        | (go_at_call 11; (with_reducible refine (H2.out _ (stepB BD.out K2.out.2)).mono ?_); rintro e w3 ⟨v2, rfl, K3⟩; obtain ⟨a2, c2, rfl, -, -⟩ := row_sl K3.out.1
           have B3 : Hid (Below W.heap.size W w3) := stepB (stepB BD.out K2.out.2) K3.out.2
           obtain ⟨F1, F2, hF1, hF2, ⟨⟨f0, e0⟩, ⟨f1, e1⟩⟩, HF, HE, HC, HO⟩ := box_put2x (w := w) (.slice a1 n c1) (.slice a2 0 c2) (keepB B3.out Hy.out) (Nat.le_of_lt Hw1.out)
           have HXF : Hid (F2.cell? ⟨w.heap.size, 0, none⟩ = some (.slice a n c) ∧ F2.cell? ⟨w.heap.size, 1, none⟩ = some (.slice b m d)) := ⟨HC.out _ _ _ (Nat.ne_of_lt Hw1.out) (HX.out _ B3.out).1, HC.out _ _ _ (Nat.ne_of_lt Hw1.out) (HX.out _ B3.out).2⟩))
    all_goals
      go_wp2_with fail
      refine bodyPost_ret (results_row1 rfl _ _ W1.heap.size 25 _ (0, 0) _ rfl HF.out Tryd.underlying25 rfl (by kernel_rfl)) rfl ?_
      refine ⟨_, _, rfl, ?_, ?_, (stepB HB.out B3.out).trans HE.out⟩
      · exact row_base (HO.out _ _ _ _ _ _ (Nat.lt_of_lt_of_le hs2.out BD.out.size) (row_kept K2.out.1 K3.out.2)) (Nat.le_trans HB.out.size BD.out.size)
      · exact row_base (HO.out _ _ _ _ _ _ (Nat.lt_of_lt_of_le hs2.out (stepB BD.out K2.out.2).size) K3.out.1) (Nat.le_trans HB.out.size (stepB BD.out K2.out.2).size)
  · have q3 : ¬ (m : Int) < (N : Int) := by omega
    have q4 : ¬ (N : Int) < 0 := by omega
    obtain ⟨x0, x1⟩ := HX.out W (Below.refl _ _)
    go_enter Tryd.func14, Tryd.ntmps14
    go_wp2_with fail
    clear x0 x1
    go_region_held3 (fun w' => w'.cell? ⟨w.heap.size, 0, none⟩ = some (.slice a n c) ∧ w'.cell? ⟨w.heap.size, 1, none⟩ = some (.slice b m d))
      (first | (with_reducible exact HS0) | (with_reducible exact HX.out _ BD.out) | (with_reducible exact HX.out _ (stepB BD.out K2.out.2)) | (with_reducible exact HX.out _ (stepB (stepB BD.out K2.out.2) K3.out.2)) | (with_reducible exact HXF.out))
      (first
        | (go_at_call 10; (with_reducible refine (H1.out _ BD.out).mono ?_); rintro e w2 ⟨v1, rfl, K2⟩; obtain ⟨a1, c1, rfl, -, -⟩ := row_sl K2.out.1)
        | (go_at_call 11; (with_reducible refine (H2.out _ (stepB BD.out K2.out.2)).mono ?_); rintro e w3 ⟨v2, rfl, K3⟩; obtain ⟨a2, c2, rfl, -, -⟩ := row_sl K3.out.1
           have B3 : Hid (Below W.heap.size W w3) := stepB (stepB BD.out K2.out.2) K3.out.2
           obtain ⟨F1, F2, hF1, hF2, ⟨⟨f0, e0⟩, ⟨f1, e1⟩⟩, HF, HE, HC, HO⟩ := box_put2x (w := w) (.slice a1 n c1) (.slice a2 N c2) (keepB B3.out Hy.out) (Nat.le_of_lt Hw1.out)
           have HXF : Hid (F2.cell? ⟨w.heap.size, 0, none⟩ = some (.slice a n c) ∧ F2.cell? ⟨w.heap.size, 1, none⟩ = some (.slice b m d)) := ⟨HC.out _ _ _ (Nat.ne_of_lt Hw1.out) (HX.out _ B3.out).1, HC.out _ _ _ (Nat.ne_of_lt Hw1.out) (HX.out _ B3.out).2⟩))
    all_goals
      go_wp2_with fail
      refine bodyPost_ret (results_row1 rfl _ _ W1.heap.size 25 _ (0, 0) _ rfl HF.out Tryd.underlying25 rfl (by kernel_rfl)) rfl ?_
      refine ⟨_, _, rfl, ?_, ?_, (stepB HB.out B3.out).trans HE.out⟩
      · exact row_base (HO.out _ _ _ _ _ _ (Nat.lt_of_lt_of_le hs2.out BD.out.size) (row_kept K2.out.1 K3.out.2)) (Nat.le_trans HB.out.size BD.out.size)
      · exact row_base (HO.out _ _ _ _ _ _ (Nat.lt_of_lt_of_le hs2.out (stepB BD.out K2.out.2).size) K3.out.1) (Nat.le_trans HB.out.size (stepB BD.out K2.out.2).size)
  · have q3 : ¬ z < 0 := by omega
    have q4 : 0 < z := by omega
    obtain ⟨x0, x1⟩ := HX.out W (Below.refl _ _)
    go_enter Tryd.func14, Tryd.ntmps14
    go_wp2_with fail
    clear x0 x1
    go_region_held3 (fun w' => w'.cell? ⟨w.heap.size, 0, none⟩ = some (.slice a n c) ∧ w'.cell? ⟨w.heap.size, 1, none⟩ = some (.slice b 0 d))
      (first | (with_reducible exact HS0) | (with_reducible exact HX.out _ BD.out) | (with_reducible exact HX.out _ (stepB BD.out K2.out.2)) | (with_reducible exact HX.out _ (stepB (stepB BD.out K2.out.2) K3.out.2)) | (with_reducible exact HXF.out))
      (first
        | (go_at_call 10; (with_reducible refine (H1.out _ BD.out).mono ?_); rintro e w2 ⟨v1, rfl, K2⟩; obtain ⟨a1, c1, rfl, -, -⟩ := row_sl K2.out.1)
        | (go_at_call 11; (with_reducible refine (H2.out _ (stepB BD.out K2.out.2)).mono ?_); rintro e w3 ⟨v2, rfl, K3⟩; obtain ⟨a2, c2, rfl, -, -⟩ := row_sl K3.out.1
           have B3 : Hid (Below W.heap.size W w3) := stepB (stepB BD.out K2.out.2) K3.out.2
           obtain ⟨F1, F2, hF1, hF2, ⟨⟨f0, e0⟩, ⟨f1, e1⟩⟩, HF, HE, HC, HO⟩ := box_put2x (w := w) (.slice a1 n c1) (.slice a2 0 c2) (keepB B3.out Hy.out) (Nat.le_of_lt Hw1.out)
           have HXF : Hid (F2.cell? ⟨w.heap.size, 0, none⟩ = some (.slice a n c) ∧ F2.cell? ⟨w.heap.size, 1, none⟩ = some (.slice b 0 d)) := ⟨HC.out _ _ _ (Nat.ne_of_lt Hw1.out) (HX.out _ B3.out).1, HC.out _ _ _ (Nat.ne_of_lt Hw1.out) (HX.out _ B3.out).2⟩))
    all_goals
      go_wp2_with fail
      refine bodyPost_ret (results_row1 rfl _ _ W1.heap.size 25 _ (0, 0) _ rfl HF.out Tryd.underlying25 rfl (by kernel_rfl)) rfl ?_
      refine ⟨_, _, rfl, ?_, ?_, (stepB HB.out B3.out).trans HE.out⟩
      · exact row_base (HO.out _ _ _ _ _ _ (Nat.lt_of_lt_of_le hs2.out BD.out.size) (row_kept K2.out.1 K3.out.2)) (Nat.le_trans HB.out.size BD.out.size)
      · exact row_base (HO.out _ _ _ _ _ _ (Nat.lt_of_lt_of_le hs2.out (stepB BD.out K2.out.2).size) K3.out.1) (Nat.le_trans HB.out.size (stepB BD.out K2.out.2).size)
  · have q3 : ¬ z < 0 := by omega
    have q4 : 0 < z := by omega
    have q5 : (0 : Int) < (N : Int) := by omega
    obtain ⟨x0, x1⟩ := HX.out W (Below.refl _ _)
    go_enter Tryd.func14, Tryd.ntmps14
    go_wp2_with fail
    clear x0 x1
    go_region_held3 (fun w' => w'.cell? ⟨w.heap.size, 0, none⟩ = some (.slice a n c) ∧ w'.cell? ⟨w.heap.size, 1, none⟩ = some (.slice b N d))
      (first | (with_reducible exact HS0) | (with_reducible exact HX.out _ BD.out) | (with_reducible exact HX.out _ (stepB BD.out K2.out.2)) | (with_reducible exact HX.out _ (stepB (stepB BD.out K2.out.2) K3.out.2)) | (with_reducible exact HXF.out))
      (first
        | (go_at_call 10; (with_reducible refine (H1.out _ BD.out).mono ?_); rintro e w2 ⟨v1, rfl, K2⟩; obtain ⟨a1, c1, rfl, -, -⟩ := row_sl K2.out.1)
        | (go_at_call 11; (with_reducible refine (H2.out _ (stepB BD.out K2.out.2)).mono ?_); rintro e w3 ⟨v2, rfl, K3⟩; obtain ⟨a2, c2, rfl, -, -⟩ := row_sl K3.out.1
           have B3 : Hid (Below W.heap.size W w3) := stepB (stepB BD.out K2.out.2) K3.out.2
           obtain ⟨F1, F2, hF1, hF2, ⟨⟨f0, e0⟩, ⟨f1, e1⟩⟩, HF, HE, HC, HO⟩ := box_put2x (w := w) (.slice a1 n c1) (.slice a2 N c2) (keepB B3.out Hy.out) (Nat.le_of_lt Hw1.out)
           have HXF : Hid (F2.cell? ⟨w.heap.size, 0, none⟩ = some (.slice a n c) ∧ F2.cell? ⟨w.heap.size, 1, none⟩ = some (.slice b N d)) := ⟨HC.out _ _ _ (Nat.ne_of_lt Hw1.out) (HX.out _ B3.out).1, HC.out _ _ _ (Nat.ne_of_lt Hw1.out) (HX.out _ B3.out).2⟩))
    all_goals
      go_wp2_with fail
      refine bodyPost_ret (results_row1 rfl _ _ W1.heap.size 25 _ (0, 0) _ rfl HF.out Tryd.underlying25 rfl (by kernel_rfl)) rfl ?_
      refine ⟨_, _, rfl, ?_, ?_, (stepB HB.out B3.out).trans HE.out⟩
      · exact row_base (HO.out _ _ _ _ _ _ (Nat.lt_of_lt_of_le hs2.out BD.out.size) (row_kept K2.out.1 K3.out.2)) (Nat.le_trans HB.out.size BD.out.size)
      · exact row_base (HO.out _ _ _ _ _ _ (Nat.lt_of_lt_of_le hs2.out (stepB BD.out K2.out.2).size) K3.out.1) (Nat.le_trans HB.out.size (stepB BD.out K2.out.2).size)
end Go.Proofs.YtfjjhjojcgacbaaDoor

/- Only and Without, the program's, by contracts. -/
namespace Go.Proofs.YtfjjhjojcgacbaaDoor
open Go.RowKit Go.Maps Go.WideMaps Go.WideElems Go.ChangeShapes Go.WideShapes

theorem row_off {W : World} {B e size n k : Nat} {t : TypeId} {v : Value} {cs : Array Value} {xs : List Value} (hr : W.ownsRow B e size v n xs) (hb : W.heap[k]? = some (.cells cs t)) (hte : t ≠ e) : v.ownBlock ≠ some k := by
  rcases hr.2 with ⟨rfl, _⟩ | ⟨g, cap, cur, rfl, _, hg, _⟩
  · simp [Value.ownBlock]
  · intro e1
    have e2 : g = k := by simpa [Value.ownBlock] using e1
    subst e2
    rw [hb] at hg
    injection hg with hg
    injection hg with _ h2
    exact hte h2
theorem row_setOff {W : World} {B e size n k i : Nat} {t : TypeId} {v : Value} {cs : Array Value} {xs : List Value} (hr : W.ownsRow B e size v n xs) (hb : W.heap[k]? = some (.cells cs t)) (hte : t ≠ e) (x : Value) : (W.setCell ⟨k, i, none⟩ x).ownsRow B e size v n xs := by
  have hne := row_off hr hb hte
  refine ⟨hr.1, hr.2.imp id ?_⟩
  rintro ⟨g, cap, cur, rfl, hB, hg, r⟩
  exact ⟨g, cap, cur, rfl, hB, (Below.heap_setCell _ _ _ _ (fun e => hne (by simp [Value.ownBlock, e]))).trans hg, r⟩
/-- Two rows of unlike elements: the one stays when the other grows. -/
theorem row_other {W U : World} {B e size n : Nat} {v : Value} {xs : List Value} {B' e' size' n' : Nat} {v' : Value} {xs' : List Value} (hr : W.ownsRow B e size v n xs) (hr' : W.ownsRow B' e' size' v' n' xs') (hte : e ≠ e') (hg : W.grownBy U v'.ownBlock) : U.ownsRow B e size v n xs := by
  refine ⟨hr.1, ?_⟩
  rcases hr.2 with h | ⟨g, cap, cur, rfl, hB, hgc, r⟩
  · exact .inl h
  · exact .inr ⟨g, cap, cur, rfl, hB, keepG hg (row_off hr' hgc hte) hgc, r⟩
/-- What is being made: a history in a box, its objects, its events so far. -/
structure OnAt (w : World) (Q : Nat) (v1 : Value) (n : Nat) (xs : List Value) (v : Value) (es : List Ev) (V : World) : Prop where
  below : Below w.heap.size w V
  hq : w.heap.size ≤ Q
  box : V.heap[Q]? = some (.cells #[v1, v] 25)
  row1 : V.ownsRow w.heap.size 31 2 v1 n xs
  row : V.ownsRow w.heap.size 34 8 v es.length (evs es)
section
variable {w : World} {Q : Nat} {v1 : Value} {n : Nat} {xs : List Value} {v : Value} {es : List Ev} {V U : World}
theorem OnAt.next (h : OnAt w Q v1 n xs v es V) (hb : Below V.heap.size V U) : OnAt w Q v1 n xs v es U := ⟨stepB h.below hb, h.hq, keepB hb h.box, row_kept h.row1 hb, row_kept h.row hb⟩
theorem evs_snoc (es : List Ev) (e : Ev) : evs (es ++ [e]) = evs es ++ e.row := by simp [evs]
theorem OnAt.put {e : Ev} {v' : Value} (h : OnAt w Q v1 n xs v es V) (hg : V.grownBy U v.ownBlock) (hr : U.ownsRow w.heap.size 34 8 v' (es.length + 1) (evs es ++ e.row)) :
    ∃ U1, U.setCell ⟨Q, 1, none⟩ v' = U1 ∧ (U.cell? ⟨Q, 1, none⟩ = some v ∧ U.frozen? ⟨Q, 1, none⟩ = false) ∧ Hid (OnAt w Q v1 n xs v' (es ++ [e]) U1) := by
  have hb : U.heap[Q]? = some (.cells #[v1, v] 25) := keepG hg (row_off h.row h.box (by decide)) h.box
  refine ⟨_, rfl, ⟨(cell_of_row _ _ 1 _ _ _ hb).trans rfl, frozen_of_row _ Q 1 _ 25 hb⟩, ?_, h.hq, heap_setCell_same U Q 1 _ 25 v' hb, ?_, ?_⟩
  · exact (h.below.grown hg h.below.size (fun k e => (h.row.lt k e).1)).setCell (p := ⟨Q, 1, none⟩) h.hq _
  · exact row_setOff (row_other h.row1 h.row (by decide) hg) hb (by decide) _
  · rw [evs_snoc, List.length_append]
    exact row_setOff hr hb (by decide) _
end
theorem filter_next {α : Type} (p : α → Bool) {l : List α} {k : Nat} {x : α} (h : l[k]? = some x) : (l.take (k + 1)).filter p = (l.take k).filter p ++ (if p x then [x] else []) := by
  rw [List.take_add_one, h, List.filter_append]
  cases hp : p x <;> simp [hp]
theorem keepB' {W V : World} {n k : Nat} {x : Obj} (hb : Below n W V) (hk : k < n) (h : W.heap[k]? = some x) : V.heap[k]? = some x := (hb.block k hk).trans h

set_option maxHeartbeats 4000000 in
set_option maxRecDepth 100000 in
theorem only_38 (q : Nat) (p : Int → Bool) (a b : Option Addr) (n c m d : Nat) (xs : List Value) (es : List Ev) (hx : xs.length = n * 2) (hm : es.length = m) (h1 : ∀ u ∈ xs, u.oneCell' = true) (hn : n ≤ 100000 ∧ m ≤ 100000) (w : World) (h : SlAt w a xs) (g : EvsAt w b es m)
    (HK : ∀ V, Below w.heap.size w V → ∀ x : Int, Calls Tryd.prog 38 #[.int .i64 x, .pointer (some ⟨q, 0, none⟩)] V fun e w' => e = .returned (.bool (p x)) ∧ Hid (Below V.heap.size V w')) :
    Calls Tryd.prog 17 #[hv a n c b m d, .func (.func 38) #[] #[.pointer (some ⟨q, 0, none⟩)]] w fun e w' => ∃ v1 v2, e = .returned (.agg #[v1, v2]) ∧ Hid (w'.ownsRow w.heap.size 31 2 v1 n xs ∧ w'.ownsRow w.heap.size 34 8 v2 (es.filter fun e => p e.tx).length (evs (es.filter fun e => p e.tx)) ∧ Below w.heap.size w w') := by
  obtain ⟨i0, hi, hz0, hz1, hz2⟩ := info_parts elem34
  obtain ⟨W1, hW1, Hb1, hs1, Hx1⟩ := cells_new w #[.slice a n c, .slice b m d] 25
  obtain ⟨W, hW, Hb2, hs2, Hy⟩ := cells_new W1 #[.slice none 0 0, .slice none 0 0] 25
  have HB : Hid (Below w.heap.size w W) := stepB Hb1.out Hb2.out
  have HX : Hid (∀ V, Below W.heap.size W V → V.cell? ⟨w.heap.size, 0, none⟩ = some (.slice a n c) ∧ V.cell? ⟨w.heap.size, 1, none⟩ = some (.slice b m d)) := fun V hV => row_two (keepB hV (keepB Hb2.out Hx1.out))
  have H1 := Lib.hid (clone_obs a n c xs hx h1 hn.1 W (h.below HB.out))
  have Hg := Lib.hid (g.below HB.out)
  have HK' := Lib.hid HK
  have Hm := Lib.hid hm
  have Hmm : Hid (m ≤ 100000) := hn.2
  have hmm : (m : Int) ≤ 100000 := by omega
  have Hws : Hid (w.heap.size ≤ W.heap.size) := HB.out.size
  have Hw1 : Hid (W1.heap.size < W.heap.size ∧ w.heap.size ≤ W1.heap.size) := ⟨hs2.out, Nat.le_of_lt hs1.out⟩
  clear h g hx hm h1 hn Hb1 Hb2 Hx1 HK hs1 hs2
  obtain ⟨x0, x1⟩ := HX.out W (Below.refl _ _)
  go_enter Tryd.func17, Tryd.ntmps17
  go_wp2_with (first
    | (go_at_call 39; (with_reducible refine H1.out.mono ?_); rintro e w2 ⟨v1, rfl, K2⟩; obtain ⟨a1, c1, rfl, -, -⟩ := row_sl K2.out.1
       obtain ⟨W3, hW3, Hb3, hs3, Hq⟩ := cells_new w2 #[.slice none 0 0, .slice none 0 0] 25
       obtain ⟨G1, G2, hG1, hG2, ⟨⟨g0, l0⟩, ⟨g1, l1⟩⟩, HG, HL, HCg, HOg⟩ := box_put2x (w := w2) (.slice a1 n c1) (.slice none 0 0) Hq.out (Nat.le_refl _)
       obtain ⟨y0, y1⟩ := HX.out G2 (stepB K2.out.2 (Hb3.out.trans HL.out))))
  have HD : Hid (OnAt W w2.heap.size (.slice a1 n c1) n xs (.slice none 0 0) ((es.take 0).filter fun e => p e.tx) G2) := ⟨stepB K2.out.2 (Hb3.out.trans HL.out), K2.out.2.size, HG.out, row_kept K2.out.1 (Hb3.out.trans HL.out), by simpa [evs] using World.ownsRow_nil _ _ _ _⟩
  obtain ⟨Q, hQ⟩ : ∃ Q, w2.heap.size = Q := ⟨_, rfl⟩
  rw [hQ] at HD ⊢
  clear hQ hG1 hG2 g0 l0 g1 l1 HG HL HCg HOg hW3 Hb3 hs3 Hq y0 y1 x0 x1 K2 H1
  go_wp2_with fail
  go_loopw [15] (fun i wr => ∃ k v, k ≤ m ∧ i = .int .i64 ((k : Nat) : Int) ∧ Hid (OnAt W Q (.slice a1 n c1) n xs v ((es.take k).filter fun e => p e.tx) wr)) (fun i _ => m - (intOf i).toNat)
  case atStart => exact ⟨0, _, Nat.zero_le _, rfl, HD.out⟩
  case round =>
    clear HD
    obtain ⟨k, v, hk, rfl, HD⟩ := hrel
    have z0 := (row_two HD.out.box)
    obtain ⟨z0, z1⟩ := z0
    by_cases hlt : k < m
    · obtain ⟨b1, o1, x, rfl, hx, hc⟩ := Hg.out k hlt
      obtain ⟨u0, u1, u2, u3, u4, u5, u6, u7⟩ := hc wr HD.out.below
      have hlt2 : (k : Int) < (m : Int) := by omega
      obtain ⟨W4, hW4, Hb4, hs4, Hr⟩ := cells_new wr #[.int .i64 x.kind, .int .i64 x.tx, .int .i64 x.thread, .int .i64 x.obj, .int .i64 x.op, .int .i64 x.key, .int .i64 x.val, .int .i64 x.ret] 34
      obtain ⟨r0, r1, r2, r3, r4, r5, r6, r7⟩ := row_eight Hr.out
      have HS := Lib.hid (HK'.out W4 (stepB (stepB HB.out HD.out.below) Hb4.out) x.tx)
      have Hf := Lib.hid (filter_next (fun e : Ev => p e.tx) hx)
      have HC := Lib.hid hc
      have HP := Lib.hid (show ∀ R, p x.tx = R → (es.take (k + 1)).filter (fun e => p e.tx) = (es.take k).filter (fun e => p e.tx) ++ (if R then [x] else []) from fun R e => by rw [Hf.out, e])
      have hlen : Hid (((es.take k).filter fun e => p e.tx).length ≤ 100000) := by
        have h1 := List.length_filter_le (fun e : Ev => p e.tx) (es.take k)
        have h2 := List.length_take_le k es
        show _ ≤ _
        have := Hmm.out
        omega
      generalize (es.take k).filter (fun e => p e.tx) = fs at HD HP hlen
      generalize p x.tx = R at HS HP
      clear Hf hc hx
      cases R
      · have HE : Hid ((es.take (k + 1)).filter (fun e => p e.tx) = fs) := by show _ = _; rw [HP.out _ rfl]; simp
        clear HP
        go_wp2_with (first | (go_at_call 38; (with_reducible refine HS.out.mono ?_); rintro e w8 ⟨rfl, h8⟩))
        go_roundw
        case rel => exact ⟨k + 1, v, by omega, by go_num, by show OnAt _ _ _ _ _ _ _ _; rw [HE.out]; exact HD.out.next (stepB Hb4.out h8.out)⟩
        case measure => simp [intOf]; omega
      · have HE : Hid ((es.take (k + 1)).filter (fun e => p e.tx) = fs ++ [x]) := by show _ = _; rw [HP.out _ rfl]; simp
        clear HP
        go_wp2_with (first
          | (go_at_call 38; (with_reducible refine HS.out.mono ?_); rintro e w8 ⟨rfl, h8⟩
             have HD8 : Hid (OnAt W Q (.slice a1 n c1) n xs v fs w8) := HD.out.next (stepB Hb4.out h8.out)
             obtain ⟨s0, s1⟩ := row_two HD8.out.box
             obtain ⟨t0, t1, t2, t3, t4, t5, t6, t7⟩ := row_eight (keepB h8.out Hr.out))
          | (at_builtin; refine wpList_append_own _ rfl _ _ 23 rfl W.heap.size 34 i0 Ev.zero.agg 8 64 Tryd.underlying23 hi hz0 hz1 hz2 rfl (by decide) v _ _ rfl (HD8.out.row.alloc _) ⟨w8.heap.size, 0, none⟩ 1 1 [.int .i64 x.kind, .int .i64 x.tx, .int .i64 x.thread, .int .i64 x.obj, .int .i64 x.op, .int .i64 x.key, .int .i64 x.val, .int .i64 x.ret] rfl rfl (eight_news _ _ _ _ _ _ _ _ _ _) (by intro u hu; simp only [List.mem_cons, List.not_mem_nil, or_false] at hu; rcases hu with rfl | rfl | rfl | rfl | rfl | rfl | rfl | rfl <;> rfl) (by unfold maxLen; have := hlen.out; omega) (by have := hlen.out; omega) (by show _ ≤ _; simp; exact Nat.le_trans HD8.out.below.size (Nat.le_succ _)) ?_))
        intro v' w9 hown9 hgrow9 hnil9
        obtain ⟨a9, c9, rfl, -, -⟩ := row_sl hown9
        obtain ⟨U1, hU1, ⟨m0, m1⟩, HU⟩ := (HD8.out.next ((Below.refl _ _).alloc (Nat.le_refl _) (.cells #[.int .i64 x.kind, .int .i64 x.tx, .int .i64 x.thread, .int .i64 x.obj, .int .i64 x.op, .int .i64 x.key, .int .i64 x.val, .int .i64 x.ret] 34))).put (e := x) hgrow9 hown9
        clear hown9 hgrow9 hnil9
        go_wp2_with fail
        go_roundw
        case rel => exact ⟨k + 1, _, by omega, by go_num, by show OnAt _ _ _ _ _ _ _ _; rw [HE.out]; exact HU.out⟩
        case measure => simp [intOf]; omega
    · have hkm : k = m := by omega
      have HE : Hid ((es.take k).filter (fun e => p e.tx) = es.filter fun e => p e.tx) := by show _ = _; rw [hkm, List.take_of_length_le (by have := Hm.out; omega)]
      rw [HE.out] at HD
      obtain ⟨a2, c2, rfl, -, -⟩ := row_sl HD.out.row
      obtain ⟨F1, F2, hF1, hF2, ⟨⟨f0, e0⟩, ⟨f1, e1⟩⟩, HF, HE2, HC, HO⟩ := box_put2x (w := w) (.slice a1 n c1) (.slice a2 (es.filter fun e => p e.tx).length c2) (keepB' HD.out.below Hw1.out.1 Hy.out) Hw1.out.2
      clear HE
      go_wp2_with fail
      refine bodyPost_ret (results_row1 rfl _ _ W1.heap.size 25 _ (0, 0) _ rfl HF.out Tryd.underlying25 rfl (by kernel_rfl)) rfl ?_
      refine ⟨_, _, rfl, ?_, ?_, (stepB HB.out HD.out.below).trans HE2.out⟩
      · exact row_base (HO.out _ _ _ _ _ _ Hw1.out.1 HD.out.row1) Hws.out
      · exact row_base (HO.out _ _ _ _ _ _ Hw1.out.1 HD.out.row) Hws.out

set_option maxRecDepth 100000 in
theorem without1 (q : Nat) (x tx : Int) (w : World) (hq : w.heap[q]? = some (.cells #[.int .i64 tx] 3)) : Calls Tryd.prog 38 #[.int .i64 x, .pointer (some ⟨q, 0, none⟩)] w fun e w' => e = .returned (.bool (!(x == tx))) ∧ Hid (Below w.heap.size w w') := by
  have h0 : w.cell? ⟨q, 0, none⟩ = some (.int .i64 tx) := (cell_of_row _ _ 0 _ _ _ hq).trans rfl
  clear hq
  go_enter Tryd.func38, Tryd.ntmps38
  go_wp2
  go_ret
  exact ⟨rfl, Below.refl _ _⟩

set_option maxRecDepth 100000 in
theorem without_any (a b : Option Addr) (n c m d : Nat) (tx : Int) (xs : List Value) (es : List Ev) (hx : xs.length = n * 2) (hm : es.length = m) (h1 : ∀ u ∈ xs, u.oneCell' = true) (hn : n ≤ 100000 ∧ m ≤ 100000) (w : World) (h : SlAt w a xs) (g : EvsAt w b es m) :
    Calls Tryd.prog 15 #[hv a n c b m d, .int .i64 tx] w fun e w' => ∃ v1 v2, e = .returned (.agg #[v1, v2]) ∧ Hid (w'.ownsRow w.heap.size 31 2 v1 n xs ∧ w'.ownsRow w.heap.size 34 8 v2 (es.filter fun e => !(e.tx == tx)).length (evs (es.filter fun e => !(e.tx == tx))) ∧ Below w.heap.size w w') := by
  have hmf : ∀ (fn : Fn) (first cap : Array Value) (w : World), (Instr.makeFunc fn first cap).run Tryd.prog w = .ok (.func fn first cap) w := fun _ _ _ _ => rfl
  obtain ⟨W1, hW1, Hb1, hs1, Hx1⟩ := cells_new w #[.slice a n c, .slice b m d] 25
  obtain ⟨W2, hW2, Hb2, hs2, Hx2⟩ := cells_new W1 #[.int .i64 tx] 3
  obtain ⟨W, hW, Hb3, hs3, Hy⟩ := cells_new W2 #[.slice none 0 0, .slice none 0 0] 25
  have HB : Hid (Below w.heap.size w W) := stepB (stepB Hb1.out Hb2.out) Hb3.out
  have Hq : Hid (W.heap[W1.heap.size]? = some (.cells #[.int .i64 tx] 3)) := keepB Hb3.out Hx2.out
  obtain ⟨x0, x1⟩ := row_two (keepB Hb3.out (keepB Hb2.out Hx1.out))
  have H1 := Lib.hid (only_38 W1.heap.size (fun x => !(x == tx)) a b n c m d xs es hx hm h1 hn W (h.below HB.out) (g.below HB.out) (fun V hV x => without1 _ x tx V (keepB hV Hq.out)))
  have Hws : Hid (w.heap.size ≤ W.heap.size) := HB.out.size
  have Hw1 : Hid (W2.heap.size < W.heap.size ∧ w.heap.size ≤ W2.heap.size) := ⟨hs3.out, Nat.le_of_lt (Nat.lt_trans hs1.out hs2.out)⟩
  clear h g hx hm h1 hn Hb1 Hb2 Hb3 Hx1 Hx2 hs1 hs2 hs3
  go_enter Tryd.func15, Tryd.ntmps15
  go_wp2_with (first
    | (go_at_call 17; (with_reducible refine H1.out.mono ?_); rintro e w2 ⟨v1, v2, rfl, K2⟩; obtain ⟨a1, c1, rfl, -, -⟩ := row_sl K2.out.1; obtain ⟨a2, c2, rfl, -, -⟩ := row_sl K2.out.2.1
       obtain ⟨F1, F2, hF1, hF2, ⟨⟨f0, e0⟩, ⟨f1, e1⟩⟩, HF, HE2, HC, HO⟩ := box_put2x (w := w) (.slice a1 n c1) (.slice a2 (es.filter fun e => !(e.tx == tx)).length c2) (keepB K2.out.2.2 Hy.out) Hw1.out.2))
  refine bodyPost_ret (results_row1 rfl _ _ W2.heap.size 25 _ (0, 0) _ rfl HF.out Tryd.underlying25 rfl (by kernel_rfl)) rfl ?_
  refine ⟨_, _, rfl, ?_, ?_, (stepB HB.out K2.out.2.2).trans HE2.out⟩
  · exact row_base (HO.out _ _ _ _ _ _ Hw1.out.1 K2.out.1) Hws.out
  · exact row_base (HO.out _ _ _ _ _ _ Hw1.out.1 K2.out.2.1) Hws.out
end Go.Proofs.YtfjjhjojcgacbaaDoor
