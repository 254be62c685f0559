/- Helpers, joined: Ma, Mb, Mc, Md, Me, Mf, Mg, Mh, Mj. -/
import Derived.Test.YtfjjhjojcgacbaaDoorM4

/- Maps of whole numbers that lie in a block; the effects of an automaton. -/
namespace Go.Proofs.YtfjjhjojcgacbaaDoor
open Go.RowKit Go.Maps Go.WideMaps Go.WideElems Go.ChangeShapes Go.WideShapes
variable {T : TypeId} {er : Nat → Addr}

/-- The world with another object in a block. -/
def setObjW (w : World) (r : Nat) (o : Obj) : World := { w with heap := w.heap.setIfInBounds r o }
theorem setObjW_same {w : World} {r : Nat} {x : Obj} (o : Obj) (h : w.heap[r]? = some x) : (setObjW w r o).heap[r]? = some o := by
  have hr : r < w.heap.size := (Array.getElem?_eq_some_iff.1 h).1
  simp [setObjW, hr]
theorem setObjW_other {w : World} {r k : Nat} (o : Obj) (h : r ≠ k) : (setObjW w r o).heap[k]? = w.heap[k]? := by
  simp [setObjW, h]
theorem setObjW_below {w : World} {r B : Nat} (o : Obj) (h : B ≤ r) : Below B w (setObjW w r o) := by
  refine ⟨rfl, rfl, rfl, ?_, fun k hk => ?_⟩
  · simp [setObjW]
  · exact setObjW_other o (by omega)
theorem map_insert {t e : TypeId} (ht : Tryd.prog.underlying t = some (.map 3 e)) {V : World} {mb : Nat} {es : Array MapEntry} {c : Nat} (k : Int) (v : Value) (hb : V.heap[mb]? = some (.map es c)) (h : Instr.findNow (.int .i64) (.int .i64 k) es.toList 0 = some none) :
    (Instr.mapUpdate t (.map (some mb)) (.int .i64 k) v).run Tryd.prog V = .ok () (setObjW V mb (.map (es.push ⟨.int .i64 k, v, c⟩) (c + 1))) := by
  simp [Instr.mapUpdate, run_underlying ht, MapKept.run_getObj_map hb, check_int, find_int _ _ _ _ h, MapKept.run_setObj_map _ hb, Result.andThen, setObjW]
theorem map_look {t e : TypeId} (ht : Tryd.prog.underlying t = some (.map 3 e)) {V : World} {mb : Nat} {es : Array MapEntry} {c : Nat} (k : Int) (i : Nat) (v : Value) (hb : V.heap[mb]? = some (.map es c)) (h : Instr.findNow (.int .i64) (.int .i64 k) es.toList 0 = some (some (i, v))) :
    (Instr.lookup t (.map (some mb)) (.int .i64 k) true).run Tryd.prog V = .ok (.tuple #[v, .bool true]) V ∧ (Instr.lookup t (.map (some mb)) (.int .i64 k) false).run Tryd.prog V = .ok v V := by
  constructor <;> simp [Instr.lookup, run_underlying ht, MapKept.run_getObj_map hb, check_int, find_int _ _ _ _ h, Result.andThen]
theorem map_none {t e : TypeId} (ht : Tryd.prog.underlying t = some (.map 3 e)) {z : Value} (hz : ∀ w : World, (zeroValue e).run Tryd.prog w = .ok z w) {V : World} {mb : Nat} {es : Array MapEntry} {c : Nat} (k : Int) (hb : V.heap[mb]? = some (.map es c)) (h : Instr.findNow (.int .i64) (.int .i64 k) es.toList 0 = some none) :
    (Instr.lookup t (.map (some mb)) (.int .i64 k) true).run Tryd.prog V = .ok (.tuple #[z, .bool false]) V := by
  simp [Instr.lookup, run_underlying ht, MapKept.run_getObj_map hb, check_int, find_int _ _ _ _ h, hz, Result.andThen]
theorem under86 : Tryd.prog.underlying 86 = some (.map 3 98) := by kernel_rfl
theorem under83 : Tryd.prog.underlying 83 = some (.map 3 84) := by kernel_rfl
/-- A new map. -/
theorem map_new (w : World) : ∃ W, w.alloc (.map #[] 0) = W ∧ Hid (Below w.heap.size w W) ∧ Hid (W.heap[w.heap.size]? = some (.map #[] 0)) :=
  ⟨_, rfl, (Below.refl _ _).alloc (Nat.le_refl _) _, World.alloc_heap_new w _⟩

/-- What 'from' gives: a function that holds two boxes. -/
def FromIs (x : Int) (g : Nat) (w : World) (e : Ending) (w' : World) : Prop := ∃ p q, e = .returned (.func (.func 76) #[] #[.pointer (some ⟨p, 0, none⟩), .pointer (some ⟨q, 0, none⟩)]) ∧ Hid ((w.heap.size ≤ p ∧ w'.heap[p]? = some (.cells #[.int .i64 x] 89)) ∧ (w.heap.size ≤ q ∧ w'.heap[q]? = some (.cells #[fv g] 103)) ∧ Below w.heap.size w w')

set_option maxRecDepth 100000 in
theorem from_any (x : Int) (g : Nat) (w : World) : Calls Tryd.prog 66 #[.int .i64 x, fv g] w (FromIs x g w) := by
  have hmf : ∀ (fn : Fn) (first cap : Array Value) (w : World), (Instr.makeFunc fn first cap).run Tryd.prog w = .ok (.func fn first cap) w := fun _ _ _ _ => rfl
  obtain ⟨W1, hW1, Hb1, hs1, Hx1⟩ := cells_new w #[.int .i64 x] 89
  obtain ⟨W, hW, Hb2, hs2, Hy⟩ := cells_new W1 #[fv g] 103
  go_enter Tryd.func66, Tryd.ntmps66
  go_wp2_with fail
  go_ret
  exact ⟨_, _, rfl, ⟨Nat.le_refl _, keepB Hb2.out Hx1.out⟩, ⟨Nat.le_of_lt hs1.out, Hy.out⟩, stepB Hb1.out Hb2.out⟩

theorem ef_put {U U' : World} {mb p : Nat} {c o : Obj} (hB : mb < p) (h : U.heap[p]? = some c) (e : setObjW U mb o = U') : U'.heap[p]? = some c := by
  rw [← e, setObjW_other _ (Nat.ne_of_lt hB)]
  exact h
theorem ef_keep {V U U' : World} {mb p : Nat} {c o : Obj} (hB : mb < p) (h : V.heap[p]? = some c) (hb : Below V.heap.size V U) (e : setObjW U mb o = U') : U'.heap[p]? = some c := ef_put hB (keepB hb h) e
/-- The effects lie in a block. -/
def EffAt (B eb : Nat) (V : World) : Prop := ∃ p2 q2 p3 q3 p4 q4 p5 q5 p6 q6 p7 q7 : Nat, V.heap[eb]? = some (.map #[⟨.int .i64 1, fv 65, 0⟩, ⟨.int .i64 2, .func (.func 76) #[] #[.pointer (some ⟨p2, 0, none⟩), .pointer (some ⟨q2, 0, none⟩)], 1⟩, ⟨.int .i64 3, .func (.func 76) #[] #[.pointer (some ⟨p3, 0, none⟩), .pointer (some ⟨q3, 0, none⟩)], 2⟩, ⟨.int .i64 4, .func (.func 76) #[] #[.pointer (some ⟨p4, 0, none⟩), .pointer (some ⟨q4, 0, none⟩)], 3⟩, ⟨.int .i64 5, .func (.func 76) #[] #[.pointer (some ⟨p5, 0, none⟩), .pointer (some ⟨q5, 0, none⟩)], 4⟩, ⟨.int .i64 6, .func (.func 76) #[] #[.pointer (some ⟨p6, 0, none⟩), .pointer (some ⟨q6, 0, none⟩)], 5⟩, ⟨.int .i64 7, .func (.func 76) #[] #[.pointer (some ⟨p7, 0, none⟩), .pointer (some ⟨q7, 0, none⟩)], 6⟩] 7) ∧ ((B ≤ p2 ∧ V.heap[p2]? = some (.cells #[.int .i64 1] 89)) ∧ (B ≤ q2 ∧ V.heap[q2]? = some (.cells #[fv 67] 103))) ∧ ((B ≤ p3 ∧ V.heap[p3]? = some (.cells #[.int .i64 2] 89)) ∧ (B ≤ q3 ∧ V.heap[q3]? = some (.cells #[fv 68] 103))) ∧ ((B ≤ p4 ∧ V.heap[p4]? = some (.cells #[.int .i64 1] 89)) ∧ (B ≤ q4 ∧ V.heap[q4]? = some (.cells #[fv 69] 103))) ∧ ((B ≤ p5 ∧ V.heap[p5]? = some (.cells #[.int .i64 4] 89)) ∧ (B ≤ q5 ∧ V.heap[q5]? = some (.cells #[fv 70] 103))) ∧ ((B ≤ p6 ∧ V.heap[p6]? = some (.cells #[.int .i64 15] 89)) ∧ (B ≤ q6 ∧ V.heap[q6]? = some (.cells #[fv 71] 103))) ∧ ((B ≤ p7 ∧ V.heap[p7]? = some (.cells #[.int .i64 1] 89)) ∧ (B ≤ q7 ∧ V.heap[q7]? = some (.cells #[fv 72] 103)))

set_option maxHeartbeats 4000000 in
set_option maxRecDepth 100000 in
theorem effects_any (w : World) : Calls Tryd.prog 58 #[] w fun e w' => e = .returned (.map (some w.heap.size)) ∧ Hid (EffAt w.heap.size w.heap.size w' ∧ Below w.heap.size w w') := by
  have hmm := @run_makeMap Tryd.prog
  obtain ⟨W0, hW0, Hb0, Hm0⟩ := map_new w
  have HF := Lib.hid from_any
  have I1 := map_insert under86 1 (fv 65) Hm0.out rfl
  obtain ⟨W1, hW1⟩ : ∃ W1, setObjW W0 w.heap.size (.map (#[].push ⟨.int .i64 1, fv 65, 0⟩) (0 + 1)) = W1 := ⟨_, rfl⟩
  have Hm1 : Hid (W1.heap[w.heap.size]? = some (.map #[⟨.int .i64 1, fv 65, 0⟩] 1)) := by show _ = _; rw [← hW1]; exact setObjW_same _ Hm0.out
  have B1 : Hid (Below w.heap.size w W1) := by show Below _ _ _; rw [← hW1]; exact Hb0.out.trans (setObjW_below _ (Nat.le_refl _))
  rw [hW1] at I1
  go_enter Tryd.func58, Tryd.ntmps58
  go_wp2_with (first
    | (go_at_call 66; (with_reducible refine (HF.out 1 67 W1).mono ?_); rintro e w2 ⟨p2, q2, rfl, K2⟩
       have Hn2 : Hid (w2.heap[w.heap.size]? = some (.map #[⟨.int .i64 1, fv 65, 0⟩] 1)) := keepB K2.out.2.2 Hm1.out
       have I2 := map_insert under86 2 (.func (.func 76) #[] #[.pointer (some ⟨p2, 0, none⟩), .pointer (some ⟨q2, 0, none⟩)]) Hn2.out rfl
       obtain ⟨W2, hW2⟩ : ∃ W, setObjW w2 w.heap.size (.map ((#[⟨.int .i64 1, fv 65, 0⟩] : Array MapEntry).push ⟨.int .i64 2, .func (.func 76) #[] #[.pointer (some ⟨p2, 0, none⟩), .pointer (some ⟨q2, 0, none⟩)], 1⟩) (1 + 1)) = W := ⟨_, rfl⟩
       have Hm2 : Hid (W2.heap[w.heap.size]? = some (.map #[⟨.int .i64 1, fv 65, 0⟩, ⟨.int .i64 2, .func (.func 76) #[] #[.pointer (some ⟨p2, 0, none⟩), .pointer (some ⟨q2, 0, none⟩)], 1⟩] 2)) := by show _ = _; rw [← hW2]; exact setObjW_same _ Hn2.out
       have D2 : Hid (Below w.heap.size w2 W2) := by show Below _ _ _; rw [← hW2]; exact setObjW_below _ (Nat.le_refl _)
       have B2 : Hid (Below w.heap.size w W2) := (stepB B1.out K2.out.2.2).trans D2.out
       rw [hW2] at I2)
    | (go_at_call 66; (with_reducible refine (HF.out 2 68 W2).mono ?_); rintro e w3 ⟨p3, q3, rfl, K3⟩
       have Hn3 : Hid (w3.heap[w.heap.size]? = some (.map #[⟨.int .i64 1, fv 65, 0⟩, ⟨.int .i64 2, .func (.func 76) #[] #[.pointer (some ⟨p2, 0, none⟩), .pointer (some ⟨q2, 0, none⟩)], 1⟩] 2)) := keepB K3.out.2.2 Hm2.out
       have I3 := map_insert under86 3 (.func (.func 76) #[] #[.pointer (some ⟨p3, 0, none⟩), .pointer (some ⟨q3, 0, none⟩)]) Hn3.out rfl
       obtain ⟨W3, hW3⟩ : ∃ W, setObjW w3 w.heap.size (.map ((#[⟨.int .i64 1, fv 65, 0⟩, ⟨.int .i64 2, .func (.func 76) #[] #[.pointer (some ⟨p2, 0, none⟩), .pointer (some ⟨q2, 0, none⟩)], 1⟩] : Array MapEntry).push ⟨.int .i64 3, .func (.func 76) #[] #[.pointer (some ⟨p3, 0, none⟩), .pointer (some ⟨q3, 0, none⟩)], 2⟩) (2 + 1)) = W := ⟨_, rfl⟩
       have Hm3 : Hid (W3.heap[w.heap.size]? = some (.map #[⟨.int .i64 1, fv 65, 0⟩, ⟨.int .i64 2, .func (.func 76) #[] #[.pointer (some ⟨p2, 0, none⟩), .pointer (some ⟨q2, 0, none⟩)], 1⟩, ⟨.int .i64 3, .func (.func 76) #[] #[.pointer (some ⟨p3, 0, none⟩), .pointer (some ⟨q3, 0, none⟩)], 2⟩] 3)) := by show _ = _; rw [← hW3]; exact setObjW_same _ Hn3.out
       have D3 : Hid (Below w.heap.size w3 W3) := by show Below _ _ _; rw [← hW3]; exact setObjW_below _ (Nat.le_refl _)
       have B3 : Hid (Below w.heap.size w W3) := (stepB B2.out K3.out.2.2).trans D3.out
       rw [hW3] at I3)
    | (go_at_call 66; (with_reducible refine (HF.out 1 69 W3).mono ?_); rintro e w4 ⟨p4, q4, rfl, K4⟩
       have Hn4 : Hid (w4.heap[w.heap.size]? = some (.map #[⟨.int .i64 1, fv 65, 0⟩, ⟨.int .i64 2, .func (.func 76) #[] #[.pointer (some ⟨p2, 0, none⟩), .pointer (some ⟨q2, 0, none⟩)], 1⟩, ⟨.int .i64 3, .func (.func 76) #[] #[.pointer (some ⟨p3, 0, none⟩), .pointer (some ⟨q3, 0, none⟩)], 2⟩] 3)) := keepB K4.out.2.2 Hm3.out
       have I4 := map_insert under86 4 (.func (.func 76) #[] #[.pointer (some ⟨p4, 0, none⟩), .pointer (some ⟨q4, 0, none⟩)]) Hn4.out rfl
       obtain ⟨W4, hW4⟩ : ∃ W, setObjW w4 w.heap.size (.map ((#[⟨.int .i64 1, fv 65, 0⟩, ⟨.int .i64 2, .func (.func 76) #[] #[.pointer (some ⟨p2, 0, none⟩), .pointer (some ⟨q2, 0, none⟩)], 1⟩, ⟨.int .i64 3, .func (.func 76) #[] #[.pointer (some ⟨p3, 0, none⟩), .pointer (some ⟨q3, 0, none⟩)], 2⟩] : Array MapEntry).push ⟨.int .i64 4, .func (.func 76) #[] #[.pointer (some ⟨p4, 0, none⟩), .pointer (some ⟨q4, 0, none⟩)], 3⟩) (3 + 1)) = W := ⟨_, rfl⟩
       have Hm4 : Hid (W4.heap[w.heap.size]? = some (.map #[⟨.int .i64 1, fv 65, 0⟩, ⟨.int .i64 2, .func (.func 76) #[] #[.pointer (some ⟨p2, 0, none⟩), .pointer (some ⟨q2, 0, none⟩)], 1⟩, ⟨.int .i64 3, .func (.func 76) #[] #[.pointer (some ⟨p3, 0, none⟩), .pointer (some ⟨q3, 0, none⟩)], 2⟩, ⟨.int .i64 4, .func (.func 76) #[] #[.pointer (some ⟨p4, 0, none⟩), .pointer (some ⟨q4, 0, none⟩)], 3⟩] 4)) := by show _ = _; rw [← hW4]; exact setObjW_same _ Hn4.out
       have D4 : Hid (Below w.heap.size w4 W4) := by show Below _ _ _; rw [← hW4]; exact setObjW_below _ (Nat.le_refl _)
       have B4 : Hid (Below w.heap.size w W4) := (stepB B3.out K4.out.2.2).trans D4.out
       rw [hW4] at I4)
    | (go_at_call 66; (with_reducible refine (HF.out 4 70 W4).mono ?_); rintro e w5 ⟨p5, q5, rfl, K5⟩
       have Hn5 : Hid (w5.heap[w.heap.size]? = some (.map #[⟨.int .i64 1, fv 65, 0⟩, ⟨.int .i64 2, .func (.func 76) #[] #[.pointer (some ⟨p2, 0, none⟩), .pointer (some ⟨q2, 0, none⟩)], 1⟩, ⟨.int .i64 3, .func (.func 76) #[] #[.pointer (some ⟨p3, 0, none⟩), .pointer (some ⟨q3, 0, none⟩)], 2⟩, ⟨.int .i64 4, .func (.func 76) #[] #[.pointer (some ⟨p4, 0, none⟩), .pointer (some ⟨q4, 0, none⟩)], 3⟩] 4)) := keepB K5.out.2.2 Hm4.out
       have I5 := map_insert under86 5 (.func (.func 76) #[] #[.pointer (some ⟨p5, 0, none⟩), .pointer (some ⟨q5, 0, none⟩)]) Hn5.out rfl
       obtain ⟨W5, hW5⟩ : ∃ W, setObjW w5 w.heap.size (.map ((#[⟨.int .i64 1, fv 65, 0⟩, ⟨.int .i64 2, .func (.func 76) #[] #[.pointer (some ⟨p2, 0, none⟩), .pointer (some ⟨q2, 0, none⟩)], 1⟩, ⟨.int .i64 3, .func (.func 76) #[] #[.pointer (some ⟨p3, 0, none⟩), .pointer (some ⟨q3, 0, none⟩)], 2⟩, ⟨.int .i64 4, .func (.func 76) #[] #[.pointer (some ⟨p4, 0, none⟩), .pointer (some ⟨q4, 0, none⟩)], 3⟩] : Array MapEntry).push ⟨.int .i64 5, .func (.func 76) #[] #[.pointer (some ⟨p5, 0, none⟩), .pointer (some ⟨q5, 0, none⟩)], 4⟩) (4 + 1)) = W := ⟨_, rfl⟩
       have Hm5 : Hid (W5.heap[w.heap.size]? = some (.map #[⟨.int .i64 1, fv 65, 0⟩, ⟨.int .i64 2, .func (.func 76) #[] #[.pointer (some ⟨p2, 0, none⟩), .pointer (some ⟨q2, 0, none⟩)], 1⟩, ⟨.int .i64 3, .func (.func 76) #[] #[.pointer (some ⟨p3, 0, none⟩), .pointer (some ⟨q3, 0, none⟩)], 2⟩, ⟨.int .i64 4, .func (.func 76) #[] #[.pointer (some ⟨p4, 0, none⟩), .pointer (some ⟨q4, 0, none⟩)], 3⟩, ⟨.int .i64 5, .func (.func 76) #[] #[.pointer (some ⟨p5, 0, none⟩), .pointer (some ⟨q5, 0, none⟩)], 4⟩] 5)) := by show _ = _; rw [← hW5]; exact setObjW_same _ Hn5.out
       have D5 : Hid (Below w.heap.size w5 W5) := by show Below _ _ _; rw [← hW5]; exact setObjW_below _ (Nat.le_refl _)
       have B5 : Hid (Below w.heap.size w W5) := (stepB B4.out K5.out.2.2).trans D5.out
       rw [hW5] at I5)
    | (go_at_call 66; (with_reducible refine (HF.out 15 71 W5).mono ?_); rintro e w6 ⟨p6, q6, rfl, K6⟩
       have Hn6 : Hid (w6.heap[w.heap.size]? = some (.map #[⟨.int .i64 1, fv 65, 0⟩, ⟨.int .i64 2, .func (.func 76) #[] #[.pointer (some ⟨p2, 0, none⟩), .pointer (some ⟨q2, 0, none⟩)], 1⟩, ⟨.int .i64 3, .func (.func 76) #[] #[.pointer (some ⟨p3, 0, none⟩), .pointer (some ⟨q3, 0, none⟩)], 2⟩, ⟨.int .i64 4, .func (.func 76) #[] #[.pointer (some ⟨p4, 0, none⟩), .pointer (some ⟨q4, 0, none⟩)], 3⟩, ⟨.int .i64 5, .func (.func 76) #[] #[.pointer (some ⟨p5, 0, none⟩), .pointer (some ⟨q5, 0, none⟩)], 4⟩] 5)) := keepB K6.out.2.2 Hm5.out
       have I6 := map_insert under86 6 (.func (.func 76) #[] #[.pointer (some ⟨p6, 0, none⟩), .pointer (some ⟨q6, 0, none⟩)]) Hn6.out rfl
       obtain ⟨W6, hW6⟩ : ∃ W, setObjW w6 w.heap.size (.map ((#[⟨.int .i64 1, fv 65, 0⟩, ⟨.int .i64 2, .func (.func 76) #[] #[.pointer (some ⟨p2, 0, none⟩), .pointer (some ⟨q2, 0, none⟩)], 1⟩, ⟨.int .i64 3, .func (.func 76) #[] #[.pointer (some ⟨p3, 0, none⟩), .pointer (some ⟨q3, 0, none⟩)], 2⟩, ⟨.int .i64 4, .func (.func 76) #[] #[.pointer (some ⟨p4, 0, none⟩), .pointer (some ⟨q4, 0, none⟩)], 3⟩, ⟨.int .i64 5, .func (.func 76) #[] #[.pointer (some ⟨p5, 0, none⟩), .pointer (some ⟨q5, 0, none⟩)], 4⟩] : Array MapEntry).push ⟨.int .i64 6, .func (.func 76) #[] #[.pointer (some ⟨p6, 0, none⟩), .pointer (some ⟨q6, 0, none⟩)], 5⟩) (5 + 1)) = W := ⟨_, rfl⟩
       have Hm6 : Hid (W6.heap[w.heap.size]? = some (.map #[⟨.int .i64 1, fv 65, 0⟩, ⟨.int .i64 2, .func (.func 76) #[] #[.pointer (some ⟨p2, 0, none⟩), .pointer (some ⟨q2, 0, none⟩)], 1⟩, ⟨.int .i64 3, .func (.func 76) #[] #[.pointer (some ⟨p3, 0, none⟩), .pointer (some ⟨q3, 0, none⟩)], 2⟩, ⟨.int .i64 4, .func (.func 76) #[] #[.pointer (some ⟨p4, 0, none⟩), .pointer (some ⟨q4, 0, none⟩)], 3⟩, ⟨.int .i64 5, .func (.func 76) #[] #[.pointer (some ⟨p5, 0, none⟩), .pointer (some ⟨q5, 0, none⟩)], 4⟩, ⟨.int .i64 6, .func (.func 76) #[] #[.pointer (some ⟨p6, 0, none⟩), .pointer (some ⟨q6, 0, none⟩)], 5⟩] 6)) := by show _ = _; rw [← hW6]; exact setObjW_same _ Hn6.out
       have D6 : Hid (Below w.heap.size w6 W6) := by show Below _ _ _; rw [← hW6]; exact setObjW_below _ (Nat.le_refl _)
       have B6 : Hid (Below w.heap.size w W6) := (stepB B5.out K6.out.2.2).trans D6.out
       rw [hW6] at I6)
    | (go_at_call 66; (with_reducible refine (HF.out 1 72 W6).mono ?_); rintro e w7 ⟨p7, q7, rfl, K7⟩
       have Hn7 : Hid (w7.heap[w.heap.size]? = some (.map #[⟨.int .i64 1, fv 65, 0⟩, ⟨.int .i64 2, .func (.func 76) #[] #[.pointer (some ⟨p2, 0, none⟩), .pointer (some ⟨q2, 0, none⟩)], 1⟩, ⟨.int .i64 3, .func (.func 76) #[] #[.pointer (some ⟨p3, 0, none⟩), .pointer (some ⟨q3, 0, none⟩)], 2⟩, ⟨.int .i64 4, .func (.func 76) #[] #[.pointer (some ⟨p4, 0, none⟩), .pointer (some ⟨q4, 0, none⟩)], 3⟩, ⟨.int .i64 5, .func (.func 76) #[] #[.pointer (some ⟨p5, 0, none⟩), .pointer (some ⟨q5, 0, none⟩)], 4⟩, ⟨.int .i64 6, .func (.func 76) #[] #[.pointer (some ⟨p6, 0, none⟩), .pointer (some ⟨q6, 0, none⟩)], 5⟩] 6)) := keepB K7.out.2.2 Hm6.out
       have I7 := map_insert under86 7 (.func (.func 76) #[] #[.pointer (some ⟨p7, 0, none⟩), .pointer (some ⟨q7, 0, none⟩)]) Hn7.out rfl
       obtain ⟨W7, hW7⟩ : ∃ W, setObjW w7 w.heap.size (.map ((#[⟨.int .i64 1, fv 65, 0⟩, ⟨.int .i64 2, .func (.func 76) #[] #[.pointer (some ⟨p2, 0, none⟩), .pointer (some ⟨q2, 0, none⟩)], 1⟩, ⟨.int .i64 3, .func (.func 76) #[] #[.pointer (some ⟨p3, 0, none⟩), .pointer (some ⟨q3, 0, none⟩)], 2⟩, ⟨.int .i64 4, .func (.func 76) #[] #[.pointer (some ⟨p4, 0, none⟩), .pointer (some ⟨q4, 0, none⟩)], 3⟩, ⟨.int .i64 5, .func (.func 76) #[] #[.pointer (some ⟨p5, 0, none⟩), .pointer (some ⟨q5, 0, none⟩)], 4⟩, ⟨.int .i64 6, .func (.func 76) #[] #[.pointer (some ⟨p6, 0, none⟩), .pointer (some ⟨q6, 0, none⟩)], 5⟩] : Array MapEntry).push ⟨.int .i64 7, .func (.func 76) #[] #[.pointer (some ⟨p7, 0, none⟩), .pointer (some ⟨q7, 0, none⟩)], 6⟩) (6 + 1)) = W := ⟨_, rfl⟩
       have Hm7 : Hid (W7.heap[w.heap.size]? = some (.map #[⟨.int .i64 1, fv 65, 0⟩, ⟨.int .i64 2, .func (.func 76) #[] #[.pointer (some ⟨p2, 0, none⟩), .pointer (some ⟨q2, 0, none⟩)], 1⟩, ⟨.int .i64 3, .func (.func 76) #[] #[.pointer (some ⟨p3, 0, none⟩), .pointer (some ⟨q3, 0, none⟩)], 2⟩, ⟨.int .i64 4, .func (.func 76) #[] #[.pointer (some ⟨p4, 0, none⟩), .pointer (some ⟨q4, 0, none⟩)], 3⟩, ⟨.int .i64 5, .func (.func 76) #[] #[.pointer (some ⟨p5, 0, none⟩), .pointer (some ⟨q5, 0, none⟩)], 4⟩, ⟨.int .i64 6, .func (.func 76) #[] #[.pointer (some ⟨p6, 0, none⟩), .pointer (some ⟨q6, 0, none⟩)], 5⟩, ⟨.int .i64 7, .func (.func 76) #[] #[.pointer (some ⟨p7, 0, none⟩), .pointer (some ⟨q7, 0, none⟩)], 6⟩] 7)) := by show _ = _; rw [← hW7]; exact setObjW_same _ Hn7.out
       have D7 : Hid (Below w.heap.size w7 W7) := by show Below _ _ _; rw [← hW7]; exact setObjW_below _ (Nat.le_refl _)
       have B7 : Hid (Below w.heap.size w W7) := (stepB B6.out K7.out.2.2).trans D7.out
       rw [hW7] at I7))
  go_ret
  have L2 : w.heap.size < W1.heap.size := (Array.getElem?_eq_some_iff.1 Hm1.out).1
  have P2 : w.heap.size ≤ p2 ∧ W7.heap[p2]? = _ := ⟨Nat.le_of_lt (Nat.lt_of_lt_of_le L2 K2.out.1.1), (ef_keep (Nat.lt_of_lt_of_le L2 K2.out.1.1) (ef_keep (Nat.lt_of_lt_of_le L2 K2.out.1.1) (ef_keep (Nat.lt_of_lt_of_le L2 K2.out.1.1) (ef_keep (Nat.lt_of_lt_of_le L2 K2.out.1.1) (ef_keep (Nat.lt_of_lt_of_le L2 K2.out.1.1) (ef_put (Nat.lt_of_lt_of_le L2 K2.out.1.1) K2.out.1.2 hW2) K3.out.2.2 hW3) K4.out.2.2 hW4) K5.out.2.2 hW5) K6.out.2.2 hW6) K7.out.2.2 hW7)⟩
  have Q2 : w.heap.size ≤ q2 ∧ W7.heap[q2]? = _ := ⟨Nat.le_of_lt (Nat.lt_of_lt_of_le L2 K2.out.2.1.1), (ef_keep (Nat.lt_of_lt_of_le L2 K2.out.2.1.1) (ef_keep (Nat.lt_of_lt_of_le L2 K2.out.2.1.1) (ef_keep (Nat.lt_of_lt_of_le L2 K2.out.2.1.1) (ef_keep (Nat.lt_of_lt_of_le L2 K2.out.2.1.1) (ef_keep (Nat.lt_of_lt_of_le L2 K2.out.2.1.1) (ef_put (Nat.lt_of_lt_of_le L2 K2.out.2.1.1) K2.out.2.1.2 hW2) K3.out.2.2 hW3) K4.out.2.2 hW4) K5.out.2.2 hW5) K6.out.2.2 hW6) K7.out.2.2 hW7)⟩
  have L3 : w.heap.size < W2.heap.size := (Array.getElem?_eq_some_iff.1 Hm2.out).1
  have P3 : w.heap.size ≤ p3 ∧ W7.heap[p3]? = _ := ⟨Nat.le_of_lt (Nat.lt_of_lt_of_le L3 K3.out.1.1), (ef_keep (Nat.lt_of_lt_of_le L3 K3.out.1.1) (ef_keep (Nat.lt_of_lt_of_le L3 K3.out.1.1) (ef_keep (Nat.lt_of_lt_of_le L3 K3.out.1.1) (ef_keep (Nat.lt_of_lt_of_le L3 K3.out.1.1) (ef_put (Nat.lt_of_lt_of_le L3 K3.out.1.1) K3.out.1.2 hW3) K4.out.2.2 hW4) K5.out.2.2 hW5) K6.out.2.2 hW6) K7.out.2.2 hW7)⟩
  have Q3 : w.heap.size ≤ q3 ∧ W7.heap[q3]? = _ := ⟨Nat.le_of_lt (Nat.lt_of_lt_of_le L3 K3.out.2.1.1), (ef_keep (Nat.lt_of_lt_of_le L3 K3.out.2.1.1) (ef_keep (Nat.lt_of_lt_of_le L3 K3.out.2.1.1) (ef_keep (Nat.lt_of_lt_of_le L3 K3.out.2.1.1) (ef_keep (Nat.lt_of_lt_of_le L3 K3.out.2.1.1) (ef_put (Nat.lt_of_lt_of_le L3 K3.out.2.1.1) K3.out.2.1.2 hW3) K4.out.2.2 hW4) K5.out.2.2 hW5) K6.out.2.2 hW6) K7.out.2.2 hW7)⟩
  have L4 : w.heap.size < W3.heap.size := (Array.getElem?_eq_some_iff.1 Hm3.out).1
  have P4 : w.heap.size ≤ p4 ∧ W7.heap[p4]? = _ := ⟨Nat.le_of_lt (Nat.lt_of_lt_of_le L4 K4.out.1.1), (ef_keep (Nat.lt_of_lt_of_le L4 K4.out.1.1) (ef_keep (Nat.lt_of_lt_of_le L4 K4.out.1.1) (ef_keep (Nat.lt_of_lt_of_le L4 K4.out.1.1) (ef_put (Nat.lt_of_lt_of_le L4 K4.out.1.1) K4.out.1.2 hW4) K5.out.2.2 hW5) K6.out.2.2 hW6) K7.out.2.2 hW7)⟩
  have Q4 : w.heap.size ≤ q4 ∧ W7.heap[q4]? = _ := ⟨Nat.le_of_lt (Nat.lt_of_lt_of_le L4 K4.out.2.1.1), (ef_keep (Nat.lt_of_lt_of_le L4 K4.out.2.1.1) (ef_keep (Nat.lt_of_lt_of_le L4 K4.out.2.1.1) (ef_keep (Nat.lt_of_lt_of_le L4 K4.out.2.1.1) (ef_put (Nat.lt_of_lt_of_le L4 K4.out.2.1.1) K4.out.2.1.2 hW4) K5.out.2.2 hW5) K6.out.2.2 hW6) K7.out.2.2 hW7)⟩
  have L5 : w.heap.size < W4.heap.size := (Array.getElem?_eq_some_iff.1 Hm4.out).1
  have P5 : w.heap.size ≤ p5 ∧ W7.heap[p5]? = _ := ⟨Nat.le_of_lt (Nat.lt_of_lt_of_le L5 K5.out.1.1), (ef_keep (Nat.lt_of_lt_of_le L5 K5.out.1.1) (ef_keep (Nat.lt_of_lt_of_le L5 K5.out.1.1) (ef_put (Nat.lt_of_lt_of_le L5 K5.out.1.1) K5.out.1.2 hW5) K6.out.2.2 hW6) K7.out.2.2 hW7)⟩
  have Q5 : w.heap.size ≤ q5 ∧ W7.heap[q5]? = _ := ⟨Nat.le_of_lt (Nat.lt_of_lt_of_le L5 K5.out.2.1.1), (ef_keep (Nat.lt_of_lt_of_le L5 K5.out.2.1.1) (ef_keep (Nat.lt_of_lt_of_le L5 K5.out.2.1.1) (ef_put (Nat.lt_of_lt_of_le L5 K5.out.2.1.1) K5.out.2.1.2 hW5) K6.out.2.2 hW6) K7.out.2.2 hW7)⟩
  have L6 : w.heap.size < W5.heap.size := (Array.getElem?_eq_some_iff.1 Hm5.out).1
  have P6 : w.heap.size ≤ p6 ∧ W7.heap[p6]? = _ := ⟨Nat.le_of_lt (Nat.lt_of_lt_of_le L6 K6.out.1.1), (ef_keep (Nat.lt_of_lt_of_le L6 K6.out.1.1) (ef_put (Nat.lt_of_lt_of_le L6 K6.out.1.1) K6.out.1.2 hW6) K7.out.2.2 hW7)⟩
  have Q6 : w.heap.size ≤ q6 ∧ W7.heap[q6]? = _ := ⟨Nat.le_of_lt (Nat.lt_of_lt_of_le L6 K6.out.2.1.1), (ef_keep (Nat.lt_of_lt_of_le L6 K6.out.2.1.1) (ef_put (Nat.lt_of_lt_of_le L6 K6.out.2.1.1) K6.out.2.1.2 hW6) K7.out.2.2 hW7)⟩
  have L7 : w.heap.size < W6.heap.size := (Array.getElem?_eq_some_iff.1 Hm6.out).1
  have P7 : w.heap.size ≤ p7 ∧ W7.heap[p7]? = _ := ⟨Nat.le_of_lt (Nat.lt_of_lt_of_le L7 K7.out.1.1), (ef_put (Nat.lt_of_lt_of_le L7 K7.out.1.1) K7.out.1.2 hW7)⟩
  have Q7 : w.heap.size ≤ q7 ∧ W7.heap[q7]? = _ := ⟨Nat.le_of_lt (Nat.lt_of_lt_of_le L7 K7.out.2.1.1), (ef_put (Nat.lt_of_lt_of_le L7 K7.out.2.1.1) K7.out.2.1.2 hW7)⟩
  exact ⟨rfl, ⟨p2, q2, p3, q3, p4, q4, p5, q5, p6, q6, p7, q7, Hm7.out, ⟨P2, Q2⟩, ⟨P3, Q3⟩, ⟨P4, Q4⟩, ⟨P5, Q5⟩, ⟨P6, Q6⟩, ⟨P7, Q7⟩⟩, B7.out⟩
end Go.Proofs.YtfjjhjojcgacbaaDoor

/- A new automaton. -/
namespace Go.Proofs.YtfjjhjojcgacbaaDoor
open Go.RowKit Go.Maps Go.WideMaps Go.WideElems Go.ChangeShapes Go.WideShapes
variable {T : TypeId} {er : Nat → Addr}

theorem EffAt.keep {B eb : Nat} {V U : World} (h : EffAt B eb V) (hb : Below V.heap.size V U) : EffAt B eb U := by
  obtain ⟨p2, q2, p3, q3, p4, q4, p5, q5, p6, q6, p7, q7, hm, ⟨⟨a2, b2⟩, c2, d2⟩, ⟨⟨a3, b3⟩, c3, d3⟩, ⟨⟨a4, b4⟩, c4, d4⟩, ⟨⟨a5, b5⟩, c5, d5⟩, ⟨⟨a6, b6⟩, c6, d6⟩, ⟨⟨a7, b7⟩, c7, d7⟩⟩ := h
  exact ⟨p2, q2, p3, q3, p4, q4, p5, q5, p6, q6, p7, q7, keepB hb hm, ⟨⟨a2, keepB hb b2⟩, c2, keepB hb d2⟩, ⟨⟨a3, keepB hb b3⟩, c3, keepB hb d3⟩, ⟨⟨a4, keepB hb b4⟩, c4, keepB hb d4⟩, ⟨⟨a5, keepB hb b5⟩, c5, keepB hb d5⟩, ⟨⟨a6, keepB hb b6⟩, c6, keepB hb d6⟩, ⟨⟨a7, keepB hb b7⟩, c7, keepB hb d7⟩⟩
theorem EffAt.base {B C eb : Nat} {V : World} (h : EffAt C eb V) (hb : B ≤ C) : EffAt B eb V := by
  obtain ⟨p2, q2, p3, q3, p4, q4, p5, q5, p6, q6, p7, q7, hm, ⟨⟨a2, b2⟩, c2, d2⟩, ⟨⟨a3, b3⟩, c3, d3⟩, ⟨⟨a4, b4⟩, c4, d4⟩, ⟨⟨a5, b5⟩, c5, d5⟩, ⟨⟨a6, b6⟩, c6, d6⟩, ⟨⟨a7, b7⟩, c7, d7⟩⟩ := h
  exact ⟨p2, q2, p3, q3, p4, q4, p5, q5, p6, q6, p7, q7, hm, ⟨⟨Nat.le_trans hb a2, b2⟩, Nat.le_trans hb c2, d2⟩, ⟨⟨Nat.le_trans hb a3, b3⟩, Nat.le_trans hb c3, d3⟩, ⟨⟨Nat.le_trans hb a4, b4⟩, Nat.le_trans hb c4, d4⟩, ⟨⟨Nat.le_trans hb a5, b5⟩, Nat.le_trans hb c5, d5⟩, ⟨⟨Nat.le_trans hb a6, b6⟩, Nat.le_trans hb c6, d6⟩, ⟨⟨Nat.le_trans hb a7, b7⟩, Nat.le_trans hb c7, d7⟩⟩
/-- The cells of an automaton. -/
abbrev autoC (ov : Value) (taken : Int) (rv : Value) (mb : Nat) (b0 b1 b2 b3 b4 b5 b6 b7 : Option Addr) (eb : Nat) : Array Value :=
  #[ov, .int .i64 taken, rv, .map (some mb), .pointer b0, .pointer b1, .pointer b2, .pointer b3, .pointer b4, .pointer b5, .pointer b6, .pointer b7, .map (some eb)]
/-- What New gives of objects that are fit. -/
def NewIs (n : Nat) (xs : List Value) (w : World) (e : Ending) (w' : World) : Prop := ∃ A oa oc mb eb, e = .returned (.tuple #[.pointer (some ⟨A, 0, none⟩), .nilIface]) ∧
  Hid (((w.heap.size ≤ A ∧ w.heap.size ≤ mb) ∧ w.heap.size ≤ eb) ∧ w'.heap[A]? = some (.cells (autoC (.slice oa n oc) 0 (.slice none 0 0) mb none none none none none none none none eb) 88) ∧ w'.ownsRow w.heap.size 31 2 (.slice oa n oc) n xs ∧ w'.heap[mb]? = some (.map #[] 0) ∧ EffAt w.heap.size eb w' ∧ mb ≠ eb ∧ Below w.heap.size w w')
/-- A pointer that is none, and an error. -/
def NewErr (w : World) (e : Ending) (w' : World) : Prop := ∃ t p, e = .returned (.tuple #[.pointer none, .iface t (.pointer (some p))]) ∧ Hid (Below w.heap.size w w')

set_option maxHeartbeats 4000000 in
set_option maxRecDepth 100000 in
theorem new_any (a : Option Addr) (n c : Nat) (os : List (Int × Int)) (hn : os.length = n) (w : World) (h : SlAt w a (obs os)) (hG : Glob T er w) :
    Calls Tryd.prog 51 #[.slice a n c] w fun e w' => if hisOk os [] then NewIs n (obs os) w e w' else NewErr w e w' := by
  have hmm := @run_makeMap Tryd.prog
  have HV := Lib.hid (valid_his (T := T) (er := er) a none n c 0 0 os [] hn rfl w (ObAt.of h hn) (fun k hk => absurd hk (by omega)) hG)
  have Hb := Lib.hid h
  have Hn := Lib.hid hn
  obtain ⟨R, hR⟩ : ∃ R, hisOk os [] = R := ⟨_, rfl⟩
  rw [hR] at HV ⊢
  cases R with
  | false =>
    clear h hG hn hR
    go_enter Tryd.func51, Tryd.ntmps51
    go_wp2_with (first | (go_at_call 50; (with_reducible refine HV.out.mono ?_); rintro e w2 ⟨⟨t, p, rfl⟩, h2⟩))
    go_ret2
    exact ⟨_, _, rfl, h2.out⟩
  | true =>
    have h8 : n ≤ 8 := by
      unfold hisOk at hR
      rw [Bool.and_eq_true, decide_eq_true_eq, hn] at hR
      exact hR.1
    have HV2 : Hid (Calls Tryd.prog 50 #[hv a n c none 0 0] w fun e w' => e = .returned .nilIface ∧ Hid (Below w.heap.size w w')) := HV.out
    have HC := Lib.hid (fun V hV => clone_obs a n c (obs os) (by rw [obs_len, hn]) (obs_one os) (by omega) V (h.below (W' := V) hV))
    have HE := Lib.hid effects_any
    clear h hG hn hR h8 HV
    go_enter Tryd.func51, Tryd.ntmps51
    go_wp2_with (first
      | (go_at_call 50; (with_reducible refine HV2.out.mono ?_); rintro e w2 ⟨rfl, h2⟩)
      | (go_at_call 39; (with_reducible refine (HC.out _ h2.out).mono ?_); rintro e w3 ⟨v1, rfl, K3⟩; obtain ⟨a1, c1, rfl, -, -⟩ := row_sl K3.out.1
         obtain ⟨W4, hW4, Hb4, Hm4⟩ := map_new w3)
      | (go_at_call 58; (with_reducible refine (HE.out _).mono ?_); rintro e w5 ⟨rfl, K5⟩
         obtain ⟨W6, hW6, Hb6, hs6, Hx6⟩ := cells_new w5 (autoC (.slice a1 n c1) 0 (.slice none 0 0) w3.heap.size none none none none none none none none W4.heap.size) 88))
    go_ret2
    have C3 : Hid (Below w.heap.size w w3) := stepB h2.out K3.out.2
    have C4 : Hid (Below w.heap.size w W4) := stepB C3.out Hb4.out
    have C5 : Hid (Below w.heap.size w w5) := stepB C4.out K5.out.2
    have D6 : Hid (Below w3.heap.size w3 W6) := stepB (stepB Hb4.out K5.out.2) Hb6.out
    refine ⟨_, _, _, _, _, rfl, ⟨⟨C5.out.size, C3.out.size⟩, C4.out.size⟩, Hx6.out, ?_, ?_, ?_, ?_, stepB C5.out Hb6.out⟩
    · exact row_base (row_kept K3.out.1 D6.out) h2.out.size
    · exact keepB Hb6.out (keepB K5.out.2 Hm4.out)
    · exact (K5.out.1.keep Hb6.out).base C4.out.size
    · exact Nat.ne_of_lt (Array.getElem?_eq_some_iff.1 Hm4.out).1
end Go.Proofs.YtfjjhjojcgacbaaDoor

/- An automaton in memory. -/
namespace Go.Proofs.YtfjjhjojcgacbaaDoor
open Go.RowKit Go.Maps Go.WideMaps Go.WideElems Go.ChangeShapes Go.WideShapes
variable {T : TypeId} {er : Nat → Addr}

/-- A deed. -/
structure Deed where
  obj : Int
  op : Int
  key : Int
  val : Int
  ret : Int
  got : Int
  pos : Int
  back : Int
def Deed.row (d : Deed) : List Value := [.int .i64 d.obj, .int .i64 d.op, .int .i64 d.key, .int .i64 d.val, .int .i64 d.ret, .int .i64 d.got, .int .i64 d.pos, .int .i64 d.back]
def deeds (ds : List Deed) : List Value := ds.flatMap Deed.row
/-- A transaction, and where it stands. -/
structure Rec where
  id : Int
  thread : Int
  status : Int
  beg : Int
  fin : Int
  tri : Int
  ds : List Deed
  phase : Int
/-- The cells of a record. -/
abbrev Rec.cells (r : Rec) (dv : Value) : Array Value := #[.int .i64 r.id, .int .i64 r.thread, .int .i64 r.status, .int .i64 r.beg, .int .i64 r.fin, .int .i64 r.tri, dv, .int .i64 r.phase]

/-- The entries of the map of records. -/
def ents : List Int → List Nat → Nat → List MapEntry
  | k :: ks, b :: bs, i => ⟨.int .i64 k, .pointer (some ⟨b, 0, none⟩), i⟩ :: ents ks bs (i + 1)
  | _, _, _ => []
theorem ents_snoc : ∀ (ks : List Int) (bs : List Nat) (i : Nat) (k : Int) (b : Nat), ks.length = bs.length → ents (ks ++ [k]) (bs ++ [b]) i = ents ks bs i ++ [⟨.int .i64 k, .pointer (some ⟨b, 0, none⟩), i + ks.length⟩]
  | [], [], i, k, b, _ => rfl
  | [], _ :: _, _, _, _, h => by simp at h
  | _ :: _, [], _, _, _, h => by simp at h
  | x :: ks, y :: bs, i, k, b, h => by
    have ih := ents_snoc ks bs (i + 1) k b (by simpa using h)
    show _ :: ents (ks ++ [k]) (bs ++ [b]) (i + 1) = _ :: (ents ks bs (i + 1) ++ _)
    rw [ih, show i + 1 + ks.length = i + (x :: ks).length from by simp; omega]
theorem same_int (k x : Int) : Instr.sameNow (.int .i64) (.int .i64 k) (.int .i64 x) = some (k == x) := rfl
theorem find_off : ∀ (ks : List Int) (bs : List Nat) (i j : Nat) (k : Int), ¬ k ∈ ks → Instr.findNow (.int .i64) (.int .i64 k) (ents ks bs i) j = some none
  | [], _, _, _, _, _ => rfl
  | _ :: _, [], _, _, _, _ => rfl
  | x :: ks, b :: bs, i, j, k, h => by
    have hx : (k == x) = false := by simp at h; simpa using h.1
    show (match Instr.sameNow (.int .i64) (.int .i64 k) (.int .i64 x) with | some true => _ | some false => Instr.findNow (.int .i64) (.int .i64 k) (ents ks bs (i + 1)) (j + 1) | none => _) = _
    rw [same_int, hx]
    exact find_off ks bs (i + 1) (j + 1) k (fun g => h (by simp [g]))
theorem find_at : ∀ (ks : List Int) (bs : List Nat) (i j m : Nat) (k : Int) (b : Nat), ks.Nodup → ks[m]? = some k → bs[m]? = some b → Instr.findNow (.int .i64) (.int .i64 k) (ents ks bs i) j = some (some (j + m, .pointer (some ⟨b, 0, none⟩)))
  | [], _, _, _, _, _, _, _, h, _ => by simp at h
  | _ :: _, [], _, _, _, _, _, _, _, h => by simp at h
  | x :: ks, c :: bs, i, j, 0, k, b, _, h, h' => by
    simp at h h'
    subst h h'
    show (match Instr.sameNow (.int .i64) (.int .i64 x) (.int .i64 x) with | some true => some (some (j, _)) | some false => _ | none => _) = _
    rw [same_int, beq_self_eq_true]
    rfl
  | x :: ks, c :: bs, i, j, m + 1, k, b, hn, h, h' => by
    have hk : k ∈ ks := List.mem_of_getElem? (by simpa using h)
    have hx : (k == x) = false := by
      have := (List.nodup_cons.1 hn).1
      simp
      rintro rfl
      exact this hk
    show (match Instr.sameNow (.int .i64) (.int .i64 k) (.int .i64 x) with | some true => _ | some false => Instr.findNow (.int .i64) (.int .i64 k) (ents ks bs (i + 1)) (j + 1) | none => _) = _
    rw [same_int, hx, show j + (m + 1) = j + 1 + m from by omega]
    exact find_at ks bs (i + 1) (j + 1) m k b (List.nodup_cons.1 hn).2 (by simpa using h) (by simpa using h')

/-- Where a thread's record lies. -/
def bp (M : List (Nat × Value)) (busy : List (Option Nat)) (t : Nat) : Option Addr := (busy.getD t none).bind fun i => M[i]?.map fun m => ⟨m.1, 0, none⟩
/-- An automaton lies in a block: its objects, its records in their order, the map of them, who is busy. M: where the records lie, and the lists of their deeds. -/
structure AutoAt (B A : Nat) (os : List (Int × Int)) (recs : List Rec) (busy : List (Option Nat)) (taken : Nat) (M : List (Nat × Value)) (oa : Option Addr) (oc : Nat) (rv : Value) (mb eb : Nat) (V : World) : Prop where
  auto : V.heap[A]? = some (.cells (autoC (.slice oa os.length oc) taken rv mb (bp M busy 0) (bp M busy 1) (bp M busy 2) (bp M busy 3) (bp M busy 4) (bp M busy 5) (bp M busy 6) (bp M busy 7) eb) 88)
  low : (B ≤ A ∧ B ≤ mb) ∧ B ≤ eb
  objs : V.ownsRow B 31 2 (.slice oa os.length oc) os.length (obs os)
  order : V.ownsRow B 84 1 rv M.length (M.map fun m => .pointer (some ⟨m.1, 0, none⟩))
  map : V.heap[mb]? = some (.map (ents (recs.map (·.id)) (M.map (·.1)) 0).toArray M.length)
  eff : EffAt B eb V
  len : recs.length = M.length
  one : ∀ (i : Nat) (r : Rec) (m : Nat × Value), recs[i]? = some r → M[i]? = some m → B ≤ m.1 ∧ V.heap[m.1]? = some (.cells (r.cells m.2) 91) ∧ V.ownsRow B 75 8 m.2 r.ds.length (deeds r.ds)
  apart : ∀ (i j : Nat) (mi mj : Nat × Value), i ≠ j → M[i]? = some mi → M[j]? = some mj → mi.1 ≠ mj.1 ∧ ∀ g, mi.2.ownBlock = some g → mj.2.ownBlock ≠ some g
  two : mb ≠ eb
theorem AutoAt.keep {B A : Nat} {os : List (Int × Int)} {recs : List Rec} {busy : List (Option Nat)} {taken : Nat} {M : List (Nat × Value)} {oa : Option Addr} {oc : Nat} {rv : Value} {mb eb : Nat} {V U : World} (h : AutoAt B A os recs busy taken M oa oc rv mb eb V) (hb : Below V.heap.size V U) : AutoAt B A os recs busy taken M oa oc rv mb eb U :=
  ⟨keepB hb h.auto, h.low, row_kept h.objs hb, row_kept h.order hb, keepB hb h.map, h.eff.keep hb, h.len, fun i r m hr hm => ⟨(h.one i r m hr hm).1, keepB hb (h.one i r m hr hm).2.1, row_kept (h.one i r m hr hm).2.2 hb⟩, h.apart, h.two⟩
/-- What New gives is an automaton that has taken nothing. -/
theorem NewIs.auto {n : Nat} {os : List (Int × Int)} {w : World} {e : Ending} {w' : World} (hn : os.length = n) (h : NewIs n (obs os) w e w') : ∃ A oa oc mb eb, e = .returned (.tuple #[.pointer (some ⟨A, 0, none⟩), .nilIface]) ∧ Hid (AutoAt w.heap.size A os [] [] 0 [] oa oc (.slice none 0 0) mb eb w' ∧ Below w.heap.size w w') := by
  subst hn
  obtain ⟨A, oa, oc, mb, eb, rfl, hl, ha, ho, hm, he, h2, hb⟩ := h
  refine ⟨A, oa, oc, mb, eb, rfl, ⟨ha, hl, ho, World.ownsRow_nil _ _ _ _, hm, he, rfl, fun i r m hr _ => by simp at hr, fun i j mi mj _ h _ => by simp at h, h2⟩, hb⟩
end Go.Proofs.YtfjjhjojcgacbaaDoor

/- An automaton in memory, written to; called; cancel: by contracts. -/
namespace Go.Proofs.YtfjjhjojcgacbaaDoor
open Go.RowKit Go.Maps Go.WideMaps Go.WideElems Go.ChangeShapes Go.WideShapes
variable {T : TypeId} {er : Nat → Addr}

theorem ne_kind {W : World} {a b : Nat} {c : Array Value} {t : TypeId} {es : Array MapEntry} {n : Nat} (h1 : W.heap[a]? = some (.cells c t)) (h2 : W.heap[b]? = some (.map es n)) : a ≠ b := by
  rintro rfl
  rw [h1] at h2
  cases h2
theorem EffAt.set {B eb k i : Nat} {V : World} {cs : Array Value} {t : TypeId} (h : EffAt B eb V) (hk : V.heap[k]? = some (.cells cs t)) (h1 : t ≠ 89) (h2 : t ≠ 103) (x : Value) : EffAt B eb (V.setCell ⟨k, i, none⟩ x) := by
  obtain ⟨p2, q2, p3, q3, p4, q4, p5, q5, p6, q6, p7, q7, hm, ⟨⟨a2, b2⟩, c2, d2⟩, ⟨⟨a3, b3⟩, c3, d3⟩, ⟨⟨a4, b4⟩, c4, d4⟩, ⟨⟨a5, b5⟩, c5, d5⟩, ⟨⟨a6, b6⟩, c6, d6⟩, ⟨⟨a7, b7⟩, c7, d7⟩⟩ := h
  exact ⟨p2, q2, p3, q3, p4, q4, p5, q5, p6, q6, p7, q7, keepS (ne_kind hk hm) hm, ⟨⟨a2, keepS (ne_of_type hk b2 h1) b2⟩, c2, keepS (ne_of_type hk d2 h2) d2⟩, ⟨⟨a3, keepS (ne_of_type hk b3 h1) b3⟩, c3, keepS (ne_of_type hk d3 h2) d3⟩, ⟨⟨a4, keepS (ne_of_type hk b4 h1) b4⟩, c4, keepS (ne_of_type hk d4 h2) d4⟩, ⟨⟨a5, keepS (ne_of_type hk b5 h1) b5⟩, c5, keepS (ne_of_type hk d5 h2) d5⟩, ⟨⟨a6, keepS (ne_of_type hk b6 h1) b6⟩, c6, keepS (ne_of_type hk d6 h2) d6⟩, ⟨⟨a7, keepS (ne_of_type hk b7 h1) b7⟩, c7, keepS (ne_of_type hk d7 h2) d7⟩⟩
theorem set_map {recs : List Rec} {i : Nat} {r r' : Rec} (hi : recs[i]? = some r) (h : r'.id = r.id) : (recs.set i r').map (·.id) = recs.map (·.id) := by
  apply List.ext_getElem?
  intro j
  rw [List.getElem?_map, List.getElem?_map, List.getElem?_set]
  split
  · rename_i e
    subst e
    have hl : i < recs.length := (List.getElem?_eq_some_iff.1 hi).1
    rw [if_pos hl, hi]
    simp [h]
  · rfl
/-- A cell of a record is written. -/
theorem AutoAt.setRec {B A : Nat} {os : List (Int × Int)} {recs : List Rec} {busy : List (Option Nat)} {taken : Nat} {M : List (Nat × Value)} {oa : Option Addr} {oc : Nat} {rv : Value} {mb eb : Nat} {V : World} (h : AutoAt B A os recs busy taken M oa oc rv mb eb V) {i o : Nat} {r : Rec} {m : Nat × Value} (hi : recs[i]? = some r) (hm : M[i]? = some m) (r' : Rec) (x : Value) (hc : (r.cells m.2).setIfInBounds o x = r'.cells m.2) (hid : r'.id = r.id) (hds : r'.ds = r.ds) :
    AutoAt B A os (recs.set i r') busy taken M oa oc rv mb eb (V.setCell ⟨m.1, o, none⟩ x) := by
  obtain ⟨h1, h2, h3⟩ := h.one i r m hi hm
  refine ⟨keepS (ne_of_type h2 h.auto (by decide)) h.auto, h.low, row_setOff h.objs h2 (by decide) x, row_setOff h.order h2 (by decide) x, ?_, h.eff.set h2 (by decide) (by decide) x, by rw [List.length_set]; exact h.len, ?_, h.apart, h.two⟩
  · rw [set_map hi hid]
    exact keepS (ne_kind h2 h.map) h.map
  · intro j r2 m2 hj hm2
    rw [List.getElem?_set] at hj
    split at hj
    · rename_i e
      subst e
      rw [hm] at hm2
      injection hm2 with hm2
      subst hm2
      split at hj
      · injection hj with hj
        subst hj
        refine ⟨h1, ?_, ?_⟩
        · have := heap_setCell_same V m.1 o _ 91 x h2
          rw [hc] at this
          exact this
        · rw [hds]; exact row_setOff h3 h2 (by decide) x
      · cases hj
    · rename_i e
      obtain ⟨g1, g2, g3⟩ := h.one j r2 m2 hj hm2
      exact ⟨g1, keepS (h.apart i j m m2 e hm hm2).1 g2, row_setOff g3 h2 (by decide) x⟩
/-- A record's cells. -/
theorem AutoAt.row {B A : Nat} {os : List (Int × Int)} {recs : List Rec} {busy : List (Option Nat)} {taken : Nat} {M : List (Nat × Value)} {oa : Option Addr} {oc : Nat} {rv : Value} {mb eb : Nat} {V : World} (h : AutoAt B A os recs busy taken M oa oc rv mb eb V) {i : Nat} {r : Rec} {m : Nat × Value} (hi : recs[i]? = some r) (hm : M[i]? = some m) : V.heap[m.1]? = some (.cells (r.cells m.2) 91) := (h.one i r m hi hm).2.1
theorem AutoAt.obAt {B A : Nat} {os : List (Int × Int)} {recs : List Rec} {busy : List (Option Nat)} {taken : Nat} {M : List (Nat × Value)} {oa : Option Addr} {oc : Nat} {rv : Value} {mb eb : Nat} {V : World} (h : AutoAt B A os recs busy taken M oa oc rv mb eb V) : ObAt V oa os os.length := by
  obtain ⟨a, c, e, hs, -⟩ := row_sl h.objs
  cases e
  exact ObAt.of hs rfl

set_option maxHeartbeats 2000000 in
set_option maxRecDepth 100000 in
theorem cancel_any {B A : Nat} {os : List (Int × Int)} {recs : List Rec} {busy : List (Option Nat)} {taken : Nat} {M : List (Nat × Value)} {oa : Option Addr} {oc : Nat} {rv : Value} {mb eb : Nat} (w : World) (h : AutoAt B A os recs busy taken M oa oc rv mb eb w) {i : Nat} {r : Rec} {m : Nat × Value} (hi : recs[i]? = some r) (hm : M[i]? = some m) (e : Ev) :
    Calls Tryd.prog 72 #[.pointer (some ⟨A, 0, none⟩), .pointer (some ⟨m.1, 0, none⟩), e.agg] w fun en w' => en = .returned .nilIface ∧ Hid (AutoAt B A os (recs.set i { r with phase := 8 }) busy taken M oa oc rv mb eb w' ∧ Below B w w') := by
  obtain ⟨W, hW, Hb, hs, Hx⟩ := cells_new w #[.int .i64 e.kind, .int .i64 e.tx, .int .i64 e.thread, .int .i64 e.obj, .int .i64 e.op, .int .i64 e.key, .int .i64 e.val, .int .i64 e.ret] 34
  have HA := Lib.hid (h.keep Hb.out)
  have hBw : B ≤ w.heap.size := Nat.le_trans h.low.1.1 (Nat.le_of_lt (Array.getElem?_eq_some_iff.1 h.auto).1)
  have hr := HA.out.row hi hm
  have c7 : W.cell? ⟨m.1, 7, none⟩ = some (.int .i64 r.phase) := (cell_of_row _ _ 7 _ _ _ hr).trans rfl
  have f7 : W.frozen? ⟨m.1, 7, none⟩ = false := frozen_of_row _ m.1 7 _ 91 hr
  have H2 := Lib.hid (HA.out.setRec (o := 7) hi hm { r with phase := 8 } (.int .i64 8) rfl rfl rfl)
  have HB : Hid (Below B w (W.setCell ⟨m.1, 7, none⟩ (.int .i64 8))) := (Hb.out.mono hBw).setCell (p := ⟨m.1, 7, none⟩) (h.one i r m hi hm).1 _
  clear h hi hm hr
  go_enter Tryd.func72, Tryd.ntmps72
  go_wp2_with fail
  go_ret
  exact ⟨rfl, H2.out, HB.out⟩
end Go.Proofs.YtfjjhjojcgacbaaDoor

/- end, commit, abort, try: by contracts. -/
namespace Go.Proofs.YtfjjhjojcgacbaaDoor
open Go.RowKit Go.Maps Go.WideMaps Go.WideElems Go.ChangeShapes Go.WideShapes
variable {T : TypeId} {er : Nat → Addr}

/-- A cell of the automaton is written. -/
theorem AutoAt.setAuto {B A : Nat} {os : List (Int × Int)} {recs : List Rec} {busy : List (Option Nat)} {taken : Nat} {M : List (Nat × Value)} {oa : Option Addr} {oc : Nat} {rv : Value} {mb eb : Nat} {V : World} (h : AutoAt B A os recs busy taken M oa oc rv mb eb V) (o : Nat) (x : Value) (busy' : List (Option Nat)) (taken' : Nat)
    (hc : (autoC (.slice oa os.length oc) taken rv mb (bp M busy 0) (bp M busy 1) (bp M busy 2) (bp M busy 3) (bp M busy 4) (bp M busy 5) (bp M busy 6) (bp M busy 7) eb).setIfInBounds o x = autoC (.slice oa os.length oc) taken' rv mb (bp M busy' 0) (bp M busy' 1) (bp M busy' 2) (bp M busy' 3) (bp M busy' 4) (bp M busy' 5) (bp M busy' 6) (bp M busy' 7) eb) :
    AutoAt B A os recs busy' taken' M oa oc rv mb eb (V.setCell ⟨A, o, none⟩ x) := by
  refine ⟨?_, h.low, row_setOff h.objs h.auto (by decide) x, row_setOff h.order h.auto (by decide) x, keepS (ne_kind h.auto h.map) h.map, h.eff.set h.auto (by decide) (by decide) x, h.len, fun i r m hi hm => ?_, h.apart, h.two⟩
  · have := heap_setCell_same V A o _ 88 x h.auto
    rw [hc] at this
    exact this
  · obtain ⟨h1, h2, h3⟩ := h.one i r m hi hm
    exact ⟨h1, keepS (ne_of_type h.auto h2 (by decide)) h2, row_setOff h3 h.auto (by decide) x⟩
theorem bp_none (M : List (Nat × Value)) (busy : List (Option Nat)) (t j : Nat) : bp M (busy.set t none) j = if t = j then none else bp M busy j := by
  unfold bp
  rw [List.getD_eq_getElem?_getD, List.getD_eq_getElem?_getD, List.getElem?_set]
  split
  · split <;> rfl
  · rfl
theorem free_cells (M : List (Nat × Value)) (busy : List (Option Nat)) (ov : Value) (taken : Int) (rv : Value) (mb eb t : Nat) (ht : t < 8) : (autoC ov taken rv mb (bp M busy 0) (bp M busy 1) (bp M busy 2) (bp M busy 3) (bp M busy 4) (bp M busy 5) (bp M busy 6) (bp M busy 7) eb).setIfInBounds (4 + t) (.pointer none) = autoC ov taken rv mb (bp M (busy.set t none) 0) (bp M (busy.set t none) 1) (bp M (busy.set t none) 2) (bp M (busy.set t none) 3) (bp M (busy.set t none) 4) (bp M (busy.set t none) 5) (bp M (busy.set t none) 6) (bp M (busy.set t none) 7) eb := by
  simp only [bp_none]
  rcases t with _ | _ | _ | _ | _ | _ | _ | _ | t
  iterate 8 rfl
  omega

set_option maxHeartbeats 4000000 in
set_option maxRecDepth 100000 in
theorem end_any {B A : Nat} {os : List (Int × Int)} {recs : List Rec} {busy : List (Option Nat)} {taken : Nat} {M : List (Nat × Value)} {oa : Option Addr} {oc : Nat} {rv : Value} {mb eb : Nat} (w : World) (h : AutoAt B A os recs busy taken M oa oc rv mb eb w) {i : Nat} {r : Rec} {m : Nat × Value} (hi : recs[i]? = some r) (hm : M[i]? = some m) (t : Nat) (ht : r.thread = (t : Int)) (ht8 : t < 8) (st : Int) :
    Calls Tryd.prog 78 #[.pointer (some ⟨A, 0, none⟩), .pointer (some ⟨m.1, 0, none⟩), .int .i64 st] w fun en w' => en = .returned .nilIface ∧ Hid (AutoAt B A os (recs.set i { r with phase := 16, status := st, fin := (taken : Int) }) (busy.set t none) taken M oa oc rv mb eb w' ∧ Below B w w') := by
  have hl : i < recs.length := (List.getElem?_eq_some_iff.1 hi).1
  have hr := h.row hi hm
  have c7 : w.cell? ⟨m.1, 7, none⟩ = some (.int .i64 r.phase) := (cell_of_row _ _ 7 _ _ _ hr).trans rfl
  have f7 : w.frozen? ⟨m.1, 7, none⟩ = false := frozen_of_row _ m.1 7 _ 91 hr
  obtain ⟨W1, hW1⟩ : ∃ W1, w.setCell ⟨m.1, 7, none⟩ (.int .i64 16) = W1 := ⟨_, rfl⟩
  have H1 : AutoAt B A os (recs.set i { r with phase := 16 }) busy taken M oa oc rv mb eb W1 := hW1 ▸ h.setRec (o := 7) hi hm { r with phase := 16 } (.int .i64 16) rfl rfl rfl
  have hi1 : (recs.set i { r with phase := 16 })[i]? = some { r with phase := 16 } := by rw [List.getElem?_set_self hl]
  have hr1 := H1.row hi1 hm
  have c2 : W1.cell? ⟨m.1, 2, none⟩ = some (.int .i64 r.status) := (cell_of_row _ _ 2 _ _ _ hr1).trans rfl
  have f2 : W1.frozen? ⟨m.1, 2, none⟩ = false := frozen_of_row _ m.1 2 _ 91 hr1
  have ca1 : W1.cell? ⟨A, 1, none⟩ = some (.int .i64 (taken : Int)) := (cell_of_row _ _ 1 _ _ _ H1.auto).trans rfl
  obtain ⟨W2, hW2⟩ : ∃ W2, W1.setCell ⟨m.1, 2, none⟩ (.int .i64 st) = W2 := ⟨_, rfl⟩
  have H2 : AutoAt B A os (recs.set i { r with phase := 16, status := st }) busy taken M oa oc rv mb eb W2 := by
    have := H1.setRec (o := 2) hi1 hm { r with phase := 16, status := st } (.int .i64 st) rfl rfl rfl
    rw [List.set_set, hW2] at this
    exact this
  have hi2 : (recs.set i { r with phase := 16, status := st })[i]? = some { r with phase := 16, status := st } := by rw [List.getElem?_set_self hl]
  have hr2 := H2.row hi2 hm
  have c4 : W2.cell? ⟨m.1, 4, none⟩ = some (.int .i64 r.fin) := (cell_of_row _ _ 4 _ _ _ hr2).trans rfl
  have f4 : W2.frozen? ⟨m.1, 4, none⟩ = false := frozen_of_row _ m.1 4 _ 91 hr2
  obtain ⟨W3, hW3⟩ : ∃ W3, W2.setCell ⟨m.1, 4, none⟩ (.int .i64 (taken : Int)) = W3 := ⟨_, rfl⟩
  have H3 : AutoAt B A os (recs.set i { r with phase := 16, status := st, fin := (taken : Int) }) busy taken M oa oc rv mb eb W3 := by
    have := H2.setRec (o := 4) hi2 hm { r with phase := 16, status := st, fin := (taken : Int) } (.int .i64 (taken : Int)) rfl rfl rfl
    rw [List.set_set, hW3] at this
    exact this
  have hi3 : (recs.set i { r with phase := 16, status := st, fin := (taken : Int) })[i]? = some { r with phase := 16, status := st, fin := (taken : Int) } := by rw [List.getElem?_set_self hl]
  have H3d := H3.keep (Below.refl _ W3).drew
  have HS1 : Hid (W3.drew.cell? ⟨m.1, 1, none⟩ = some (.int .i64 (t : Int))) := by
    have := (cell_of_row _ _ 1 _ _ _ (H3d.row hi3 hm)).trans rfl
    show _ = _
    rw [← ht]
    exact this
  obtain ⟨W4, hW4⟩ : ∃ W4, W3.drew.setCell ⟨A, 4 + t, none⟩ (.pointer none) = W4 := ⟨_, rfl⟩
  have H4 : Hid (AutoAt B A os (recs.set i { r with phase := 16, status := st, fin := (taken : Int) }) (busy.set t none) taken M oa oc rv mb eb W4) := by
    show AutoAt _ _ _ _ _ _ _ _ _ _ _ _ _
    rw [← hW4]
    exact H3d.setAuto (4 + t) (.pointer none) _ _ (free_cells M busy _ _ _ _ _ t ht8)
  have HS4 : Hid (W4.cell? ⟨m.1, 1, none⟩ = some (.int .i64 (t : Int))) := by
    have := (cell_of_row _ _ 1 _ _ _ (H4.out.row hi3 hm)).trans rfl
    show _ = _
    rw [← ht]
    exact this
  have hBm := (h.one i r m hi hm).1
  have HB : Hid (Below B w W4) := by
    show Below _ _ _
    rw [← hW4, ← hW3, ← hW2, ← hW1]
    exact ((((Below.refl _ w).setCell (p := ⟨m.1, 7, none⟩) hBm _).setCell (p := ⟨m.1, 2, none⟩) hBm _).setCell (p := ⟨m.1, 4, none⟩) hBm _).drew.setCell (p := ⟨A, 4 + t, none⟩) h.low.1.1 _
  have fA : W3.drew.frozen? ⟨A, 4 + t, none⟩ = false := frozen_of_row _ A (4 + t) _ 88 H3d.auto
  obtain ⟨u, cA⟩ : ∃ u, W3.drew.cell? ⟨A, 4 + t, none⟩ = some (.pointer u) := by
    have hk := H3d.auto
    rcases t with _ | _ | _ | _ | _ | _ | _ | _ | t
    iterate 8 exact ⟨_, (cell_of_row _ _ _ _ _ _ hk).trans rfl⟩
    omega
  have t0 : (0 : Int) ≤ (t : Int) := by omega
  have t1 : (t : Int) < 8 := by omega
  clear h hi hm hr H1 hi1 hr1 H2 hi2 hr2 H3 hi3 H3d hl ht hBm
  go_enter Tryd.func78, Tryd.ntmps78
  go_wp2_with fail
  go_region_held3 (fun w' => w'.cell? ⟨m.1, 1, none⟩ = some (.int .i64 (t : Int)))
    (first | (with_reducible exact HS1.out) | (with_reducible exact HS4.out))
    (fail)
  all_goals
    go_wp2_with fail
    go_ret
    exact ⟨rfl, H4.out, HB.out⟩
end Go.Proofs.YtfjjhjojcgacbaaDoor

/- commit, abort, try: by contracts. -/
namespace Go.Proofs.YtfjjhjojcgacbaaDoor
open Go.RowKit Go.Maps Go.WideMaps Go.WideElems Go.ChangeShapes Go.WideShapes
variable {T : TypeId} {er : Nat → Addr}

theorem AutoAt.base {B A : Nat} {os : List (Int × Int)} {recs : List Rec} {busy : List (Option Nat)} {taken : Nat} {M : List (Nat × Value)} {oa : Option Addr} {oc : Nat} {rv : Value} {mb eb : Nat} {V : World} (h : AutoAt B A os recs busy taken M oa oc rv mb eb V) : B ≤ V.heap.size := Nat.le_trans h.low.1.1 (Nat.le_of_lt (Array.getElem?_eq_some_iff.1 h.auto).1)

set_option maxHeartbeats 2000000 in
set_option maxRecDepth 100000 in
theorem commit_any {B A : Nat} {os : List (Int × Int)} {recs : List Rec} {busy : List (Option Nat)} {taken : Nat} {M : List (Nat × Value)} {oa : Option Addr} {oc : Nat} {rv : Value} {mb eb : Nat} (w : World) (h : AutoAt B A os recs busy taken M oa oc rv mb eb w) {i : Nat} {r : Rec} {m : Nat × Value} (hi : recs[i]? = some r) (hm : M[i]? = some m) (t : Nat) (ht : r.thread = (t : Int)) (ht8 : t < 8) (e : Ev) :
    Calls Tryd.prog 70 #[.pointer (some ⟨A, 0, none⟩), .pointer (some ⟨m.1, 0, none⟩), e.agg] w fun en w' => en = .returned .nilIface ∧ Hid (AutoAt B A os (recs.set i { r with phase := 16, status := 3, fin := (taken : Int) }) (busy.set t none) taken M oa oc rv mb eb w' ∧ Below B w w') := by
  obtain ⟨W, hW, Hb, hs, Hx⟩ := cells_new w #[.int .i64 e.kind, .int .i64 e.tx, .int .i64 e.thread, .int .i64 e.obj, .int .i64 e.op, .int .i64 e.key, .int .i64 e.val, .int .i64 e.ret] 34
  have HE := Lib.hid (end_any W (h.keep Hb.out) hi hm t ht ht8 3)
  have HB : Hid (Below B w W) := Hb.out.mono h.base
  clear h hi hm ht ht8
  go_enter Tryd.func70, Tryd.ntmps70
  go_wp2_with (first | (go_at_call 78; (with_reducible refine HE.out.mono ?_); rintro e2 w2 ⟨rfl, K⟩))
  go_ret
  exact ⟨rfl, K.out.1, HB.out.trans K.out.2⟩

set_option maxHeartbeats 2000000 in
set_option maxRecDepth 100000 in
theorem abort_any {B A : Nat} {os : List (Int × Int)} {recs : List Rec} {busy : List (Option Nat)} {taken : Nat} {M : List (Nat × Value)} {oa : Option Addr} {oc : Nat} {rv : Value} {mb eb : Nat} (w : World) (h : AutoAt B A os recs busy taken M oa oc rv mb eb w) {i : Nat} {r : Rec} {m : Nat × Value} (hi : recs[i]? = some r) (hm : M[i]? = some m) (t : Nat) (ht : r.thread = (t : Int)) (ht8 : t < 8) (e : Ev) :
    Calls Tryd.prog 71 #[.pointer (some ⟨A, 0, none⟩), .pointer (some ⟨m.1, 0, none⟩), e.agg] w fun en w' => en = .returned .nilIface ∧ Hid (AutoAt B A os (recs.set i { r with phase := 16, status := 4, fin := (taken : Int) }) (busy.set t none) taken M oa oc rv mb eb w' ∧ Below B w w') := by
  obtain ⟨W, hW, Hb, hs, Hx⟩ := cells_new w #[.int .i64 e.kind, .int .i64 e.tx, .int .i64 e.thread, .int .i64 e.obj, .int .i64 e.op, .int .i64 e.key, .int .i64 e.val, .int .i64 e.ret] 34
  have HE := Lib.hid (end_any W (h.keep Hb.out) hi hm t ht ht8 4)
  have HB : Hid (Below B w W) := Hb.out.mono h.base
  clear h hi hm ht ht8
  go_enter Tryd.func71, Tryd.ntmps71
  go_wp2_with (first | (go_at_call 78; (with_reducible refine HE.out.mono ?_); rintro e2 w2 ⟨rfl, K⟩))
  go_ret
  exact ⟨rfl, K.out.1, HB.out.trans K.out.2⟩

set_option maxHeartbeats 4000000 in
set_option maxRecDepth 100000 in
theorem try_any {B A : Nat} {os : List (Int × Int)} {recs : List Rec} {busy : List (Option Nat)} {taken : Nat} {M : List (Nat × Value)} {oa : Option Addr} {oc : Nat} {rv : Value} {mb eb : Nat} (w : World) (h : AutoAt B A os recs busy taken M oa oc rv mb eb w) {i : Nat} {r : Rec} {m : Nat × Value} (hi : recs[i]? = some r) (hm : M[i]? = some m) (e : Ev) :
    Calls Tryd.prog 69 #[.pointer (some ⟨A, 0, none⟩), .pointer (some ⟨m.1, 0, none⟩), e.agg] w fun en w' => en = .returned .nilIface ∧ Hid (AutoAt B A os (recs.set i { r with phase := 4, status := 2, tri := (taken : Int) }) busy taken M oa oc rv mb eb w' ∧ Below B w w') := by
  obtain ⟨W, hW, Hb, hs, Hx⟩ := cells_new w #[.int .i64 e.kind, .int .i64 e.tx, .int .i64 e.thread, .int .i64 e.obj, .int .i64 e.op, .int .i64 e.key, .int .i64 e.val, .int .i64 e.ret] 34
  have hl : i < recs.length := (List.getElem?_eq_some_iff.1 hi).1
  have H0 := h.keep Hb.out
  have hr := H0.row hi hm
  have c7 : W.cell? ⟨m.1, 7, none⟩ = some (.int .i64 r.phase) := (cell_of_row _ _ 7 _ _ _ hr).trans rfl
  have f7 : W.frozen? ⟨m.1, 7, none⟩ = false := frozen_of_row _ m.1 7 _ 91 hr
  obtain ⟨W1, hW1⟩ : ∃ W1, W.setCell ⟨m.1, 7, none⟩ (.int .i64 4) = W1 := ⟨_, rfl⟩
  have H1 : AutoAt B A os (recs.set i { r with phase := 4 }) busy taken M oa oc rv mb eb W1 := hW1 ▸ H0.setRec (o := 7) hi hm { r with phase := 4 } (.int .i64 4) rfl rfl rfl
  have hi1 : (recs.set i { r with phase := 4 })[i]? = some { r with phase := 4 } := by rw [List.getElem?_set_self hl]
  have hr1 := H1.row hi1 hm
  have c2 : W1.cell? ⟨m.1, 2, none⟩ = some (.int .i64 r.status) := (cell_of_row _ _ 2 _ _ _ hr1).trans rfl
  have f2 : W1.frozen? ⟨m.1, 2, none⟩ = false := frozen_of_row _ m.1 2 _ 91 hr1
  have ca1 : W1.cell? ⟨A, 1, none⟩ = some (.int .i64 (taken : Int)) := (cell_of_row _ _ 1 _ _ _ H1.auto).trans rfl
  obtain ⟨W2, hW2⟩ : ∃ W2, W1.setCell ⟨m.1, 2, none⟩ (.int .i64 2) = W2 := ⟨_, rfl⟩
  have H2 : AutoAt B A os (recs.set i { r with phase := 4, status := 2 }) busy taken M oa oc rv mb eb W2 := by
    have := H1.setRec (o := 2) hi1 hm { r with phase := 4, status := 2 } (.int .i64 2) rfl rfl rfl
    rw [List.set_set, hW2] at this
    exact this
  have hi2 : (recs.set i { r with phase := 4, status := 2 })[i]? = some { r with phase := 4, status := 2 } := by rw [List.getElem?_set_self hl]
  have hr2 := H2.row hi2 hm
  have c5 : W2.cell? ⟨m.1, 5, none⟩ = some (.int .i64 r.tri) := (cell_of_row _ _ 5 _ _ _ hr2).trans rfl
  have f5 : W2.frozen? ⟨m.1, 5, none⟩ = false := frozen_of_row _ m.1 5 _ 91 hr2
  obtain ⟨W3, hW3⟩ : ∃ W3, W2.setCell ⟨m.1, 5, none⟩ (.int .i64 (taken : Int)) = W3 := ⟨_, rfl⟩
  have H3 : Hid (AutoAt B A os (recs.set i { r with phase := 4, status := 2, tri := (taken : Int) }) busy taken M oa oc rv mb eb W3) := by
    have := H2.setRec (o := 5) hi2 hm { r with phase := 4, status := 2, tri := (taken : Int) } (.int .i64 (taken : Int)) rfl rfl rfl
    rw [List.set_set, hW3] at this
    exact this
  have hBm := (h.one i r m hi hm).1
  have HB : Hid (Below B w W3) := by
    show Below _ _ _
    rw [← hW3, ← hW2, ← hW1]
    exact (((Hb.out.mono h.base).setCell (p := ⟨m.1, 7, none⟩) hBm _).setCell (p := ⟨m.1, 2, none⟩) hBm _).setCell (p := ⟨m.1, 5, none⟩) hBm _
  clear h hi hm hr H0 H1 hi1 hr1 H2 hi2 hr2 hl hBm
  go_enter Tryd.func69, Tryd.ntmps69
  go_wp2_with fail
  go_ret
  exact ⟨rfl, H3.out, HB.out⟩
end Go.Proofs.YtfjjhjojcgacbaaDoor

/- called: by a contract. -/
namespace Go.Proofs.YtfjjhjojcgacbaaDoor
open Go.RowKit Go.Maps Go.WideMaps Go.WideElems Go.ChangeShapes Go.WideShapes
variable {T : TypeId} {er : Nat → Addr}

/-- Whether a call is one of an object that there is. -/
def calledOk (os : List (Int × Int)) (e : Ev) : Bool := !(e.kind == 2) || (decide (e.obj < os.length) && (ofZ e.op == (os.getD e.obj.toNat (0, 0)).1))

set_option maxHeartbeats 4000000 in
set_option maxRecDepth 100000 in
theorem called_any {B A : Nat} {os : List (Int × Int)} {recs : List Rec} {busy : List (Option Nat)} {taken : Nat} {M : List (Nat × Value)} {oa : Option Addr} {oc : Nat} {rv : Value} {mb eb : Nat} (w : World) (h : AutoAt B A os recs busy taken M oa oc rv mb eb w) (hG : Glob T er w) (e : Ev) (hv : e.kind = 2 → 0 ≤ e.obj) :
    Calls Tryd.prog 60 #[.pointer (some ⟨A, 0, none⟩), e.agg] w fun en w' => Told T (calledOk os e) en ∧ Hid (Below w.heap.size w w') := by
  obtain ⟨W, hW, Hb, hs, Hx⟩ := cells_new w #[.int .i64 e.kind, .int .i64 e.tx, .int .i64 e.thread, .int .i64 e.obj, .int .i64 e.op, .int .i64 e.key, .int .i64 e.val, .int .i64 e.ret] 34
  have HG := Lib.hid (hG.below' Hb.out)
  have HA := Lib.hid (h.keep Hb.out)
  have Ho := Lib.hid HA.out.obAt
  have HX : Hid (∀ V, Below W.heap.size W V → V.heap[w.heap.size]? = some (.cells #[.int .i64 e.kind, .int .i64 e.tx, .int .i64 e.thread, .int .i64 e.obj, .int .i64 e.op, .int .i64 e.key, .int .i64 e.val, .int .i64 e.ret] 34)) := fun V hV => keepB hV Hx.out
  obtain ⟨R, hR⟩ : ∃ R, calledOk os e = R := ⟨_, rfl⟩
  rw [hR]
  unfold calledOk at hR
  have HR := Lib.hid hR
  obtain ⟨n, hn⟩ : ∃ n, os.length = n := ⟨_, rfl⟩
  have HC0 : Hid (∀ V, Below W.heap.size W V → V.cell? ⟨A, 0, none⟩ = some (.slice oa n oc)) := fun V hV => by
    rw [← hn]
    exact (cell_of_row _ _ 0 _ _ _ (HA.out.keep hV).auto).trans rfl
  rw [hn] at HR Ho
  have g3 := HG.out.eObject
  have g4 := HG.out.eOp
  obtain ⟨x0, x1, x2, x3, x4, x5, x6, x7⟩ := row_eight Hx.out
  clear hR h hG Hx hs hn HG
  by_cases hk : e.kind = 2
  rotate_left
  · have hkb := beq_no hk
    have HF : Hid (R = true) := by show _ = _; rw [← HR.out, hkb]; rfl
    clear hk
    go_enter Tryd.func60, Tryd.ntmps60
    go_wp2_with fail
    go_ret
    exact ⟨by rw [HF.out]; rfl, Hb.out⟩
  have hkb := beq_yes hk
  have h0 := hv hk
  rw [hkb] at HR
  obtain ⟨q, hq⟩ : ∃ q : Nat, e.obj = q := ⟨e.obj.toNat, by omega⟩
  by_cases hlt : q < n
  rotate_left
  · have hge : n ≤ q := by omega
    have hgI : ((n : Nat) : Int) ≤ (q : Int) := by omega
    have hgd : decide ((n : Int) ≤ (q : Int)) = true := decide_eq_true hgI
    have HF : Hid (R = false) := by show _ = _; rw [← HR.out]; simp; intro h; omega
    have HS3 : Hid (∀ V, Below W.heap.size W V → V.cell? ⟨w.heap.size, 3, none⟩ = some (.int .i64 (q : Int)) ∧ V.cell? ⟨A, 0, none⟩ = some (.slice oa n oc)) := fun V hV => ⟨by rw [← hq]; exact (row_eight (HX.out V hV)).2.2.2.1, HC0.out V hV⟩
    clear hk h0 hq hlt hv
    go_enter Tryd.func60, Tryd.ntmps60
    go_wp2_with fail
    clear x0 x1 x2 x3 x4 x5 x6 x7
    go_region_held3 (fun w' => w'.cell? ⟨w.heap.size, 3, none⟩ = some (.int .i64 (q : Int)) ∧ w'.cell? ⟨A, 0, none⟩ = some (.slice oa n oc))
      (first | (with_reducible exact HS3.out _ (stepD (Below.refl _ _))))
      (fail)
    all_goals
      go_wp2_with fail
      go_ret
      exact ⟨by rw [HF.out]; exact ⟨_, rfl⟩, stepB Hb.out (stepD (Below.refl _ _))⟩
  obtain ⟨b1, o1, o, rfl, hx, hc⟩ := Ho.out q hlt
  have hge : ¬ n ≤ q := by omega
  have hgI : ¬ ((n : Nat) : Int) ≤ (q : Int) := by omega
  have hgd : decide ((n : Int) ≤ (q : Int)) = false := decide_eq_false hgI
  have HF : Hid (R = (ofZ e.op == o.1)) := by
    show _ = _
    rw [← HR.out]
    have e1 : os.getD e.obj.toNat (0, 0) = o := by rw [List.getD_eq_getElem?_getD, hq, Int.toNat_natCast, hx]; rfl
    rw [e1]
    simp
    intro _; omega
  have HC := Lib.hid hc
  have HOf := Lib.hid (fun V => of_any e.op V)
  have hltI : (q : Int) < (n : Int) := by omega
  have h0q : (0 : Int) ≤ (q : Int) := by omega
  have HS3 : Hid (∀ V, Below W.heap.size W V → V.cell? ⟨w.heap.size, 3, none⟩ = some (.int .i64 (q : Int)) ∧ V.cell? ⟨A, 0, none⟩ = some (.slice (some ⟨b1, o1, none⟩) n oc)) := fun V hV => ⟨by rw [← hq]; exact (row_eight (HX.out V hV)).2.2.2.1, HC0.out V hV⟩
  have HS5 : Hid (∀ V, Below W.heap.size W V → ((V.cell? ⟨w.heap.size, 3, none⟩ = some (.int .i64 (q : Int)) ∧ V.cell? ⟨w.heap.size, 4, none⟩ = some (.int .i64 e.op)) ∧ V.cell? ⟨A, 0, none⟩ = some (.slice (some ⟨b1, o1, none⟩) n oc)) ∧ V.cell? ⟨b1, o1 + q * 2, none⟩ = some (.int .i64 o.1)) := fun V hV => ⟨⟨⟨(HS3.out V hV).1, (row_eight (HX.out V hV)).2.2.2.2.1⟩, HC0.out V hV⟩, (HC.out V hV).1⟩
  clear hk h0 hq hx hc HR hv hlt
  generalize ofZ e.op = z at *
  by_cases hz : z = o.1
  · have hzb := beq_yes hz
    rw [hzb] at HF
    clear hz
    go_enter Tryd.func60, Tryd.ntmps60
    go_wp2_with fail
    clear x0 x1 x2 x3 x4 x5 x6 x7
    go_region_held3 (fun w' => w'.cell? ⟨w.heap.size, 3, none⟩ = some (.int .i64 (q : Int)) ∧ w'.cell? ⟨A, 0, none⟩ = some (.slice (some ⟨b1, o1, none⟩) n oc))
      (first | (with_reducible exact HS3.out _ (stepD (Below.refl _ _))))
      (fail)
    all_goals
      go_wp2_with fail
      go_region_held3 (fun w' => ((w'.cell? ⟨w.heap.size, 3, none⟩ = some (.int .i64 (q : Int)) ∧ w'.cell? ⟨w.heap.size, 4, none⟩ = some (.int .i64 e.op)) ∧ w'.cell? ⟨A, 0, none⟩ = some (.slice (some ⟨b1, o1, none⟩) n oc)) ∧ w'.cell? ⟨b1, o1 + q * 2, none⟩ = some (.int .i64 o.1))
        (first | (with_reducible exact HS5.out _ (stepD (stepD (Below.refl _ _)))))
        (first | (go_at_call 64; (with_reducible refine (HOf.out _).mono ?_); rintro e3 w3 ⟨rfl, rfl⟩))
      all_goals
        go_wp2_with fail
        go_ret
        exact ⟨by rw [HF.out]; rfl, stepB Hb.out (stepD (stepD (Below.refl _ _)))⟩
  · have hzb := beq_no hz
    rw [hzb] at HF
    clear hz
    go_enter Tryd.func60, Tryd.ntmps60
    go_wp2_with fail
    clear x0 x1 x2 x3 x4 x5 x6 x7
    go_region_held3 (fun w' => w'.cell? ⟨w.heap.size, 3, none⟩ = some (.int .i64 (q : Int)) ∧ w'.cell? ⟨A, 0, none⟩ = some (.slice (some ⟨b1, o1, none⟩) n oc))
      (first | (with_reducible exact HS3.out _ (stepD (Below.refl _ _))))
      (fail)
    all_goals
      go_wp2_with fail
      go_region_held3 (fun w' => ((w'.cell? ⟨w.heap.size, 3, none⟩ = some (.int .i64 (q : Int)) ∧ w'.cell? ⟨w.heap.size, 4, none⟩ = some (.int .i64 e.op)) ∧ w'.cell? ⟨A, 0, none⟩ = some (.slice (some ⟨b1, o1, none⟩) n oc)) ∧ w'.cell? ⟨b1, o1 + q * 2, none⟩ = some (.int .i64 o.1))
        (first | (with_reducible exact HS5.out _ (stepD (stepD (Below.refl _ _)))))
        (first | (go_at_call 64; (with_reducible refine (HOf.out _).mono ?_); rintro e3 w3 ⟨rfl, rfl⟩))
      all_goals
        go_wp2_with fail
        go_ret
        exact ⟨by rw [HF.out]; exact ⟨_, rfl⟩, stepB Hb.out (stepD (stepD (Below.refl _ _)))⟩
end Go.Proofs.YtfjjhjojcgacbaaDoor

/- begin: by contracts. -/
namespace Go.Proofs.YtfjjhjojcgacbaaDoor
open Go.RowKit Go.Maps Go.WideMaps Go.WideElems Go.ChangeShapes Go.WideShapes
variable {T : TypeId} {er : Nat → Addr}

theorem zero84 : ∀ w : World, (zeroValue 84).run Tryd.prog w = .ok (.pointer none) w := fun _ => by kernel_rfl

set_option maxHeartbeats 4000000 in
set_option maxRecDepth 100000 in
theorem begin_twice {B A : Nat} {os : List (Int × Int)} {recs : List Rec} {busy : List (Option Nat)} {taken : Nat} {M : List (Nat × Value)} {oa : Option Addr} {oc : Nat} {rv : Value} {mb eb : Nat} (w : World) (h : AutoAt B A os recs busy taken M oa oc rv mb eb w) (hG : Glob T er w) (e : Ev) {i : Nat} {m : Nat × Value} (hnd : (recs.map (·.id)).Nodup) (hi : (recs.map (·.id))[i]? = some e.tx) (hm : M[i]? = some m) :
    Calls Tryd.prog 65 #[.pointer (some ⟨A, 0, none⟩), e.agg] w fun en w' => Told T false en ∧ Hid (Below w.heap.size w w') := by
  obtain ⟨W, hW, Hb, hs, Hx⟩ := cells_new w #[.int .i64 e.kind, .int .i64 e.tx, .int .i64 e.thread, .int .i64 e.obj, .int .i64 e.op, .int .i64 e.key, .int .i64 e.val, .int .i64 e.ret] 34
  have HA := Lib.hid (h.keep Hb.out)
  have HX : Hid (∀ V, Below W.heap.size W V → V.heap[w.heap.size]? = some (.cells #[.int .i64 e.kind, .int .i64 e.tx, .int .i64 e.thread, .int .i64 e.obj, .int .i64 e.op, .int .i64 e.key, .int .i64 e.val, .int .i64 e.ret] 34)) := fun V hV => keepB hV Hx.out
  have hgW := hG.below' Hb.out
  have g9 := (hgW.below' (stepD (Below.refl _ W))).eTwice
  obtain ⟨es, hes⟩ : ∃ es, (ents (recs.map (·.id)) (M.map (·.1)) 0).toArray = es := ⟨_, rfl⟩
  have L : ∀ V : World, V.heap[mb]? = some (.map es M.length) → (Instr.lookup 83 (.map (some mb)) (.int .i64 e.tx) true).run Tryd.prog V = .ok (.tuple #[.pointer (some ⟨m.1, 0, none⟩), .bool true]) V := fun V hV => (map_look under83 e.tx (0 + i) _ hV (by rw [← hes]; exact find_at _ _ 0 0 i e.tx m.1 hnd hi (by rw [List.getElem?_map, hm]; rfl))).1
  have HS : Hid (∀ V, Below W.heap.size W V → (V.cell? ⟨w.heap.size, 1, none⟩ = some (.int .i64 e.tx) ∧ V.cell? ⟨A, 3, none⟩ = some (.map (some mb))) ∧ V.heap[mb]? = some (.map es M.length)) := fun V hV => ⟨⟨(row_eight (HX.out V hV)).2.1, (cell_of_row _ _ 3 _ _ _ (HA.out.keep hV).auto).trans rfl⟩, by rw [← hes]; exact (HA.out.keep hV).map⟩
  clear h hG hgW hes hnd hi hm Hx
  go_enter Tryd.func65, Tryd.ntmps65
  go_wp2_with fail
  go_region_held3 (fun w' => (w'.cell? ⟨w.heap.size, 1, none⟩ = some (.int .i64 e.tx) ∧ w'.cell? ⟨A, 3, none⟩ = some (.map (some mb))) ∧ w'.heap[mb]? = some (.map es M.length))
    (first | (with_reducible exact HS.out _ (stepD (Below.refl _ _))))
    (fail)
  all_goals
    go_wp2_with fail
    go_ret
    exact ⟨⟨_, rfl⟩, stepB Hb.out (stepD (Below.refl _ _))⟩
end Go.Proofs.YtfjjhjojcgacbaaDoor

/- An automaton that takes a begin. -/
namespace Go.Proofs.YtfjjhjojcgacbaaDoor
open Go.RowKit Go.Maps Go.WideMaps Go.WideElems Go.ChangeShapes Go.WideShapes
variable {T : TypeId} {er : Nat → Addr}

theorem row_carry {W U : World} {B e size n : Nat} {v : Value} {xs : List Value} (hr : W.ownsRow B e size v n xs) (hk : ∀ (k : Nat) (cs : Array Value), W.heap[k]? = some (.cells cs e) → U.heap[k]? = some (.cells cs e)) : U.ownsRow B e size v n xs := by
  refine ⟨hr.1, hr.2.imp id ?_⟩
  rintro ⟨g, cap, cur, rfl, hB, hg, r⟩
  exact ⟨g, cap, cur, rfl, hB, hk g cur hg, r⟩
theorem row_off_map {W : World} {B e size n k c : Nat} {v : Value} {es : Array MapEntry} {xs : List Value} (hr : W.ownsRow B e size v n xs) (hb : W.heap[k]? = some (.map es c)) : v.ownBlock ≠ some k := by
  rcases hr.2 with ⟨rfl, _⟩ | ⟨g, cap, cur, rfl, _, hg, _⟩
  · simp [Value.ownBlock]
  · intro e1
    have e2 : g = k := by simpa [Value.ownBlock] using e1
    subst e2
    rw [hb] at hg
    cases hg
theorem EffAt.carry {B eb : Nat} {V U : World} (h : EffAt B eb V) (hc : ∀ (k : Nat) (cs : Array Value) (t : TypeId), t ≠ 84 → t ≠ 88 → V.heap[k]? = some (.cells cs t) → U.heap[k]? = some (.cells cs t)) (hm : ∀ (es : Array MapEntry) (n : Nat), V.heap[eb]? = some (.map es n) → U.heap[eb]? = some (.map es n)) : EffAt B eb U := by
  obtain ⟨p2, q2, p3, q3, p4, q4, p5, q5, p6, q6, p7, q7, h0, ⟨⟨a2, b2⟩, c2, d2⟩, ⟨⟨a3, b3⟩, c3, d3⟩, ⟨⟨a4, b4⟩, c4, d4⟩, ⟨⟨a5, b5⟩, c5, d5⟩, ⟨⟨a6, b6⟩, c6, d6⟩, ⟨⟨a7, b7⟩, c7, d7⟩⟩ := h
  exact ⟨p2, q2, p3, q3, p4, q4, p5, q5, p6, q6, p7, q7, hm _ _ h0, ⟨⟨a2, hc _ _ _ (by decide) (by decide) b2⟩, c2, hc _ _ _ (by decide) (by decide) d2⟩, ⟨⟨a3, hc _ _ _ (by decide) (by decide) b3⟩, c3, hc _ _ _ (by decide) (by decide) d3⟩, ⟨⟨a4, hc _ _ _ (by decide) (by decide) b4⟩, c4, hc _ _ _ (by decide) (by decide) d4⟩, ⟨⟨a5, hc _ _ _ (by decide) (by decide) b5⟩, c5, hc _ _ _ (by decide) (by decide) d5⟩, ⟨⟨a6, hc _ _ _ (by decide) (by decide) b6⟩, c6, hc _ _ _ (by decide) (by decide) d6⟩, ⟨⟨a7, hc _ _ _ (by decide) (by decide) b7⟩, c7, hc _ _ _ (by decide) (by decide) d7⟩⟩
theorem bp_put (M : List (Nat × Value)) (busy : List (Option Nat)) (t j rb : Nat) (dv : Value) (ht : t < busy.length) (hv : ∀ j i, busy.getD j none = some i → i < M.length) : bp (M ++ [(rb, dv)]) (busy.set t (some M.length)) j = if t = j then some ⟨rb, 0, none⟩ else bp M busy j := by
  unfold bp
  by_cases e : t = j
  · subst e
    rw [if_pos rfl, List.getD_eq_getElem?_getD, List.getElem?_set_self ht]
    simp
  · rw [if_neg e, List.getD_eq_getElem?_getD, List.getElem?_set, if_neg e, ← List.getD_eq_getElem?_getD]
    cases hb : busy.getD j none with
    | none => rfl
    | some i =>
      show ((M ++ [(rb, dv)])[i]?.map _) = (M[i]?.map _)
      rw [List.getElem?_append_left (hv j i hb)]
theorem put_cells (M : List (Nat × Value)) (busy : List (Option Nat)) (ov : Value) (taken : Int) (rv dv : Value) (mb eb t rb : Nat) (ht8 : t < 8) (ht : t < busy.length) (hv : ∀ j i, busy.getD j none = some i → i < M.length) : (autoC ov taken rv mb (bp M busy 0) (bp M busy 1) (bp M busy 2) (bp M busy 3) (bp M busy 4) (bp M busy 5) (bp M busy 6) (bp M busy 7) eb).setIfInBounds (4 + t) (.pointer (some ⟨rb, 0, none⟩)) = autoC ov taken rv mb (bp (M ++ [(rb, dv)]) (busy.set t (some M.length)) 0) (bp (M ++ [(rb, dv)]) (busy.set t (some M.length)) 1) (bp (M ++ [(rb, dv)]) (busy.set t (some M.length)) 2) (bp (M ++ [(rb, dv)]) (busy.set t (some M.length)) 3) (bp (M ++ [(rb, dv)]) (busy.set t (some M.length)) 4) (bp (M ++ [(rb, dv)]) (busy.set t (some M.length)) 5) (bp (M ++ [(rb, dv)]) (busy.set t (some M.length)) 6) (bp (M ++ [(rb, dv)]) (busy.set t (some M.length)) 7) eb := by
  simp only [bp_put M busy t _ rb dv ht hv]
  rcases t with _ | _ | _ | _ | _ | _ | _ | _ | t
  iterate 8 rfl
  omega

/-- From the world that has the new record, by the growth of the order, to the end. -/
theorem AutoAt.begun {B A : Nat} {os : List (Int × Int)} {recs : List Rec} {busy : List (Option Nat)} {taken : Nat} {M : List (Nat × Value)} {oa : Option Addr} {oc : Nat} {rv : Value} {mb eb : Nat} {V : World} (h : AutoAt B A os recs busy taken M oa oc rv mb eb V) {U U5 : World} {rb t : Nat} {v' : Value} {r : Rec} (hg : V.grownBy U rv.ownBlock) (hown : U.ownsRow B 84 1 v' (M.length + 1) ((M.map fun m => .pointer (some ⟨m.1, 0, none⟩)) ++ [.pointer (some ⟨rb, 0, none⟩)]))
    (hrb : B ≤ rb) (hr : V.heap[rb]? = some (.cells (r.cells (.slice none 0 0)) 91)) (hds : r.ds = []) (hfresh : ∀ (i : Nat) (m : Nat × Value), M[i]? = some m → m.1 ≠ rb) (ht8 : t < 8) (ht : t < busy.length) (hv : ∀ j i, busy.getD j none = some i → i < M.length)
    (hU5 : (setObjW (U.setCell ⟨A, 2, none⟩ v').drew mb (.map ((ents (recs.map (·.id)) (M.map (·.1)) 0).toArray.push ⟨.int .i64 r.id, .pointer (some ⟨rb, 0, none⟩), M.length⟩) (M.length + 1))).drew.setCell ⟨A, 4 + t, none⟩ (.pointer (some ⟨rb, 0, none⟩)) = U5) :
    AutoAt B A os (recs ++ [r]) (busy.set t (some M.length)) taken (M ++ [(rb, .slice none 0 0)]) oa oc v' mb eb U5 := by
  have hA := keepG hg (row_off h.order h.auto (by decide)) h.auto
  have hmU := keepG hg (row_off_map h.order h.map) h.map
  have hA1 : (U.setCell ⟨A, 2, none⟩ v').heap[A]? = some (.cells (autoC (.slice oa os.length oc) taken v' mb (bp M busy 0) (bp M busy 1) (bp M busy 2) (bp M busy 3) (bp M busy 4) (bp M busy 5) (bp M busy 6) (bp M busy 7) eb) 88) := heap_setCell_same U A 2 _ 88 v' hA
  have hm1 : (U.setCell ⟨A, 2, none⟩ v').drew.heap[mb]? = _ := keepS (ne_kind hA hmU) hmU
  have hm3 := setObjW_same (.map ((ents (recs.map (·.id)) (M.map (·.1)) 0).toArray.push ⟨.int .i64 r.id, .pointer (some ⟨rb, 0, none⟩), M.length⟩) (M.length + 1)) hm1
  have hA3 : (setObjW (U.setCell ⟨A, 2, none⟩ v').drew mb (.map ((ents (recs.map (·.id)) (M.map (·.1)) 0).toArray.push ⟨.int .i64 r.id, .pointer (some ⟨rb, 0, none⟩), M.length⟩) (M.length + 1))).drew.heap[A]? = _ := (setObjW_other _ (ne_kind hA hmU).symm).trans hA1
  have CU : ∀ (k : Nat) (cs : Array Value) (t : TypeId), t ≠ 88 → U.heap[k]? = some (.cells cs t) → U5.heap[k]? = some (.cells cs t) := by
    intro k cs tt h1 hk
    rw [← hU5]
    refine keepS (ne_of_type hA hk (Ne.symm h1)) ?_
    exact (setObjW_other _ (ne_kind hk hmU).symm).trans (keepS (ne_of_type hA hk (Ne.symm h1)) hk)
  have CV : ∀ (k : Nat) (cs : Array Value) (t : TypeId), t ≠ 84 → t ≠ 88 → V.heap[k]? = some (.cells cs t) → U5.heap[k]? = some (.cells cs t) := fun k cs tt h1 h2 hk => CU k cs tt h2 (keepG hg (row_off h.order hk h1) hk)
  refine ⟨?_, h.low, row_carry h.objs (fun k cs => CV k cs _ (by decide) (by decide)), ?_, ?_, h.eff.carry CV ?_, by simp [h.len], ?_, ?_, h.two⟩
  · rw [← hU5]
    have := heap_setCell_same _ A (4 + t) _ 88 (.pointer (some ⟨rb, 0, none⟩)) hA3
    rw [put_cells M busy _ _ _ (.slice none 0 0) _ _ t rb ht8 ht hv] at this
    exact this
  · rw [List.length_append, List.map_append]
    exact row_carry hown (fun k cs => CU k cs _ (by decide))
  · rw [← hU5]
    refine keepS (ne_kind hA hmU) ?_
    rw [List.map_append, List.map_append, List.length_append]
    show _ = some (Obj.map (ents (recs.map (·.id) ++ [r.id]) (M.map (·.1) ++ [rb]) 0).toArray (M.length + 1))
    rw [ents_snoc _ _ _ _ _ (by simp [h.len]), show 0 + (recs.map (·.id)).length = M.length from by simp [h.len], ← List.push_toArray]
    exact hm3
  · intro es n he
    rw [← hU5]
    have heU := keepG hg (row_off_map h.order he) he
    refine keepS (ne_kind hA heU) ?_
    exact (setObjW_other _ h.two).trans (keepS (ne_kind hA heU) heU)
  · intro i r2 m2 hi hm
    by_cases hlt : i < M.length
    · rw [List.getElem?_append_left (by rw [h.len]; exact hlt)] at hi
      rw [List.getElem?_append_left hlt] at hm
      obtain ⟨g1, g2, g3⟩ := h.one i r2 m2 hi hm
      exact ⟨g1, CV _ _ _ (by decide) (by decide) g2, row_carry g3 (fun k cs => CV k cs _ (by decide) (by decide))⟩
    · rw [List.getElem?_append_right (by rw [h.len]; omega)] at hi
      rw [List.getElem?_append_right (by omega)] at hm
      have e0 : i - M.length = 0 := by
        have := (List.getElem?_eq_some_iff.1 hm).1
        simp at this
        omega
      rw [e0] at hm
      rw [h.len, e0] at hi
      simp at hi hm
      subst hi hm
      exact ⟨hrb, CV _ _ _ (by decide) (by decide) hr, by rw [hds]; exact World.ownsRow_nil _ _ _ _⟩
  · intro i j mi mj hij hi hj
    by_cases hli : i < M.length
    · rw [List.getElem?_append_left hli] at hi
      by_cases hlj : j < M.length
      · rw [List.getElem?_append_left hlj] at hj
        exact h.apart i j mi mj hij hi hj
      · rw [List.getElem?_append_right (by omega)] at hj
        have e0 : j - M.length = 0 := by
          have := (List.getElem?_eq_some_iff.1 hj).1
          simp at this
          omega
        rw [e0] at hj
        simp at hj
        subst hj
        exact ⟨hfresh i mi hi, fun g _ e => by simp [Value.ownBlock] at e⟩
    · rw [List.getElem?_append_right (by omega)] at hi
      have e0 : i - M.length = 0 := by
        have := (List.getElem?_eq_some_iff.1 hi).1
        simp at this
        omega
      rw [e0] at hi
      simp at hi
      subst hi
      by_cases hlj : j < M.length
      · rw [List.getElem?_append_left hlj] at hj
        exact ⟨(hfresh j mj hj).symm, fun g e => by simp [Value.ownBlock] at e⟩
      · have := (List.getElem?_eq_some_iff.1 hj).1
        simp at this
        omega
end Go.Proofs.YtfjjhjojcgacbaaDoor
