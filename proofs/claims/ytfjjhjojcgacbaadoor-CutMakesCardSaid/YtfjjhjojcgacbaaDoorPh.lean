/- The walk of the statement on what is made, whole. -/
import Derived.Test.YtfjjhjojcgacbaaDoorPc
namespace Go.Proofs.YtfjjhjojcgacbaaDoor
open Go.RowKit Go.Maps Go.WideMaps Go.WideElems Go.ChangeShapes Go.WideShapes
variable {T : TypeId} {er : Nat → Addr}

set_option maxHeartbeats 16000000 in
set_option maxRecDepth 100000 in
theorem makes_big1 {a0 b0 : Option Addr} {n c0 m d0 : Nat} {a1 b1 : Option Addr} {n1 c1 m1 d1 : Nat} {ta : Option Addr} {tn tc : Nat} (z x : Int) (w : World) (hG : Glob 126 er w) (h1 : smallB n m = false) : Calls Tryd.prog 3 #[hv a0 n c0 b0 m d0, hv a1 n1 c1 b1 m1 d1, .int .i64 z, .int .i64 x, .slice ta tn tc] w fun e w' => e = .returned (.bool true) ∧ Hid (Below w.heap.size w w') := by
  obtain ⟨W1, hW1, Hb1, hs1, Hx1⟩ := cells_new w #[.slice a0 n c0, .slice b0 m d0] 25
  obtain ⟨W2, hW2, Hb2, hs2, Hx2⟩ := cells_new W1 #[.slice a1 n1 c1, .slice b1 m1 d1] 25
  obtain ⟨W3, hW3, Hb3, hs3, Hx3⟩ := cells_new W2 #[.slice ta tn tc] 26
  have HB : Hid (Below w.heap.size w W3) := stepB (stepB Hb1.out Hb2.out) Hb3.out
  have HG := Lib.hid (hG.below' HB.out)
  have HH : Hid (W3.heap[w.heap.size]? = some (.cells #[.slice a0 n c0, .slice b0 m d0] 25)) := keepB Hb3.out (keepB Hb2.out Hx1.out)
  have HKb : Hid (W3.heap[W1.heap.size]? = some (.cells #[.slice a1 n1 c1, .slice b1 m1 d1] 25)) := keepB Hb3.out Hx2.out
  have HSb : Hid (W3.heap[W2.heap.size]? = some (.cells #[.slice ta tn tc] 26)) := Hx3.out
  have HS1 := Lib.hid (fun V => small_any a0 b0 n c0 m d0 V)
  have HS2 := Lib.hid (fun V => small_any a1 b1 n1 c1 m1 d1 V)
  rw [h1] at HS1
  clear h1
  clear hG Hb1 Hb2 Hb3 hs1 hs2 hs3 Hx1 Hx2 Hx3
  go_enter Tryd.func3, Tryd.ntmps3
  go_wp2_with (first
    | (go_at_call 8; (with_reducible refine (first_any W3 HG.out).mono ?_); rintro e w1 ⟨rfl, S1⟩
       obtain ⟨l1a, l1b⟩ := row_two (keepB S1.out HH.out))
    | (go_at_call 9; (with_reducible refine (HS1.out w1).mono ?_); rintro e w2 ⟨rfl, S2⟩))
  go_ret
  exact ⟨rfl, stepB HB.out (stepB S1.out S2.out)⟩

set_option maxHeartbeats 16000000 in
set_option maxRecDepth 100000 in
theorem makes_big2 {a0 b0 : Option Addr} {n c0 m d0 : Nat} {a1 b1 : Option Addr} {n1 c1 m1 d1 : Nat} {ta : Option Addr} {tn tc : Nat} (z x : Int) (w : World) (hG : Glob 126 er w) (h1 : smallB n m = true) (h2 : smallB n1 m1 = false) : Calls Tryd.prog 3 #[hv a0 n c0 b0 m d0, hv a1 n1 c1 b1 m1 d1, .int .i64 z, .int .i64 x, .slice ta tn tc] w fun e w' => e = .returned (.bool true) ∧ Hid (Below w.heap.size w w') := by
  obtain ⟨W1, hW1, Hb1, hs1, Hx1⟩ := cells_new w #[.slice a0 n c0, .slice b0 m d0] 25
  obtain ⟨W2, hW2, Hb2, hs2, Hx2⟩ := cells_new W1 #[.slice a1 n1 c1, .slice b1 m1 d1] 25
  obtain ⟨W3, hW3, Hb3, hs3, Hx3⟩ := cells_new W2 #[.slice ta tn tc] 26
  have HB : Hid (Below w.heap.size w W3) := stepB (stepB Hb1.out Hb2.out) Hb3.out
  have HG := Lib.hid (hG.below' HB.out)
  have HH : Hid (W3.heap[w.heap.size]? = some (.cells #[.slice a0 n c0, .slice b0 m d0] 25)) := keepB Hb3.out (keepB Hb2.out Hx1.out)
  have HKb : Hid (W3.heap[W1.heap.size]? = some (.cells #[.slice a1 n1 c1, .slice b1 m1 d1] 25)) := keepB Hb3.out Hx2.out
  have HSb : Hid (W3.heap[W2.heap.size]? = some (.cells #[.slice ta tn tc] 26)) := Hx3.out
  have HS1 := Lib.hid (fun V => small_any a0 b0 n c0 m d0 V)
  have HS2 := Lib.hid (fun V => small_any a1 b1 n1 c1 m1 d1 V)
  rw [h1] at HS1
  rw [h2] at HS2
  clear h1 h2
  clear hG Hb1 Hb2 Hb3 hs1 hs2 hs3 Hx1 Hx2 Hx3
  go_enter Tryd.func3, Tryd.ntmps3
  go_wp2_with (first
    | (go_at_call 8; (with_reducible refine (first_any W3 HG.out).mono ?_); rintro e w1 ⟨rfl, S1⟩
       obtain ⟨l1a, l1b⟩ := row_two (keepB S1.out HH.out))
    | (go_at_call 9; (with_reducible refine (HS1.out w1).mono ?_); rintro e w2 ⟨rfl, S2⟩
       obtain ⟨l2a, l2b⟩ := row_two (keepB (stepB S1.out S2.out) HKb.out))
    | (go_at_call 9; (with_reducible refine (HS2.out w2).mono ?_); rintro e w3 ⟨rfl, S3⟩))
  go_ret
  exact ⟨rfl, stepB HB.out (stepB (stepB S1.out S2.out) S3.out)⟩

set_option maxHeartbeats 16000000 in
set_option maxRecDepth 100000 in
theorem makes_big3 {a0 b0 : Option Addr} {n c0 m d0 : Nat} {a1 b1 : Option Addr} {n1 c1 m1 d1 : Nat} {ta : Option Addr} {tn tc : Nat} (z x : Int) (w : World) (hG : Glob 126 er w) (h1 : smallB n m = true) (h2 : smallB n1 m1 = true) (h3 : ¬ tn ≤ 50) : Calls Tryd.prog 3 #[hv a0 n c0 b0 m d0, hv a1 n1 c1 b1 m1 d1, .int .i64 z, .int .i64 x, .slice ta tn tc] w fun e w' => e = .returned (.bool true) ∧ Hid (Below w.heap.size w w') := by
  obtain ⟨W1, hW1, Hb1, hs1, Hx1⟩ := cells_new w #[.slice a0 n c0, .slice b0 m d0] 25
  obtain ⟨W2, hW2, Hb2, hs2, Hx2⟩ := cells_new W1 #[.slice a1 n1 c1, .slice b1 m1 d1] 25
  obtain ⟨W3, hW3, Hb3, hs3, Hx3⟩ := cells_new W2 #[.slice ta tn tc] 26
  have HB : Hid (Below w.heap.size w W3) := stepB (stepB Hb1.out Hb2.out) Hb3.out
  have HG := Lib.hid (hG.below' HB.out)
  have HH : Hid (W3.heap[w.heap.size]? = some (.cells #[.slice a0 n c0, .slice b0 m d0] 25)) := keepB Hb3.out (keepB Hb2.out Hx1.out)
  have HKb : Hid (W3.heap[W1.heap.size]? = some (.cells #[.slice a1 n1 c1, .slice b1 m1 d1] 25)) := keepB Hb3.out Hx2.out
  have HSb : Hid (W3.heap[W2.heap.size]? = some (.cells #[.slice ta tn tc] 26)) := Hx3.out
  have HS1 := Lib.hid (fun V => small_any a0 b0 n c0 m d0 V)
  have HS2 := Lib.hid (fun V => small_any a1 b1 n1 c1 m1 d1 V)
  rw [h1] at HS1
  rw [h2] at HS2
  have t5 : (50 : Int) < (tn : Int) := by omega
  clear h1 h2 h3
  clear hG Hb1 Hb2 Hb3 hs1 hs2 hs3 Hx1 Hx2 Hx3
  go_enter Tryd.func3, Tryd.ntmps3
  go_wp2_with (first
    | (go_at_call 8; (with_reducible refine (first_any W3 HG.out).mono ?_); rintro e w1 ⟨rfl, S1⟩
       obtain ⟨l1a, l1b⟩ := row_two (keepB S1.out HH.out))
    | (go_at_call 9; (with_reducible refine (HS1.out w1).mono ?_); rintro e w2 ⟨rfl, S2⟩
       obtain ⟨l2a, l2b⟩ := row_two (keepB (stepB S1.out S2.out) HKb.out))
    | (go_at_call 9; (with_reducible refine (HS2.out w2).mono ?_); rintro e w3 ⟨rfl, S3⟩
       have l3 := row_uno (keepB (stepB (stepB S1.out S2.out) S3.out) HSb.out)))
  go_ret
  exact ⟨rfl, stepB HB.out (stepB (stepB S1.out S2.out) S3.out)⟩

theorem smallB_few {n m : Nat} (h : smallB n m = true) : n ≤ 100000 ∧ m ≤ 100000 := by
  unfold smallB at h
  rw [Bool.and_eq_true, decide_eq_true_eq, decide_eq_true_eq] at h
  omega
theorem makes_all {a0 b0 : Option Addr} {n c0 m d0 : Nat} {os : List (Int × Int)} {es : List Ev} {a1 b1 : Option Addr} {n1 c1 m1 d1 : Nat} {os1 : List (Int × Int)} {es1 : List Ev} {ta : Option Addr} {tn tc : Nat} {some' : List Int} (z x : Int) (w : World)
    (h1 : os.length = n ∧ es.length = m) (h2 : n ≤ c0 ∧ m ≤ d0) (so : SlAt w a0 (obs os)) (se : SlAt w b0 (evs es)) (g1 : os1.length = n1 ∧ es1.length = m1) (g2 : n1 ≤ c1 ∧ m1 ≤ d1) (ho : SlAt w a1 (obs os1)) (he : SlAt w b1 (evs es1)) (hts : some'.length = tn) (hS : IsAt w ta some' tn) (hG : Glob 126 er w) : Calls Tryd.prog 3 #[hv a0 n c0 b0 m d0, hv a1 n1 c1 b1 m1 d1, .int .i64 z, .int .i64 x, .slice ta tn tc] w fun e w' => e = .returned (.bool true) ∧ Hid (Below w.heap.size w w') := by
  cases hsm : smallB n m with
  | false => exact makes_big1 z x w hG hsm
  | true =>
    cases hsm1 : smallB n1 m1 with
    | false => exact makes_big2 z x w hG hsm hsm1
    | true =>
      by_cases ht : tn ≤ 50
      · exact makes_main z x w ⟨h1.1, h1.2, h2.1, h2.2, so, se, smallB_few hsm⟩ ⟨g1.1, g1.2, g2.1, g2.2, ho, he, smallB_few hsm1⟩ hS hts hG hsm hsm1 ht
      · exact makes_big3 z x w hG hsm hsm1 ht
end Go.Proofs.YtfjjhjojcgacbaaDoor
