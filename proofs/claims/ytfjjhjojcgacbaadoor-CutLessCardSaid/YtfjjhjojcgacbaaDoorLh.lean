/- The walk of the statement on less. -/
import Derived.Test.YtfjjhjojcgacbaaDoorLa
import Derived.Test.YtfjjhjojcgacbaaDoorLb
import Derived.Test.YtfjjhjojcgacbaaDoorLc
import Derived.Test.YtfjjhjojcgacbaaDoorLg
import Derived.Test.YtfjjhjojcgacbaaDoorLe
import Derived.Test.YtfjjhjojcgacbaaDoorLf
namespace Go.Proofs.YtfjjhjojcgacbaaDoor
open Go.RowKit Go.Maps Go.WideMaps Go.WideElems Go.ChangeShapes Go.WideShapes
variable {T : TypeId} {er : Nat → Addr}

set_option maxHeartbeats 16000000 in
set_option maxRecDepth 100000 in
theorem less_big {a0 b0 : Option Addr} {n c0 m d0 : Nat} (z x y k : Int) (w : World) (hG : Glob 126 er w) (hsm : smallB n m = false) :
    Calls Tryd.prog 6 #[hv a0 n c0 b0 m d0, .int .i64 z, .int .i64 x, .int .i64 y, .int .i64 k] w fun e w' => e = .returned (.bool true) ∧ Hid (Below w.heap.size w w') := by
  obtain ⟨W1, hW1, Hb1, hs1, Hx1⟩ := cells_new w #[.slice a0 n c0, .slice b0 m d0] 25
  obtain ⟨W2, hW2, Hb2, hs2, Hx2⟩ := cells_new W1 #[.int .i64 x] 3
  obtain ⟨W3, hW3, Hb3, hs3, Hx3⟩ := cells_new W2 #[.int .i64 y] 3
  have HB : Hid (Below w.heap.size w W3) := stepB (stepB Hb1.out Hb2.out) Hb3.out
  have HG := Lib.hid (hG.below' HB.out)
  have HH : Hid (W3.heap[w.heap.size]? = some (.cells #[.slice a0 n c0, .slice b0 m d0] 25)) := keepB Hb3.out (keepB Hb2.out Hx1.out)
  have HS := Lib.hid (fun V => small_any a0 b0 n c0 m d0 V)
  rw [hsm] at HS
  clear hG Hb1 Hb2 Hb3 hs1 hs2 hs3 Hx1 Hx2 Hx3 hsm
  go_enter Tryd.func6, Tryd.ntmps6
  go_wp2_with (first
    | (go_at_call 8; (with_reducible refine (first_any W3 HG.out).mono ?_); rintro e w1 ⟨rfl, S1⟩
       obtain ⟨l1a, l1b⟩ := row_two (keepB S1.out HH.out))
    | (go_at_call 9; (with_reducible refine (HS.out w1).mono ?_); rintro e w2 ⟨rfl, S2⟩))
  go_ret
  exact ⟨rfl, stepB HB.out (stepB S1.out S2.out)⟩

theorem less_any {a0 b0 : Option Addr} {n c0 m d0 : Nat} {os : List (Int × Int)} {es : List Ev} (z x y k : Int) (w : World) (hI : InH w a0 n c0 b0 m d0 os es) (hG : Glob 126 er w) :
    Calls Tryd.prog 6 #[hv a0 n c0 b0 m d0, .int .i64 z, .int .i64 x, .int .i64 y, .int .i64 k] w fun e w' => e = .returned (.bool true) ∧ Hid (Below w.heap.size w w') := by
  cases hsm : smallB n m with
  | false => exact less_big z x y k w hG hsm
  | true =>
    cases h1 : decide (subN (es.filter fun e => !(e.tx == x)) (es.take (preN z m)) = (es.filter fun e => !(e.tx == x)).length) with
    | false =>
      cases hd : dropZ os es x k with
      | out l => exact less_ok0 z x y k w hI hG hsm hd h1
      | shape => exact less_err0 z x y k w hI hG hsm (fun l => by rw [hd]; simp) h1
      | tx => exact less_err0 z x y k w hI hG hsm (fun l => by rw [hd]; simp) h1
      | index => exact less_err0 z x y k w hI hG hsm (fun l => by rw [hd]; simp) h1
    | true =>
      cases h2 : decide (subN (es.take (preN z m)) (es.filter fun e => !(e.tx == x)) = (es.take (preN z m)).length) with
      | false =>
        cases hd : dropZ os es x k with
        | out l => exact less_ok1 z x y k w hI hG hsm hd h1 h2
        | shape => exact less_err1 z x y k w hI hG hsm (fun l => by rw [hd]; simp) h1 h2
        | tx => exact less_err1 z x y k w hI hG hsm (fun l => by rw [hd]; simp) h1 h2
        | index => exact less_err1 z x y k w hI hG hsm (fun l => by rw [hd]; simp) h1 h2
      | true =>
        cases hd : dropZ os es x k with
        | out l => exact less_ok2 z x y k w hI hG hsm hd h1 h2
        | shape => exact less_err2 z x y k w hI hG hsm (fun l => by rw [hd]; simp) h1 h2
        | tx => exact less_err2 z x y k w hI hG hsm (fun l => by rw [hd]; simp) h1 h2
        | index => exact less_err2 z x y k w hI hG hsm (fun l => by rw [hd]; simp) h1 h2
theorem less_all {a0 b0 : Option Addr} {n c0 m d0 : Nat} {os : List (Int × Int)} {es : List Ev} (z x y k : Int) (w : World) (h1 : os.length = n ∧ es.length = m) (h2 : n ≤ c0 ∧ m ≤ d0) (so : SlAt w a0 (obs os)) (se : SlAt w b0 (evs es)) (hG : Glob 126 er w) :
    Calls Tryd.prog 6 #[hv a0 n c0 b0 m d0, .int .i64 z, .int .i64 x, .int .i64 y, .int .i64 k] w fun e w' => e = .returned (.bool true) ∧ Hid (Below w.heap.size w w') := by
  by_cases h : n ≤ 100000 ∧ m ≤ 100000
  · exact less_any z x y k w ⟨h1.1, h1.2, h2.1, h2.2, so, se, h⟩ hG
  · refine less_big z x y k w hG ?_
    unfold smallB
    by_cases hn : n ≤ 100
    · rw [decide_eq_true hn, decide_eq_false (by omega)]; rfl
    · rw [decide_eq_false hn]; rfl
end Go.Proofs.YtfjjhjojcgacbaaDoor
