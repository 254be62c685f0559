/- The walk of the statement on new memory, whole. -/
import Derived.Test.YtfjjhjojcgacbaaDoorOb
import Derived.Test.YtfjjhjojcgacbaaDoorOc
namespace Go.Proofs.YtfjjhjojcgacbaaDoor
open Go.RowKit Go.Maps Go.WideMaps Go.WideElems Go.ChangeShapes Go.WideShapes
variable {T : TypeId} {er : Nat → Addr}

set_option maxHeartbeats 16000000 in
set_option maxRecDepth 100000 in
theorem own_big {a0 b0 : Option Addr} {n c0 m d0 : Nat} (z x : Int) (w : World) (hG : Glob 126 er w) (hsm : smallB n m = false) : Calls Tryd.prog 7 #[hv a0 n c0 b0 m d0, .int .i64 z, .int .i64 x] w fun e w' => e = .returned (.bool true) ∧ Hid (Below w.heap.size w w') := by
  obtain ⟨W1, hW1, Hb1, hs1, Hx1⟩ := cells_new w #[.slice a0 n c0, .slice b0 m d0] 25
  have HG := Lib.hid (hG.below' Hb1.out)
  have HS := Lib.hid (fun V => small_any a0 b0 n c0 m d0 V)
  rw [hsm] at HS
  clear hG hs1 hsm
  go_enter Tryd.func7, Tryd.ntmps7
  go_wp2_with (first
    | (go_at_call 8; (with_reducible refine (first_any W1 HG.out).mono ?_); rintro e w1 ⟨rfl, S1⟩
       obtain ⟨l1a, l1b⟩ := row_two (keepB S1.out Hx1.out))
    | (go_at_call 9; (with_reducible refine (HS.out w1).mono ?_); rintro e w2 ⟨rfl, S2⟩))
  go_ret
  exact ⟨rfl, stepB Hb1.out (stepB S1.out S2.out)⟩
theorem own_all {a0 b0 : Option Addr} {n c0 m d0 : Nat} {os : List (Int × Int)} {es : List Ev} (z x : Int) (w : World) (h1 : os.length = n ∧ es.length = m) (h2 : n ≤ c0 ∧ m ≤ d0) (so : SlAt w a0 (obs os)) (se : SlAt w b0 (evs es)) (hG : Glob 126 er w) : Calls Tryd.prog 7 #[hv a0 n c0 b0 m d0, .int .i64 z, .int .i64 x] w fun e w' => e = .returned (.bool true) ∧ Hid (Below w.heap.size w w') := by
  cases hsm : smallB n m with
  | false => exact own_big z x w hG hsm
  | true =>
    have hh : n ≤ 100000 ∧ m ≤ 100000 := by
      unfold smallB at hsm
      rw [Bool.and_eq_true, decide_eq_true_eq, decide_eq_true_eq] at hsm
      omega
    cases ht : tabZ os es with
    | none => exact own_err z x w ⟨h1.1, h1.2, h2.1, h2.2, so, se, hh⟩ hG hsm ht
    | some s => exact own_ok z x w ⟨h1.1, h1.2, h2.1, h2.2, so, se, hh⟩ hG hsm ht
end Go.Proofs.YtfjjhjojcgacbaaDoor
