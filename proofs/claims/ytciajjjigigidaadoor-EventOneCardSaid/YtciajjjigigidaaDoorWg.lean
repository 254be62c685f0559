/- Print, Number, Words, Silent, Join, by contracts. -/
import Derived.Test.YtciajjjigigidaaDoorWf
import Derived.Shelf.GgClosure.Gives
namespace Go.Proofs.YtciajjjigigidaaDoor
open Go.RowKit Go.Maps Go.WideMaps Go.WideElems Go.ChangeShapes Go.WideShapes

variable {T : TypeId} {er : Nat → Addr}

theorem below_drewN {B : Nat} {a w : World} (h : Below B a w) (q : Nat) : Below B a (w.drewN q) := ⟨h.os, h.tape, h.output, h.size, h.block⟩

theorem print_any (n : Int) (h0 : -9223372036854775808 ≤ n) (h1 : n ≤ 9223372036854775807) (w : World) (hG : Glob T er w) :
    Calls Tryd.prog 39 #[.int .i64 n] w fun e w' => e = .returned (tv (Lib.itoa n)) ∧ Hid (Below w.heap.size w w') := by
  have hi : Calls Tryd.prog 53 #[.int .i64 n] w fun e w' => e = .returned (tv (Lib.itoa n)) ∧ Hid (Below w.heap.size w w') := (Tryd.strconv_Itoa n h0 h1 w hG.tab).mono fun e w' ⟨he, k, os, hw⟩ => ⟨he, by show Below _ _ _; rw [hw]; exact Lib.below_grow _ w (Nat.le_refl _) k os⟩
  have Hi := Lib.hid hi
  clear hi h0 h1 hG
  go_enter Tryd.func39, Tryd.ntmps39
  go_wp2_with (first | (go_at_call 53; refine Hi.out.mono ?_; rintro e w' ⟨rfl, hb⟩))
  go_ret
  exact ⟨rfl, hb⟩

/-- The number whose numeral a text is, within the bounds. -/
def numR (l : List UInt8) : Option Int := match Lib.atoiAll l with
  | .ok v => if Lib.itoa v = l ∧ -1000000000 ≤ v ∧ v ≤ 1000000000 then some v else none
  | _ => none
def numV (T : TypeId) (e2 : Addr) : Option Int → Value
  | some v => .tuple #[.int .i64 v, .nilIface]
  | none => .tuple #[.int .i64 0, .iface T (.pointer (some e2))]

theorem atoi_range {l : List UInt8} {v : Int} (h : Lib.atoiAll l = .ok v) : -9223372036854775808 ≤ v ∧ v ≤ 9223372036854775807 := by
  unfold Lib.atoiAll at h
  split at h
  · cases h
  · rename_i c r
    simp only at h
    split at h
    · cases h
    · cases h
    · rename_i u hu
      split at h
      · cases h
      · split at h
        · cases h
        · rename_i h1 h2
          injection h with h
          subst h
          split <;> rename_i h3
          · omega
          · omega

theorem atoi_ok {l : List UInt8} {v : Int} (hs : l.length ≤ 281474976710656) (ha : Lib.atoiAll l = .ok v) (w : World) : Calls Tryd.prog 66 #[tv l] w fun e w' => e = .returned (.tuple #[.int .i64 v, .nilIface]) ∧ Hid (Below w.heap.size w w') := by
  have hsz : (⟨l.toArray⟩ : ByteArray).size = l.length := by simp [ByteArray.size]
  have hdl : (⟨l.toArray⟩ : ByteArray).data.toList = l := by simp
  refine (Tryd.strconv_Atoi_ok ⟨l.toArray⟩ (by rw [hsz]; omega) v (by rw [hdl]; exact ha) w).mono ?_
  rintro e w' ⟨he, hw | ⟨t, hw⟩⟩
  · exact ⟨he, by rw [hw]; exact Below.refl _ _⟩
  · exact ⟨he, by rw [hw]; exact Lib.bytesWorld_below w 5 t⟩
theorem atoi_bad {l : List UInt8} (hs : l.length ≤ 281474976710656) (ha : ∀ v, Lib.atoiAll l ≠ .ok v) (w : World) (hG : Glob T er w) : Calls Tryd.prog 66 #[tv l] w fun e w' => ∃ (v : Int) (N : Nat), e = .returned (.tuple #[.int .i64 v, .iface 111 (.pointer (some ⟨N, 0, none⟩))]) ∧ Hid (Below w.heap.size w w') := by
  have hsz : (⟨l.toArray⟩ : ByteArray).size = l.length := by simp [ByteArray.size]
  have hdl : (⟨l.toArray⟩ : ByteArray).data.toList = l := by simp
  obtain ⟨t4, p4, h4⟩ := hG.eSyntax
  obtain ⟨t5, p5, h5⟩ := hG.eRange
  cases hc : Lib.atoiAll l with
  | ok v => exact absurd hc (ha v)
  | range =>
    refine (Tryd.strconv_Atoi_range ⟨l.toArray⟩ (by rw [hsz]; exact hs) (by rw [hdl]; exact hc) _ w h5 (.inr ⟨_, _, rfl⟩)).mono ?_
    rintro e w' ⟨N, he, _, _, hb⟩
    exact ⟨_, N, he, hb⟩
  | _ =>
    refine (Any.strconv_Atoi_syntax Tryd.laysC172 ⟨l.toArray⟩ (by rw [hsz]; exact hs) (by rw [hdl]; exact hc) _ w h4 (.inr ⟨_, _, rfl⟩)).mono ?_
    rintro e w' ⟨N, he, _, _, hb⟩
    exact ⟨_, N, he, hb⟩

set_option maxHeartbeats 1000000 in
theorem number_any (l : List UInt8) (hs : l.length ≤ 281474976710656) (w : World) (hG : Glob T er w) :
    Calls Tryd.prog 62 #[tv l] w fun e w' => e = .returned (numV T (er 2) (numR l)) ∧ Hid (Below w.heap.size w w') := by
  obtain ⟨R, hR⟩ : ∃ R, R = numV T (er 2) (numR l) := ⟨_, rfl⟩
  rw [← hR]
  have HR := Lib.hid hR
  have HG := Lib.hid hG
  have hbad : ∀ w1 : World, Below w.heap.size w w1 → w1.cell? ⟨9, 0, none⟩ = some (.iface T (.pointer (some (er 2)))) := fun w1 hb => (HG.out.below' hb).eNumber
  have Hbad := Lib.hid hbad
  by_cases hok : ∃ v, Lib.atoiAll l = .ok v
  · obtain ⟨v, ha⟩ := hok
    obtain ⟨hv0, hv1⟩ := atoi_range ha
    have hat := atoi_ok hs ha w
    have hpr : ∀ w1, Below w.heap.size w w1 → Calls Tryd.prog 39 #[.int .i64 v] w1 fun e w' => e = .returned (tv (Lib.itoa v)) ∧ Hid (Below w.heap.size w w') := fun w1 hb => (print_any v hv0 hv1 w1 (HG.out.below' hb)).mono fun e w' hh => ⟨hh.1, hb.trans (hh.2.out.mono hb.size)⟩
    have Hat := Lib.hid hat
    have Hpr := Lib.hid hpr
    by_cases hi : Lib.itoa v = l
    · have ht : (Lib.itoa v == l) = true := by simpa using hi
      by_cases hr : -1000000000 ≤ v ∧ v ≤ 1000000000
      · have HR' : Hid (R = .tuple #[.int .i64 v, .nilIface]) := by show _ = _; rw [HR.out]; unfold numR; rw [ha]; simp only; rw [if_pos ⟨hi, hr⟩]; rfl
        have t1 : decide (v < -1000000000) = false := by simp; omega
        have t2 : decide (1000000000 < v) = false := by simp; omega
        clear hat hpr hR hG hbad hi hr ha hs
        go_enter Tryd.func62, Tryd.ntmps62
        go_wp2_with (first | (go_at_call 66; refine Hat.out.mono ?_; rintro e w1 ⟨rfl, hb1⟩) | (go_at_call 39; refine (Hpr.out _ hb1.out).mono ?_; rintro e w2 ⟨rfl, hb2⟩))
        go_ret2
        exact ⟨congrArg _ HR'.out.symm, hb2⟩
      · have HR' : Hid (R = .tuple #[.int .i64 0, .iface T (.pointer (some (er 2)))]) := by show _ = _; rw [HR.out]; unfold numR; rw [ha]; simp only; rw [if_neg (fun h => hr h.2)]; rfl
        have t1 : (decide (v < -1000000000) = false ∧ decide (1000000000 < v) = true) ∨ decide (v < -1000000000) = true := by
          by_cases h : v < -1000000000
          · right; simpa using h
          · left; simp; omega
        clear hat hpr hR hG hbad hi hr ha hs
        rcases t1 with ⟨t1, t2⟩ | t1
        all_goals
          go_enter Tryd.func62, Tryd.ntmps62
          go_wp2_with (first | (go_at_call 66; refine Hat.out.mono ?_; rintro e w1 ⟨rfl, hb1⟩) | (go_at_call 39; refine (Hpr.out _ hb1.out).mono ?_; rintro e w2 ⟨rfl, hb2⟩; have c2 := Hbad.out _ hb2.out))
          go_quiet (fail)
          go_wp2
          go_ret2
          exact ⟨congrArg _ HR'.out.symm, below_drewN hb2.out _⟩
    · have ht : (Lib.itoa v == l) = false := by simpa using hi
      have HR' : Hid (R = .tuple #[.int .i64 0, .iface T (.pointer (some (er 2)))]) := by show _ = _; rw [HR.out]; unfold numR; rw [ha]; simp only; rw [if_neg (fun h => hi h.1)]; rfl
      clear hat hpr hR hG hbad hi ha hs
      go_enter Tryd.func62, Tryd.ntmps62
      go_wp2_with (first | (go_at_call 66; refine Hat.out.mono ?_; rintro e w1 ⟨rfl, hb1⟩) | (go_at_call 39; refine (Hpr.out _ hb1.out).mono ?_; rintro e w2 ⟨rfl, hb2⟩; have c2 := Hbad.out _ hb2.out))
      go_quiet (fail)
      go_wp2
      go_ret2
      exact ⟨congrArg _ HR'.out.symm, below_drewN hb2.out _⟩
  · have HR' : Hid (R = .tuple #[.int .i64 0, .iface T (.pointer (some (er 2)))]) := by
      show _ = _
      rw [HR.out]
      unfold numR
      cases hc : Lib.atoiAll l with
      | ok v => exact absurd ⟨v, hc⟩ hok
      | range => rfl
      | _ => rfl
    have Hat := Lib.hid (atoi_bad hs (fun v h => hok ⟨v, h⟩) w hG)
    clear hR hG hbad hs hok
    go_enter Tryd.func62, Tryd.ntmps62
    go_wp2_with (first | (go_at_call 66; refine Hat.out.mono ?_; rintro e w1 ⟨v, N, rfl, hb1⟩; have c2 := Hbad.out _ hb1.out))
    go_quiet (fail)
    go_wp2
    go_ret2
    exact ⟨congrArg _ HR'.out.symm, below_drewN hb1.out _⟩
end Go.Proofs.YtciajjjigigidaaDoor
