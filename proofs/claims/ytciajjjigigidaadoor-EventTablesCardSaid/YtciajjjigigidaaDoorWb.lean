/- Get by a contract. -/
import Derived.Test.YtciajjjigigidaaDoorWa
import Derived.LoopTactic
import Derived.BigQuiet
import Derived.Deep.QuietTactic
namespace Go.Proofs.YtciajjjigigidaaDoor
open Go.RowKit Go.Maps Go.WideMaps Go.WideElems Go.ChangeShapes Go.WideShapes

/-- The bytes l lie at a. -/
def BAt (w : World) (a : Option Addr) (l : List Nat) : Prop := l = [] ∨ ∃ b off, a = some ⟨b, off, none⟩ ∧ ∀ i, i < l.length → w.cell? ⟨b, off + i, none⟩ = some (.int .u8 ((l[i]?.getD 0 : Nat) : Int))

/-- What Get answers. -/
def gval (ev0 ev1 : Value) : GRes → Value
  | .long => .tuple #[.int .i64 0, .int .i64 0, ev0]
  | .endd => .tuple #[.int .i64 0, .int .i64 0, ev1]
  | .ok u k => .tuple #[.int .i64 (unfoldN u), .int .i64 (k : Int), .nilIface]

theorem getL_step_long {l : List Nat} {k acc : Nat} (h : k < l.length) (hc : (k = 9 ∧ 1 < l[k]?.getD 0) ∨ (0 < k ∧ l[k]?.getD 0 = 0)) : getL k acc (l.drop k) = .long := by
  rw [List.drop_eq_getElem_cons h]
  simp only [List.getElem?_eq_getElem h, Option.getD_some] at hc
  rw [getL, if_pos hc]
theorem getL_step_ok {l : List Nat} {k acc : Nat} (h : k < l.length) (hc : ¬ ((k = 9 ∧ 1 < l[k]?.getD 0) ∨ (0 < k ∧ l[k]?.getD 0 = 0))) (hs : l[k]?.getD 0 < 128) : getL k acc (l.drop k) = .ok (acc + l[k]?.getD 0 * 128 ^ k) (k + 1) := by
  rw [List.drop_eq_getElem_cons h]
  simp only [List.getElem?_eq_getElem h, Option.getD_some] at hc hs ⊢
  rw [getL, if_neg hc, if_pos hs]
theorem getL_step_more {l : List Nat} {k acc : Nat} (h : k < l.length) (hc : ¬ ((k = 9 ∧ 1 < l[k]?.getD 0) ∨ (0 < k ∧ l[k]?.getD 0 = 0))) (hs : ¬ l[k]?.getD 0 < 128) : getL k acc (l.drop k) = getL (k + 1) (acc + (l[k]?.getD 0 - 128) * 128 ^ k) (l.drop (k + 1)) := by
  rw [List.drop_eq_getElem_cons h]
  simp only [List.getElem?_eq_getElem h, Option.getD_some] at hc hs ⊢
  rw [getL, if_neg hc, if_neg hs]

/-- What the byte adds. -/
theorem get_or {k acc x : Nat} (hk : k ≤ 9) (hx : x < 256) (hacc : acc < 128 ^ k) (h9 : k = 9 → x ≤ 1) : bits .or .u64 (acc : Int) (IntKind.u64.wrap (IntKind.u64.wrap (bits .andNot .u8 (x : Int) 128) * 2 ^ (7 * k))) = ((acc + x % 128 * 128 ^ k : Nat) : Int) := by
  have e1 : bits .andNot .u8 (x : Int) 128 = ((x % 128 : Nat) : Int) := by
    have := u8_andNot_nat x 128 hx (by decide)
    rw [show (255 - 128 : Nat) = 127 by rfl, nat_mask7] at this
    exact this
  have e2 : (2 : Int) ^ (7 * k) = ((128 ^ k : Nat) : Int) := by
    rw [show (128 ^ k : Nat) = 2 ^ (7 * k) by rw [Nat.pow_mul]]
    simp
  have e0 : IntKind.u64.wrap ((x % 128 : Nat) : Int) = ((x % 128 : Nat) : Int) := by rw [IntKind.wrap_u64]; omega
  rw [e1, e0, e2, IntKind.wrap_u64]
  have hlt : x % 128 * 128 ^ k < 18446744073709551616 := by
    by_cases h : k = 9
    · have := h9 h; subst h; omega
    · have h8 : 128 ^ k ≤ 128 ^ 8 := Nat.pow_le_pow_right (by decide) (by omega)
      calc x % 128 * 128 ^ k ≤ 127 * 128 ^ 8 := Nat.mul_le_mul (by omega) h8
        _ < _ := by decide
  have e3 : (((x % 128 : Nat) : Int) * ((128 ^ k : Nat) : Int)) % 18446744073709551616 = ((x % 128 * 128 ^ k : Nat) : Int) := by
    rw [← Int.natCast_mul]; omega
  rw [e3]
  have h9' : 128 ^ k ≤ 128 ^ 9 := Nat.pow_le_pow_right (by decide) hk
  have ha : acc < 18446744073709551616 := by omega
  rw [u64_or_nat acc _ ha hlt]
  congr 1
  rw [Nat.or_comm, nat_join (7 * k) (x % 128 * 128 ^ k) acc ?_ ?_, Nat.add_comm]
  · rw [Nat.pow_mul]; exact Nat.mul_mod_left _ _
  · rw [Nat.pow_mul]; exact hacc

set_option maxRecDepth 100000 in
set_option maxHeartbeats 1000000 in
theorem get_any (a : Option Addr) (c : Nat) (l : List Nat) (w : World) (hl : l.length ≤ 9223372036854775807) (hb : ∀ x ∈ l, x < 256) (hc : BAt w a l) (T0 T1 : TypeId) (p0 p1 : Value) (h0 : w.cell? ⟨4, 0, none⟩ = some (.iface T0 p0)) (h1 : w.cell? ⟨5, 0, none⟩ = some (.iface T1 p1)) :
    Calls Tryd.prog 27 #[.slice a l.length c] w fun e w' => e = .returned (gval (.iface T0 p0) (.iface T1 p1) (getL 0 0 l)) ∧ ∃ q, w.drewN q = w' := by
  have Hb := Lib.hid hb
  have Hc := Lib.hid hc
  obtain ⟨R, hR⟩ : ∃ R, R = gval (.iface T0 p0) (.iface T1 p1) (getL 0 0 l) := ⟨_, rfl⟩
  rw [← hR]
  have HR := Lib.hid hR
  clear hb hc hR
  go_enter Tryd.func27, Tryd.ntmps27
  go_wp2
  obtain ⟨N, hN⟩ : ∃ N, N = min l.length 10 := ⟨_, rfl⟩
  rw [show min (l.length : Int) 10 = (N : Int) by omega]
  have HN := Lib.hid hN
  clear hN
  go_loop [5, 11] (fun u i => ∃ k acc : Nat, k ≤ N ∧ k ≤ 9 ∧ i = .int .i64 k ∧ u = .int .u64 acc ∧ acc < 128 ^ k ∧ Hid (getL 0 0 l = getL k acc (l.drop k))) (fun _ i => N - (intOf i).toNat)
  case atStart => exact ⟨0, 0, Nat.zero_le _, by decide, rfl, rfl, by simp, rfl⟩
  case round =>
    obtain ⟨k, acc, hk, hk9, rfl, rfl, hacc, HG⟩ := hrel
    by_cases hlt : k < N
    · have hkl : k < l.length := by have := HN.out; omega
      rcases Hc.out with e | ⟨b, off, rfl, hcell⟩
      · rw [e] at hkl; simp at hkl
      have c0 := hcell k hkl
      have hx : l[k]?.getD 0 < 256 := Hb.out _ (by rw [List.getElem?_eq_getElem hkl]; exact List.getElem_mem hkl)
      have hlong := getL_step_long (acc := acc) hkl
      have hok := getL_step_ok (acc := acc) hkl
      have hmore := getL_step_more (acc := acc) hkl
      generalize l[k]?.getD 0 = x at *
      have hor := get_or hk9 hx hacc
      have Hlong := Lib.hid hlong
      have Hok := Lib.hid hok
      have Hmore := Lib.hid hmore
      have Hacc := Lib.hid hacc
      clear hcell hlong hok hmore hacc
      by_cases hL : (k = 9 ∧ 1 < x) ∨ (0 < k ∧ x = 0)
      · have hres := HG.out.trans (Hlong.out hL)
        have HR' : Hid (R = .tuple #[.int .i64 0, .int .i64 0, .iface T0 p0]) := by show _ = _; rw [HR.out, hres]; rfl
        clear hres hor
        rcases hL with ⟨h9, h1x⟩ | ⟨h0k, h0x⟩
        · have t1 : ((k : Int) == 9) = true := by simp; omega
          have t2 : decide (1 < (x : Int)) = true := by simp; omega
          clear h9 h1x
          go_wp2
          go_quiet (fail)
          go_wp2
          go_ret3
          exact ⟨congrArg _ HR'.out.symm, _, rfl⟩
        · have t3 : decide (0 < k) = true := by simp; omega
          have t4 : ((x : Int) == 0) = true := by simp; omega
          by_cases h9 : k = 9
          · have t1 : ((k : Int) == 9) = true := by simp; omega
            have t2 : decide (1 < (x : Int)) = false := by simp; omega
            clear h9 h0k h0x
            go_wp2
            go_quiet (fail)
            go_wp2
            go_ret3
            exact ⟨congrArg _ HR'.out.symm, _, rfl⟩
          · have t1 : ((k : Int) == 9) = false := by simp; omega
            clear h9 h0k h0x
            go_wp2
            go_quiet (fail)
            go_wp2
            go_ret3
            exact ⟨congrArg _ HR'.out.symm, _, rfl⟩
      · have hor' := hor (fun h => by omega)
        have hlt' : acc + x % 128 * 128 ^ k < 128 ^ (k + 1) := by
          rw [Nat.pow_succ]
          have := Hacc.out
          have h1 : x % 128 ≤ 127 := by omega
          have h2 : x % 128 * 128 ^ k ≤ 127 * 128 ^ k := Nat.mul_le_mul_right _ h1
          omega
        have hor64 : acc + x % 128 * 128 ^ k < 18446744073709551616 := by
          by_cases h9 : k = 9
          · have := Hacc.out
            subst h9
            have : x % 128 ≤ 1 := by omega
            have h2 : x % 128 * 128 ^ 9 ≤ 1 * 128 ^ 9 := Nat.mul_le_mul_right _ this
            omega
          · have h8 : 128 ^ (k + 1) ≤ 128 ^ 9 := Nat.pow_le_pow_right (by decide) (by omega)
            omega
        clear hor
        by_cases hs : x < 128
        · have hres := HG.out.trans (Hok.out hL hs)
          rw [show x % 128 = x by omega] at hor' hor64
          generalize acc + x * 128 ^ k = A at *
          have HR' : Hid (R = .tuple #[.int .i64 (unfoldN A), .int .i64 ((k + 1 : Nat) : Int), .nilIface]) := by show _ = _; rw [HR.out, hres]; rfl
          have Hun := Lib.hid (unfolded_any A hor64 w)
          have t5 : decide ((x : Int) < 128) = true := by simp; omega
          clear hres hor64 hlt'
          have t1 : (((k : Int) == 9) = true ∧ decide (1 < (x : Int)) = false) ∨ ((k : Int) == 9) = false := by
            by_cases h9 : k = 9
            · left; simp; omega
            · right; simp; omega
          have t3 : (decide (0 < k) = true ∧ ((x : Int) == 0) = false) ∨ decide (0 < k) = false := by
            by_cases h9 : 0 < k
            · left; simp; omega
            · right; simp; omega
          clear hL hs
          rcases t1 with ⟨t1, t2⟩ | t1 <;> rcases t3 with ⟨t3, t4⟩ | t3
          all_goals
            go_wp2_with (first | (go_at_call 40; refine Hun.out.mono ?_; rintro e w' ⟨rfl, rfl⟩))
            go_ret3
            exact ⟨(congrArg Ending.returned HR'.out.symm), 0, rfl⟩
        · have hres := HG.out.trans (Hmore.out hL hs)
          rw [show x % 128 = x - 128 by omega] at hor' hlt'
          generalize acc + (x - 128) * 128 ^ k = A at *
          have Hres := Lib.hid hres
          have Hlt' := Lib.hid hlt'
          have t5 : decide ((x : Int) < 128) = false := by simp; omega
          have h9 : k ≠ 9 := by omega
          have t1 : ((k : Int) == 9) = false := by simp; omega
          have t3 : (decide (0 < k) = true ∧ ((x : Int) == 0) = false) ∨ decide (0 < k) = false := by
            by_cases h9 : 0 < k
            · left; simp; omega
            · right; simp; omega
          have h8 : k + 1 ≤ 9 := by omega
          clear hL hs hor64 hres hlt' h9
          rcases t3 with ⟨t3, t4⟩ | t3
          all_goals
            go_wp2
            go_round
            case rel => exact ⟨k + 1, A, by omega, h8, by go_num, rfl, Hlt'.out, Hres.out⟩
            case measure => simp [intOf]; omega
    · have hkN : k = N := by omega
      have hend : l.drop k = [] := by
        have := HN.out
        rw [List.drop_eq_nil_iff]
        omega
      have hres := HG.out
      rw [hend] at hres
      have HR' : Hid (R = .tuple #[.int .i64 0, .int .i64 0, .iface T1 p1]) := by show _ = _; rw [HR.out, hres]; rfl
      clear hres hend hkN
      go_wp2
      go_quiet (fail)
      go_wp2
      go_ret3
      exact ⟨congrArg _ HR'.out.symm, _, rfl⟩
end Go.Proofs.YtciajjjigigidaaDoor
