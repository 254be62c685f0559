/- Plain words on numbers for package word: the fold of signed numbers, their bytes, seven bits each, how these are read, decimal numerals there and back. No program is named. -/
import Derived.Lib.ItoaNum
import Derived.Lib.AtoiAll
import Derived.Lib.BitFns
import Derived.Laws.BitsAllLaws
namespace Go.Proofs.YtcjfcomadcebnaaGreatDoor
open Go

/-- The numbers below 0 between the others. -/
def foldN (n : Int) : Nat := if 0 ≤ n then (2 * n).toNat else (-2 * n - 1).toNat
def unfoldN (u : Nat) : Int := if u % 2 = 0 then (u / 2 : Nat) else -((u / 2 : Nat) : Int) - 1

theorem unfold_fold (n : Int) : unfoldN (foldN n) = n := by
  unfold unfoldN foldN
  split <;> split <;> omega
theorem fold_unfold (u : Nat) : foldN (unfoldN u) = u := by
  unfold unfoldN foldN
  split <;> split <;> omega
theorem fold_lt (n : Int) (h0 : -9223372036854775808 ≤ n) (h1 : n ≤ 9223372036854775807) : foldN n < 18446744073709551616 := by
  unfold foldN; split <;> omega
theorem unfold_range (u : Nat) (h : u < 18446744073709551616) : -9223372036854775808 ≤ unfoldN u ∧ unfoldN u ≤ 9223372036854775807 := by
  unfold unfoldN; split <;> omega
theorem fold_inj {n m : Int} (h : foldN n = foldN m) : n = m := by rw [← unfold_fold n, ← unfold_fold m, h]

theorem xor_ones (x : Nat) (h : x < 18446744073709551616) : x ^^^ 18446744073709551615 = 18446744073709551615 - x := by
  have h1 := BitVec.toNat_not (x := BitVec.ofNat 64 x)
  rw [BitVec.toNat_ofNat, Nat.mod_eq_of_lt h] at h1
  have h2 : ~~~(BitVec.ofNat 64 x) = BitVec.ofNat 64 x ^^^ BitVec.allOnes 64 := (BitVec.xor_allOnes).symm
  rw [h2, BitVec.toNat_xor, BitVec.toNat_allOnes, BitVec.toNat_ofNat, Nat.mod_eq_of_lt h] at h1
  exact h1

theorem fold_bits (n : Int) (h0 : -9223372036854775808 ≤ n) (h1 : n ≤ 9223372036854775807) :
    bits .xor .u64 (IntKind.u64.wrap (IntKind.u64.wrap n * 2)) (IntKind.u64.wrap (n / 9223372036854775808)) = (foldN n : Int) := by
  rw [IntKind.wrap_u64, IntKind.wrap_u64, IntKind.wrap_u64]
  rw [u64_xor _ _ (by omega) (by omega) (by omega) (by omega)]
  by_cases h : 0 ≤ n
  · have e1 : (n / 9223372036854775808 % 18446744073709551616).toNat = 0 := by omega
    rw [e1, Nat.xor_zero]
    unfold foldN
    rw [if_pos h]; omega
  · have e1 : (n / 9223372036854775808 % 18446744073709551616).toNat = 18446744073709551615 := by omega
    rw [e1, xor_ones _ (by omega)]
    unfold foldN
    rw [if_neg h]; omega

/-- The bytes of a number without sign. -/
def vb (u : Nat) : List Nat := if u < 128 then [u] else (u % 128 + 128) :: vb (u / 128)
termination_by u
decreasing_by omega

theorem vb_small {u : Nat} (h : u < 128) : vb u = [u] := by rw [vb, if_pos h]
theorem vb_big {u : Nat} (h : ¬ u < 128) : vb u = (u % 128 + 128) :: vb (u / 128) := by rw [vb, if_neg h]
theorem vb_ne (u : Nat) : vb u ≠ [] := by
  by_cases h : u < 128
  · rw [vb_small h]; simp
  · rw [vb_big h]; simp
theorem vb_byte (u : Nat) : ∀ b ∈ vb u, b < 256 := by
  induction u using Nat.strongRecOn with
  | _ u ih =>
    by_cases h : u < 128
    · rw [vb_small h]; simp; omega
    · rw [vb_big h]
      intro b hb
      rcases List.mem_cons.1 hb with rfl | hb
      · omega
      · exact ih _ (by omega) b hb
theorem vb_len_pos (u : Nat) : 1 ≤ (vb u).length := by
  have := vb_ne u
  cases h : vb u with
  | nil => exact absurd h this
  | cons a l => simp
theorem vb_len_le : ∀ (k u : Nat), u < 128 ^ k → 1 ≤ k → (vb u).length ≤ k
  | 0, _, _, h => by omega
  | 1, u, h, _ => by rw [vb_small (by simpa using h)]; simp
  | k + 2, u, h, _ => by
    by_cases hs : u < 128
    · rw [vb_small hs]; simp
    · rw [vb_big hs, List.length_cons]
      have := vb_len_le (k + 1) (u / 128) (by rw [Nat.pow_succ] at h; omega) (by omega)
      omega
theorem vb_len_10 (u : Nat) (h : u < 18446744073709551616) : (vb u).length ≤ 10 := vb_len_le 10 u (by omega) (by decide)

theorem or_one (u : Nat) : u ||| 1 = if u % 2 = 0 then u + 1 else u := by
  split
  · rename_i h
    rw [nat_join 1 u 1 (by simpa using h) (by decide)]
  · rename_i h
    have e : u = (u - 1) ||| 1 := by
      rw [nat_join 1 (u - 1) 1 (by omega) (by decide)]; omega
    calc u ||| 1 = ((u - 1) ||| 1) ||| 1 := by rw [← e]
      _ = (u - 1) ||| (1 ||| 1) := Nat.or_assoc _ _ _
      _ = u := by rw [Nat.or_self, ← e]

theorem bitLen_pos {x : Nat} (h : x ≠ 0) : 1 ≤ Lib.bitLen x := by
  unfold Lib.bitLen Lib.bitLenAux
  rw [if_neg h]; omega

theorem size_eq' : ∀ (k u : Nat), u < 128 ^ k → u < 18446744073709551616 → 1 ≤ k → (vb u).length = (Lib.bitLen (u ||| 1) + 6) / 7
  | 0, _, _, _, h => by omega
  | k + 1, u, h, hu, _ => by
    by_cases hs : u < 128
    · rw [vb_small hs]
      have h1 := bitLen_pos (x := u ||| 1) (by rw [or_one]; split <;> omega)
      have h2 := Lib.bitLen_le (u ||| 1) 7 (by decide) (by rw [or_one]; split <;> omega)
      simp only [List.length_cons, List.length_nil]
      omega
    · rw [vb_big hs, List.length_cons]
      have hk : 1 ≤ k := by
        rcases Nat.eq_zero_or_pos k with e | e
        · subst e; simp at h; omega
        · exact e
      rw [size_eq' k (u / 128) (by rw [Nat.pow_succ] at h; omega) (by omega) hk]
      have hb : 128 ≤ u ||| 1 := by rw [or_one]; split <;> omega
      have hl : u ||| 1 < 2 ^ 64 := by rw [or_one]; split <;> omega
      have e1 := Lib.bitLen_shift 7 (u ||| 1) hb hl
      rw [e1]
      -- below the bits that went, the same number of bits
      have hd : (u ||| 1) / 2 ^ 7 = u / 128 := by rw [or_one]; split <;> omega
      rw [hd]
      have h3 : Lib.bitLen (u / 128 ||| 1) = Lib.bitLen (u / 128) := by
        rw [or_one]
        split
        · rename_i he
          have hne : u / 128 ≠ 0 := by omega
          rw [Lib.bitLen_half (u / 128 + 1) (by omega) (by omega), Lib.bitLen_half (u / 128) hne (by omega), show (u / 128 + 1) / 2 = u / 128 / 2 by omega]
        · rfl
      rw [h3]
      omega
theorem size_eq (u : Nat) (h : u < 18446744073709551616) : (vb u).length = (Lib.bitLen (u ||| 1) + 6) / 7 := size_eq' 10 u (by omega) h (by decide)

/-- How reading ends. -/
inductive GRes where
  | long
  | endd
  | ok (u used : Nat)

/-- Reading from place i on, acc being what was read. -/
def getL : Nat → Nat → List Nat → GRes
  | _, _, [] => .endd
  | i, acc, c :: cs => if (i = 9 ∧ 1 < c) ∨ (0 < i ∧ c = 0) then .long else if c < 128 then .ok (acc + c * 128 ^ i) (i + 1) else getL (i + 1) (acc + (c - 128) * 128 ^ i) cs

theorem getL_vb : ∀ (k : Nat) (i acc u : Nat) (rest : List Nat), u < 128 ^ k → i + k ≤ 10 → (i + k = 10 → u < 128 ^ (k - 1) * 2) → (0 < i → 0 < u) → 1 ≤ k → getL i acc (vb u ++ rest) = .ok (acc + u * 128 ^ i) (i + (vb u).length)
  | 0, _, _, _, _, _, _, _, _, h => by omega
  | k + 1, i, acc, u, rest, hu, hi, hl, hp, _ => by
    by_cases hs : u < 128
    · rw [vb_small hs]
      simp only [List.cons_append, List.nil_append, getL, List.length_cons, List.length_nil]
      rw [if_neg ?_, if_pos hs]
      rintro (⟨h1, h2⟩ | ⟨h1, h2⟩)
      · have h3 := hl (by omega)
        have hk : k = 0 := by omega
        subst hk
        simp at h3; omega
      · have := hp h1; omega
    · rw [vb_big hs]
      have hk : 1 ≤ k := by
        rcases Nat.eq_zero_or_pos k with e | e
        · subst e; simp at hu; omega
        · exact e
      simp only [List.cons_append, getL, List.length_cons]
      rw [if_neg (by omega), if_neg (by omega)]
      rw [getL_vb k (i + 1) _ (u / 128) rest (by rw [Nat.pow_succ] at hu; omega) (by omega) (fun h => ?_) (fun _ => by omega) hk]
      · have e : acc + (u % 128 + 128 - 128) * 128 ^ i + u / 128 * 128 ^ (i + 1) = acc + u * 128 ^ i := by
          rw [Nat.add_sub_cancel, Nat.pow_succ]
          have h1 : u = u % 128 + 128 * (u / 128) := by omega
          have h2 : u / 128 * (128 ^ i * 128) = 128 * (u / 128) * 128 ^ i := by
            rw [Nat.mul_comm (128 ^ i) 128, ← Nat.mul_assoc, Nat.mul_comm (u / 128) 128]
          rw [h2, Nat.add_assoc, ← Nat.add_mul, ← h1]
        rw [e]
        congr 1; omega
      · have h3 := hl (by omega)
        have e : 128 ^ (k + 1 - 1) * 2 = 128 * (128 ^ (k - 1) * 2) := by
          have : k + 1 - 1 = (k - 1) + 1 := by omega
          rw [this, Nat.pow_succ, Nat.mul_comm (128 ^ (k - 1)) 128, Nat.mul_assoc]
        rw [e] at h3
        omega

theorem get_vb (u : Nat) (rest : List Nat) (h : u < 18446744073709551616) : getL 0 0 (vb u ++ rest) = .ok u (vb u).length := by
  have := getL_vb 10 0 0 u rest (by omega) (by decide) (fun _ => by omega) (fun h => by omega) (by decide)
  simpa using this

/-- What is read was written so. -/
theorem getL_ok : ∀ (l : List Nat) (i acc u k : Nat), i ≤ 9 → (∀ c ∈ l, c < 256) → getL i acc l = .ok u k → ∃ v, u = acc + v * 128 ^ i ∧ (0 < i → 0 < v) ∧ v < 2 * 128 ^ (9 - i) ∧ k = i + (vb v).length ∧ vb v <+: l
  | [], i, acc, u, k, _, _, h => by simp [getL] at h
  | c :: cs, i, acc, u, k, hi, hc, h => by
    simp only [getL] at h
    split at h
    · cases h
    · rename_i h1
      have hcb := hc c (List.mem_cons_self ..)
      split at h
      · rename_i h2
        cases h
        refine ⟨c, rfl, fun h => by omega, ?_, by rw [vb_small h2]; rfl, by rw [vb_small h2]; exact ⟨cs, rfl⟩⟩
        by_cases h9 : i = 9
        · subst h9; simp; omega
        · have : 128 ^ 1 ≤ 128 ^ (9 - i) := Nat.pow_le_pow_right (by decide) (by omega)
          omega
      · rename_i h2
        have h9 : i ≠ 9 := fun e => h1 (.inl ⟨e, by omega⟩)
        obtain ⟨v, hu, hp, hv, hk, hpre⟩ := getL_ok cs (i + 1) _ u k (by omega) (fun c hc' => hc c (List.mem_cons_of_mem _ hc')) h
        have hp' := hp (by omega)
        have hb : ¬ (c - 128 + 128 * v) < 128 := by omega
        refine ⟨c - 128 + 128 * v, ?_, fun _ => by omega, ?_, ?_, ?_⟩
        · rw [hu, Nat.pow_succ, Nat.add_mul]
          have : v * (128 ^ i * 128) = 128 * v * 128 ^ i := by
            rw [Nat.mul_comm (128 ^ i) 128, ← Nat.mul_assoc, Nat.mul_comm v 128]
          rw [this]; omega
        · have e : 9 - i = (9 - (i + 1)) + 1 := by omega
          rw [e, Nat.pow_succ]
          have h4 : v + 1 ≤ 2 * 128 ^ (9 - (i + 1)) := hv
          have h5 : c - 128 < 128 := by omega
          calc c - 128 + 128 * v < 128 + 128 * v := by omega
            _ = (v + 1) * 128 := by omega
            _ ≤ 2 * 128 ^ (9 - (i + 1)) * 128 := Nat.mul_le_mul_right _ h4
            _ = 2 * (128 ^ (9 - (i + 1)) * 128) := Nat.mul_assoc _ _ _
        · rw [vb_big hb, List.length_cons, hk, show (c - 128 + 128 * v) / 128 = v by omega]; omega
        · rw [vb_big hb, show (c - 128 + 128 * v) / 128 = v by omega, show (c - 128 + 128 * v) % 128 + 128 = c by omega]
          exact List.prefix_cons_inj c |>.2 hpre
theorem get_ok {l : List Nat} {u k : Nat} (hl : ∀ c ∈ l, c < 256) (h : getL 0 0 l = .ok u k) : u < 18446744073709551616 ∧ k = (vb u).length ∧ l.take k = vb u ∧ 1 ≤ k ∧ k ≤ l.length := by
  obtain ⟨v, hu, _, hv, hk, hp⟩ := getL_ok l 0 0 u k (by decide) hl h
  have e : u = v := by simpa using hu
  subst e
  have h1 := vb_len_pos u
  have h2 := hp.length_le
  refine ⟨by simpa using hv, by simpa using hk, ?_, by omega, by omega⟩
  obtain ⟨t, rfl⟩ := hp
  rw [hk]; simp

/-- No number's bytes begin another's. -/
theorem vb_apart {u v : Nat} (hu : u < 18446744073709551616) (hv : v < 18446744073709551616) (h : (vb u).take (min (vb u).length (vb v).length) = (vb v).take (min (vb u).length (vb v).length)) : u = v := by
  rcases Nat.le_total (vb u).length (vb v).length with hl | hl
  · rw [Nat.min_eq_left hl, List.take_length] at h
    have h1 := get_vb u ((vb v).drop (vb u).length) hu
    rw [(congrArg (· ++ (vb v).drop (vb u).length) h).trans (List.take_append_drop _ _)] at h1
    have h2 := get_vb v [] hv
    rw [List.append_nil] at h2
    rw [h2] at h1
    injection h1 with h1 _
    exact h1.symm
  · rw [Nat.min_eq_right hl, List.take_length] at h
    have h1 := get_vb v ((vb u).drop (vb v).length) hv
    rw [(congrArg (· ++ (vb u).drop (vb v).length) h.symm).trans (List.take_append_drop _ _)] at h1
    have h2 := get_vb u [] hu
    rw [List.append_nil] at h2
    rw [h2] at h1
    injection h1 with h1 _

/-- Numerals there and back. -/
theorem parse_append : ∀ (l : List UInt8) (a u : Nat) (r : List UInt8), Lib.parseUint10 a l = .ok u → Lib.parseUint10 a (l ++ r) = Lib.parseUint10 u r
  | [], a, u, r, h => by
    simp only [Lib.parseUint10] at h
    cases h; rfl
  | c :: l, a, u, r, h => by
    simp only [Lib.parseUint10, List.cons_append] at h ⊢
    split
    · rename_i hc
      rw [if_pos hc] at h
      split
      · rename_i h1; rw [if_pos h1] at h; cases h
      · rename_i h1
        rw [if_neg h1] at h
        split
        · rename_i h2; rw [if_pos h2] at h; cases h
        · rename_i h2
          rw [if_neg h2] at h
          exact parse_append l _ u r h
    · rename_i hc; rw [if_neg hc] at h; cases h
theorem digit_nat (d : Nat) (h : d < 10) : (UInt8.ofNat (48 + d)).toNat = 48 + d := by
  rw [UInt8.toNat_ofNat']; omega
theorem parse_dec (u : Nat) (h : u < 18446744073709551616) : Lib.parseUint10 0 (Lib.decDigits u) = .ok u := by
  induction u using Nat.strongRecOn with
  | _ u ih =>
    by_cases hs : u < 10
    · rw [Lib.decDigits, dif_pos hs]
      simp only [Lib.parseUint10, digit_nat u hs]
      rw [if_pos (by omega), if_neg (by omega), if_neg (by omega)]
      simp
    · rw [Lib.decDigits, dif_neg hs, parse_append _ 0 (u / 10) _ (ih _ (by omega) (by omega))]
      simp only [Lib.parseUint10, digit_nat (u % 10) (by omega)]
      rw [if_pos (by omega), if_neg (by omega), if_neg (by omega)]
      congr 1; omega
theorem dec_head (u : Nat) : ∃ d r, Lib.decDigits u = d :: r ∧ 48 ≤ d.toNat ∧ d.toNat ≤ 57 := by
  induction u using Nat.strongRecOn with
  | _ u ih =>
    by_cases hs : u < 10
    · rw [Lib.decDigits, dif_pos hs]
      exact ⟨_, _, rfl, by rw [digit_nat u hs]; omega, by rw [digit_nat u hs]; omega⟩
    · rw [Lib.decDigits, dif_neg hs]
      obtain ⟨d, r, e, h1, h2⟩ := ih (u / 10) (by omega)
      rw [e]
      exact ⟨d, _, rfl, h1, h2⟩
theorem atoi_itoa (n : Int) (h0 : -9223372036854775808 ≤ n) (h1 : n ≤ 9223372036854775807) : Lib.atoiAll (Lib.itoa n) = .ok n := by
  unfold Lib.itoa
  split
  · rename_i hn
    obtain ⟨d, r, e, hd1, hd2⟩ := dec_head n.natAbs
    have hp := parse_dec n.natAbs (by omega)
    have hm : Lib.parseMag (Lib.decDigits n.natAbs) = .ok n.natAbs := by
      unfold Lib.parseMag; rw [if_neg (by rw [e]; simp), hp]
    simp only [Lib.atoiAll]
    rw [show (45 : UInt8).toNat = 45 by rfl]
    simp only [or_true, if_true, hm, not_true_eq_false, false_and, if_false, true_and]
    rw [if_neg (by omega)]
    congr 1; omega
  · rename_i hn
    obtain ⟨d, r, e, hd1, hd2⟩ := dec_head n.toNat
    have hp := parse_dec n.toNat (by omega)
    have hm : Lib.parseMag (Lib.decDigits n.toNat) = .ok n.toNat := by
      unfold Lib.parseMag; rw [if_neg (by rw [e]; simp), hp]
    rw [e] at hm ⊢
    simp only [Lib.atoiAll]
    rw [if_neg (show ¬ (d.toNat = 43 ∨ d.toNat = 45) by omega), hm]
    have h45 : ¬ d.toNat = 45 := by omega
    simp only [h45, not_false_eq_true, true_and, false_and, if_false]
    rw [if_neg (by omega)]
    congr 1; omega
theorem itoa_inj {n m : Int} (hn : -9223372036854775808 ≤ n ∧ n ≤ 9223372036854775807) (hm : -9223372036854775808 ≤ m ∧ m ≤ 9223372036854775807) (h : Lib.itoa n = Lib.itoa m) : n = m := by
  have h1 := atoi_itoa n hn.1 hn.2
  have h2 := atoi_itoa m hm.1 hm.2
  rw [h, h2] at h1
  cases h1; rfl
end Go.Proofs.YtcjfcomadcebnaaGreatDoor
