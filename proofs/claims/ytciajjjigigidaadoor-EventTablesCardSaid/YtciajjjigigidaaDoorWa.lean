/- The calls of package word on numbers: folded, unfolded, Size, by contracts. -/
import Derived.Test.YtciajjjigigidaaDoorShelf
import Derived.Test.YtciajjjigigidaaDoorVb
import Derived.WalkKit
import Derived.WalkSpells
import Derived.WalkLawsBesides
import Derived.OneCell
import Derived.Lib.Hide
import Derived.OwnWalk
namespace Go.Proofs.YtciajjjigigidaaDoor
open Go.RowKit Go.Maps Go.WideMaps Go.WideElems Go.ChangeShapes Go.WideShapes

theorem ret_int {k : IntKind} {a b : Int} (h : a = b) : Ending.returned (.int k a) = .returned (.int k b) := by rw [h]

theorem folded_any (n : Int) (h0 : -9223372036854775808 ≤ n) (h1 : n ≤ 9223372036854775807) (w : World) : Calls Tryd.prog 48 #[.int .i64 n] w fun e w' => e = .returned (.int .u64 (foldN n)) ∧ w = w' := by
  have hb := Lib.hid (fold_bits n h0 h1)
  clear h0 h1
  go_enter Tryd.func48, Tryd.ntmps48
  go_wp2
  go_ret
  exact ⟨ret_int hb.out, rfl⟩

theorem xor_i64_zero (a : Int) (h0 : -9223372036854775808 ≤ a) (h1 : a ≤ 9223372036854775807) : bits .xor .i64 a 0 = a := by
  have key : bits .xor .i64 a 0 = IntKind.i64.wrap (((BitVec.ofInt 64 a ^^^ BitVec.ofInt 64 0 : BitVec 64)).toNat : Int) := rfl
  rw [key, show BitVec.ofInt 64 0 = 0#64 by rfl, BitVec.xor_zero, BitVec.toNat_ofInt]
  simp only [IntKind.wrap_i64]
  omega
theorem xor_i64_ones (a : Int) (h0 : -9223372036854775808 ≤ a) (h1 : a ≤ 9223372036854775807) : bits .xor .i64 a (-1) = -a - 1 := by
  have key : bits .xor .i64 a (-1) = IntKind.i64.wrap (((BitVec.ofInt 64 a ^^^ BitVec.ofInt 64 (-1) : BitVec 64)).toNat : Int) := rfl
  rw [key, show BitVec.ofInt 64 (-1) = BitVec.allOnes 64 by decide, BitVec.xor_allOnes, BitVec.toNat_not, BitVec.toNat_ofInt]
  simp only [IntKind.wrap_i64]
  omega

theorem unfold_bits (u : Nat) (h : u < 18446744073709551616) : bits .xor .i64 (wrap64 ((u : Int) / 2)) (wrap64 (-wrap64 (bits .and .u64 (u : Int) 1))) = unfoldN u := by
  have e1 : bits .and .u64 (u : Int) 1 = ((u % 2 : Nat) : Int) := by
    have := u64_and_nat u 1 h (by decide)
    rw [nat_mask1] at this
    exact this
  rw [e1]
  have e2 : wrap64 ((u : Int) / 2) = ((u / 2 : Nat) : Int) := by unfold wrap64; omega
  rw [e2]
  by_cases hu : u % 2 = 0
  · rw [hu, show wrap64 (-wrap64 ((0 : Nat) : Int)) = 0 by unfold wrap64; omega, xor_i64_zero _ (by omega) (by omega)]
    unfold unfoldN; rw [if_pos hu]
  · have h1 : u % 2 = 1 := by omega
    rw [h1, show wrap64 (-wrap64 ((1 : Nat) : Int)) = -1 by unfold wrap64; omega, xor_i64_ones _ (by omega) (by omega)]
    unfold unfoldN; rw [if_neg hu]

theorem unfolded_any (u : Nat) (h : u < 18446744073709551616) (w : World) : Calls Tryd.prog 40 #[.int .u64 u] w fun e w' => e = .returned (.int .i64 (unfoldN u)) ∧ w = w' := by
  have hb := Lib.hid (unfold_bits u h)
  clear h
  go_enter Tryd.func40, Tryd.ntmps40
  go_wp2
  go_ret
  exact ⟨ret_int hb.out, rfl⟩

theorem len64_any (x : Int) (w : World) (h0 : 0 ≤ x) (h1 : x ≤ 18446744073709551615) :
    Calls Tryd.prog 58 #[.int .u64 x] w fun e w' => e = .returned (.int .i64 (Lib.bitLen x.toNat)) ∧ w = w' := (Tryd.bits_Len64 x w h0 h1).mono fun _ _ h => ⟨h.1, h.2.symm⟩

theorem size_any (n : Int) (h0 : -9223372036854775808 ≤ n) (h1 : n ≤ 9223372036854775807) (w : World) : Calls Tryd.prog 47 #[.int .i64 n] w fun e w' => e = .returned (.int .i64 ((vb (foldN n)).length : Int)) ∧ w = w' := by
  have hu := fold_lt n h0 h1
  have hs := Lib.hid (size_eq (foldN n) hu)
  have hf := Lib.hid (folded_any n h0 h1 w)
  generalize foldN n = u at *
  have ho : bits .or .u64 (u : Int) 1 = ((u ||| 1 : Nat) : Int) := u64_or_nat u 1 hu (by decide)
  have hol : u ||| 1 < 18446744073709551616 := by rw [or_one]; split <;> omega
  have hlen := len64_any ((u ||| 1 : Nat) : Int) w (by omega) (by omega)
  have hb := Lib.bitLen_le (u ||| 1) 64 (by decide) (by omega)
  rw [Int.toNat_natCast] at hlen
  clear h0 h1 hu hol
  generalize (u ||| 1) = z at *
  generalize Lib.bitLen z = B at *
  have Hl := Lib.hid hlen
  clear hlen
  go_enter Tryd.func47, Tryd.ntmps47
  go_wp2_with (first | (go_at_call 48; refine hf.out.mono ?_; rintro e w' ⟨rfl, rfl⟩) | (go_at_call 58; refine Hl.out.mono ?_; rintro e w' ⟨rfl, rfl⟩))
  go_ret
  refine ⟨ret_int ?_, rfl⟩
  rw [hs.out]
  omega
end Go.Proofs.YtciajjjigigidaaDoor
