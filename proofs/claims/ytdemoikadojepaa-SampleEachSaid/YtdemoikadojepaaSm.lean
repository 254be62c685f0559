/- Get of any name, by contracts. -/
import Derived.Test.YtdemoikadojepaaSl
namespace Go.Proofs.Ytdemoikadojepaa
open Go.RowKit Go.Maps Go.WideMaps Go.WideElems Go.ChangeShapes Go.WideShapes

theorem text_ext {a : ByteArray} {d : Array UInt8} {l : List UInt8} (hd : d.toList = l) (h : a.toList = l) : a = ⟨d⟩ := by
  rw [Go.ByteArray.toList_eq, ← hd] at h
  cases a
  congr 1
  exact Array.ext' h

set_option maxHeartbeats 1000000 in
theorem get_none (s : ByteArray) (h0 : s ≠ staleT) (h1 : s ≠ tornT) (h2 : s ≠ earlyT) (h3 : s ≠ plainT) (w : World) : Calls Try.prog 7 #[.string s] w (GetRes 0 0 [] [] false w) := by
  have k0 : (s == staleT) = false := Bool.eq_false_iff.2 fun e => h0 ((MapKept.bytes_beq _ _).1 e)
  have j0 : (s.toList == [115, 116, 97, 108, 101]) = false := Bool.eq_false_iff.2 fun e => h0 (text_ext (d := #[115, 116, 97, 108, 101]) rfl (eq_of_beq e))
  have k1 : (s == tornT) = false := Bool.eq_false_iff.2 fun e => h1 ((MapKept.bytes_beq _ _).1 e)
  have j1 : (s.toList == [116, 111, 114, 110]) = false := Bool.eq_false_iff.2 fun e => h1 (text_ext (d := #[116, 111, 114, 110]) rfl (eq_of_beq e))
  have k2 : (s == earlyT) = false := Bool.eq_false_iff.2 fun e => h2 ((MapKept.bytes_beq _ _).1 e)
  have j2 : (s.toList == [101, 97, 114, 108, 121]) = false := Bool.eq_false_iff.2 fun e => h2 (text_ext (d := #[101, 97, 114, 108, 121]) rfl (eq_of_beq e))
  have k3 : (s == plainT) = false := Bool.eq_false_iff.2 fun e => h3 ((MapKept.bytes_beq _ _).1 e)
  have j3 : (s.toList == [112, 108, 97, 105, 110]) = false := Bool.eq_false_iff.2 fun e => h3 (text_ext (d := #[112, 108, 97, 105, 110]) rfl (eq_of_beq e))
  have hnow : Instr.findNow .string (.string s) mes.toList 0 = some none := by simp only [mes, Instr.findNow, Instr.sameNow, k0, k1, k2, k3]
  obtain ⟨W1, hW1, Hb1, hs1, Hr1⟩ := cells_new w #[.slice none 0 0, .slice none 0 0] 26
  clear h0 h1 h2 h3 k0 k1 k2 k3 j0 j1 j2 j3
  go_enter Try.func7, Try.ntmps7
  go_wp2_with (first
    | (go_at_call 21; refine (makers_any W1).mono ?_; rintro e w2 ⟨b, rfl, h2⟩
       obtain ⟨c, hc⟩ := h2.out.2
       have L := lookup_no w2 b mes c s hc hnow
       have Hb2 : Hid (Below W1.heap.size W1 w2) := h2.out.1
       have HR := Lib.hid ((Hb2.out.block w.heap.size hs1.out).trans Hr1.out)
       obtain ⟨⟨r0, r1⟩, r2, r3⟩ := pair_facts HR.out (.slice none 0 0)
       clear h2 hc))
  have hb2 : Below w.heap.size w w2 := Hb1.out.trans (Hb2.out.mono Hb1.out.size)
  have Hend := Lib.hid (get_end (Nat.le_refl _) (Nat.lt_of_lt_of_le hs1.out Hb2.out.size) hb2 (hist_nil w2) (Below.refl _ _))
  refine bodyPost_ret (results_row_tmp rfl _ _ w.heap.size 26 #[.slice none 0 0, .slice none 0 0] (0, 0) _ rfl (set_pair HR.out) Try.underlying26 rfl (by kernel_rfl)) rfl ?_
  exact ⟨_, _, rfl, Hend.out⟩

set_option maxHeartbeats 1000000 in
theorem dget_none (s : ByteArray) (h0 : s ≠ staleT) (h1 : s ≠ tornT) (h2 : s ≠ earlyT) (h3 : s ≠ plainT) (w : World) : Calls Try.prog 8 #[.string s] w (GetRes 0 0 [] [] false w) := by
  have k0 : (s == staleT) = false := Bool.eq_false_iff.2 fun e => h0 ((MapKept.bytes_beq _ _).1 e)
  have j0 : (s.toList == [115, 116, 97, 108, 101]) = false := Bool.eq_false_iff.2 fun e => h0 (text_ext (d := #[115, 116, 97, 108, 101]) rfl (eq_of_beq e))
  have k1 : (s == tornT) = false := Bool.eq_false_iff.2 fun e => h1 ((MapKept.bytes_beq _ _).1 e)
  have j1 : (s.toList == [116, 111, 114, 110]) = false := Bool.eq_false_iff.2 fun e => h1 (text_ext (d := #[116, 111, 114, 110]) rfl (eq_of_beq e))
  have k2 : (s == earlyT) = false := Bool.eq_false_iff.2 fun e => h2 ((MapKept.bytes_beq _ _).1 e)
  have j2 : (s.toList == [101, 97, 114, 108, 121]) = false := Bool.eq_false_iff.2 fun e => h2 (text_ext (d := #[101, 97, 114, 108, 121]) rfl (eq_of_beq e))
  have k3 : (s == plainT) = false := Bool.eq_false_iff.2 fun e => h3 ((MapKept.bytes_beq _ _).1 e)
  have j3 : (s.toList == [112, 108, 97, 105, 110]) = false := Bool.eq_false_iff.2 fun e => h3 (text_ext (d := #[112, 108, 97, 105, 110]) rfl (eq_of_beq e))
  obtain ⟨W1, hW1, Hb1, hs1, Hr1⟩ := cells_new w #[.slice none 0 0, .slice none 0 0] 26
  clear h0 h1 h2 h3
  obtain ⟨⟨r0, r1⟩, r2, r3⟩ := pair_facts Hr1.out (.slice none 0 0)
  go_enter Try.func8, Try.ntmps8
  go_wp2
  have Hend := Lib.hid (get_end (Nat.le_refl _) hs1.out Hb1.out (hist_nil W1) (Below.refl _ _))
  refine bodyPost_ret (results_row_tmp rfl _ _ w.heap.size 26 #[.slice none 0 0, .slice none 0 0] (0, 0) _ rfl (set_pair Hr1.out) Try.underlying26 rfl (by kernel_rfl)) rfl ?_
  exact ⟨_, _, rfl, Hend.out⟩

theorem get_any {s : ByteArray} {no n : Nat} {O F : List Int} {b : Bool} (h : Named s no n O F b) (w : World) : Calls Try.prog 7 #[.string s] w (GetRes no n O F b w) := by
  cases h with
  | stale => exact get_stale w
  | torn => exact get_torn w
  | early => exact get_early w
  | plain => exact get_plain w
  | none _ h0 h1 h2 h3 => exact get_none s h0 h1 h2 h3 w
theorem dget_any {s : ByteArray} {no n : Nat} {O F : List Int} {b : Bool} (h : Named s no n O F b) (w : World) : Calls Try.prog 8 #[.string s] w (GetRes no n O F b w) := by
  cases h with
  | stale => exact dget_stale w
  | torn => exact dget_torn w
  | early => exact dget_early w
  | plain => exact dget_plain w
  | none _ h0 h1 h2 h3 => exact dget_none s h0 h1 h2 h3 w
theorem Named.small {s : ByteArray} {no n : Nat} {O F : List Int} {b : Bool} (h : Named s no n O F b) : no ≤ 4 ∧ n ≤ 25 := by
  cases h <;> decide
end Go.Proofs.Ytdemoikadojepaa
