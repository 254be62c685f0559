/- The document's bytes of a number, by a contract; a store into a row that the call owns. -/
import Derived.Test.YtaddpekjmboimaaDoorRw
namespace Go.Proofs.YtaddpekjmboimaaDoor
open Go.RowKit Go.Maps Go.WideMaps Go.WideElems Go.ChangeShapes Go.WideShapes

set_option maxRecDepth 100000 in
set_option maxHeartbeats 1000000 in
theorem refBytes_any (n : Int) (h0 : -9223372036854775808 ≤ n) (h1 : n ≤ 9223372036854775807) (w : World) :
    Calls Tryd.prog 27 #[.int .i64 n] w fun e w' => ∃ v, e = .returned v ∧ Hid (w'.ownsRow w.heap.size 5 1 v (vb (foldN n)).length (bc (vb (foldN n))) ∧ Below w.heap.size w w') := by
  have hU := fold_lt n h0 h1
  have hl10 := vb_len_10 (foldN n) hU
  obtain ⟨i0, hi, hz0, hz1, hz2⟩ := info_parts infoB
  have hP : PutRel w (foldN n) (.slice none 0 0) (foldN n) w := ⟨hU, ⟨[], rfl, World.ownsRow_nil _ _ _ _⟩, Below.refl _ _⟩
  have hneg : n < 0 → bits .xor .u64 IntKind.u64.max (IntKind.u64.wrap (IntKind.u64.wrap n * 2)) = (foldN n : Int) := fun hn => by
    rw [IntKind.wrap_u64, IntKind.wrap_u64, show IntKind.u64.max = (18446744073709551615 : Int) by decide, u64_xor _ _ (by omega) (by omega) (by omega) (by omega), Nat.xor_comm, show (18446744073709551615 : Int).toNat = 18446744073709551615 by rfl, xor_ones _ (by omega)]
    unfold foldN
    rw [if_neg (by omega)]; omega
  have hpos : ¬ n < 0 → IntKind.u64.wrap (IntKind.u64.wrap n * 2) = (foldN n : Int) := fun hn => by
    rw [IntKind.wrap_u64, IntKind.wrap_u64]
    unfold foldN
    rw [if_pos (by omega)]; omega
  generalize foldN n = U at *
  have HP := Lib.hid hP
  clear h0 h1 hP
  by_cases hn : n < 0
  all_goals
    first
    | (have hfb := hneg hn; have hd : decide (n < 0) = true := decide_eq_true hn)
    | (have hfb := hpos hn; have hd : decide (n < 0) = false := decide_eq_false hn)
    clear hn hneg hpos
    go_enter Tryd.func27, Tryd.ntmps27
    go_wp2
    go_loopw [3, 4] (fun u v wr => ∃ k : Nat, u = .int .u64 k ∧ Hid (PutRel w U v k wr)) (fun u _ _ => (intOf u).toNat)
    case atStart => exact ⟨U, rfl, HP.out⟩
    case round =>
      obtain ⟨k, rfl, HR⟩ := hrel
      clear HP hfb
      obtain ⟨pre, hpre, hown, hlen⟩ := HR.out.len hU
      have hbs := HR.out.below.size
      by_cases hk : k < 128
      · have hkd : decide (128 ≤ (k : Int)) = false := by simp; omega
        have hbl := byte_last hk
        have Hpre := Lib.hid hpre
        clear hpre
        go_wp2_with (first | (at_builtin; refine wpList_append_own _ rfl _ _ 31 rfl w.heap.size 5 i0 (.int .u8 0) 1 1 under31 hi hz0 hz1 hz2 rfl (by decide) _ _ _ rfl (hown.alloc _) ⟨wr.heap.size, 0, none⟩ 1 1 [.int .u8 (k : Int)] rfl rfl (cell_one_new _ _ _) (by simp [Value.oneCell']) (by unfold maxLen; omega) (by omega) (by simp; omega) ?_; intro v' w1 hown' hgrow' _))
        have hfin : w1.ownsRow w.heap.size 5 1 v' (vb U).length (bc (vb U)) ∧ Below w.heap.size w w1 := by
          have e1 : vb U = pre ++ [k] := by rw [← Hpre.out, vb_small hk]
          refine ⟨?_, (HR.out.below.alloc HR.out.below.size _).grown hgrow' (by simp; omega) (fun j e => (hown.lt j e).1)⟩
          rw [e1]
          simpa using hown'
        have Hfin := Lib.hid hfin
        clear hfin hown hown' hgrow'
        go_wp2
        go_ret
        exact ⟨_, rfl, Hfin⟩
      · have hkd : decide (128 ≤ (k : Int)) = true := by simp; omega
        have ha : bits .and .u64 (k : Int) 127 = (k : Int) % 128 := by
          have h1 := u64_and_nat k 127 HR.out.lt (by decide)
          rw [nat_mask7] at h1
          rw [show (k : Int) % 128 = ((k % 128 : Nat) : Int) by omega]
          exact h1
        have hw8 : IntKind.u8.wrap ((k : Int) % 128) = (k : Int) % 128 := by rw [IntKind.wrap_u8']; omega
        have hbm : bits .or .u8 ((k : Int) % 128) 128 = (k : Int) % 128 + 128 := by
          have h1 := u8_or_nat (k % 128) 128 (by omega) (by decide)
          rw [Nat.or_comm, nat_join 7 128 (k % 128) (by decide) (by omega)] at h1
          rw [show (k : Int) % 128 = ((k % 128 : Nat) : Int) by omega]
          rw [show ((k % 128 : Nat) : Int) + 128 = ((128 + k % 128 : Nat) : Int) by omega]
          exact h1
        have Hpre := Lib.hid hpre
        clear hpre
        go_wp2_with (first | (at_builtin; refine wpList_append_own _ rfl _ _ 31 rfl w.heap.size 5 i0 (.int .u8 0) 1 1 under31 hi hz0 hz1 hz2 rfl (by decide) _ _ _ rfl (hown.alloc _) ⟨wr.heap.size, 0, none⟩ 1 1 [.int .u8 ((k : Int) % 128 + 128)] rfl rfl (cell_one_new _ _ _) (by simp [Value.oneCell']) (by unfold maxLen; omega) (by omega) (by simp; omega) ?_; intro v' w1 hown' hgrow' _))
        have HM := Lib.hid (HR.out.more Hpre.out hk hown hown' hgrow')
        clear hown hown' hgrow' ha hw8 hbm
        go_wp2
        go_roundw
        case rel => exact ⟨k / 128, by simp, HM.out⟩
        case measure => simp [intOf]; omega
end Go.Proofs.YtaddpekjmboimaaDoor
