/- Put behind bytes that lie anywhere, by a contract. -/
import Derived.Test.YtciajjjigigidaaDoorWd
import Derived.LoopTactic
namespace Go.Proofs.YtciajjjigigidaaDoor
open Go.RowKit Go.Maps Go.WideMaps Go.WideElems Go.ChangeShapes Go.WideShapes

/-- What the loop over the bytes of a number has laid. -/
structure PutRelB (w0 : World) (l : List Nat) (U : Nat) (v : Value) (u : Nat) (wr : World) : Prop where
  lt : u < 18446744073709551616
  ex : ∃ pre, pre ++ vb u = l ++ vb U ∧ wr.ownsRow w0.heap.size 5 1 v pre.length (bc pre)
  below : Below w0.heap.size w0 wr

theorem PutRelB.len {w0 wr : World} {l : List Nat} {U u : Nat} {v : Value} (h : PutRelB w0 l U v u wr) (hU : U < 18446744073709551616) : ∃ pre, pre ++ vb u = l ++ vb U ∧ wr.ownsRow w0.heap.size 5 1 v pre.length (bc pre) ∧ pre.length ≤ l.length + 9 := by
  obtain ⟨pre, h1, h2⟩ := h.ex
  refine ⟨pre, h1, h2, ?_⟩
  have h3 := vb_len_10 U hU
  have h4 := congrArg List.length h1
  rw [List.length_append, List.length_append] at h4
  have := vb_len_pos u
  omega

theorem PutRelB.more {w0 wr w1 : World} {l : List Nat} {U u : Nat} {v v' : Value} {pre : List Nat} {o : Obj} (h : PutRelB w0 l U v u wr) (h1 : pre ++ vb u = l ++ vb U) (hu : ¬ u < 128) (hown : wr.ownsRow w0.heap.size 5 1 v pre.length (bc pre))
    (hown' : w1.ownsRow w0.heap.size 5 1 v' (pre.length + 1) (bc pre ++ [.int .u8 ((u : Int) % 128 + 128)])) (hg : (wr.alloc o).grownBy w1 v.ownBlock) : PutRelB w0 l U v' (u / 128) w1 := by
  refine ⟨by have := h.lt; omega, ⟨pre ++ [u % 128 + 128], ?_, ?_⟩, ?_⟩
  · rw [← h1, vb_big hu]; simp
  · simpa using hown'
  · exact (h.below.alloc (h.below.size) o).grown hg (by have := h.below.size; simp; omega) (fun k e => (hown.lt k e).1)

set_option maxRecDepth 100000 in
set_option maxHeartbeats 1000000 in
theorem put_on (a : Option Addr) (c : Nat) (l : List Nat) (n : Int) (h0 : -9223372036854775808 ≤ n) (h1 : n ≤ 9223372036854775807) (w : World) (hc : BAt w a l) (hl : l.length ≤ 1099511627776) :
    Calls Tryd.prog 32 #[.slice a l.length c, .int .i64 n] w fun e w' => ∃ v, e = .returned v ∧ Hid (w'.ownsRow w.heap.size 5 1 v (l ++ vb (foldN n)).length (bc (l ++ vb (foldN n))) ∧ Below w.heap.size w w') := by
  have hU := fold_lt n h0 h1
  have hsz := fun w => size_any n h0 h1 w
  have hf := fun w => folded_any n h0 h1 w
  have hl10 := vb_len_10 (foldN n) hU
  have hl1 := vb_len_pos (foldN n)
  obtain ⟨i0, hi, hz0, hz1, hz2⟩ := info_parts infoB
  generalize foldN n = U at *
  have Hsz := Lib.hid hsz
  have Hf := Lib.hid hf
  have HC := Lib.hid hc
  clear h0 h1 hsz hf hc
  generalize hS : (vb U).length = S at *
  have HS := Lib.hid hS
  clear hS
  go_enter Tryd.func32, Tryd.ntmps32
  go_wp2_with (first | (go_at_call 47; refine (Hsz.out _).mono ?_; rintro e w' ⟨rfl, rfl⟩) | (at_make; refine wpList_make_own _ rfl _ _ 31 rfl w.heap.size 5 i0 (.int .u8 0) 1 under31 hi hz0 hz1 .i64 .i64 _ (l.length + S) rfl (congrArg (Value.int .i64) (Int.natCast_add l.length S).symm) rfl (by rw [hz2]; omega) (by unfold maxLen; omega) (Nat.le_refl _) ?_; intro w0 hown0 hgrow0; have Hb0 := Lib.hid (show Below w.heap.size w w0 from (Below.refl _ _).grown hgrow0 (Nat.le_refl _) (fun k e => by cases e)); have Hown0 := Lib.hid hown0; clear hgrow0 hown0) | (at_builtin; refine wpList_append_bytes rfl _ _ rfl w.heap.size i0 hi hz0 hz1 hz2 _ [] rfl Hown0.out a c l rfl (HC.out.below' Hb0.out) (by simp; omega) Hb0.out.size ?_; intro v0 w1 hown1 hgrow1) | (go_at_call 48; refine (Hf.out _).mono ?_; rintro e w' ⟨rfl, rfl⟩))
  have hP : PutRelB w l U v0 U w1 := ⟨hU, ⟨l, rfl, by simpa using hown1⟩, Hb0.out.grown hgrow1 Hb0.out.size (fun j e => (Hown0.out.lt j e).1)⟩
  have HP := Lib.hid hP
  clear hP hown1 hgrow1 Hf Hsz
  go_loopw [5, 6] (fun v u wr => ∃ k : Nat, u = .int .u64 k ∧ Hid (PutRelB w l U v k wr)) (fun _ u _ => (intOf u).toNat)
  case atStart => exact ⟨U, rfl, HP.out⟩
  case round =>
    obtain ⟨k, rfl, HR⟩ := hrel
    clear HP
    obtain ⟨pre, hpre, hown, hlen⟩ := HR.out.len hU
    have hbs := HR.out.below.size
    by_cases hk : k < 128
    · have hkd : decide (128 ≤ (k : Int)) = false := by simp; omega
      have hbl := byte_last hk
      have Hpre := Lib.hid hpre
      clear hpre
      go_wp2_with (first | (at_builtin; refine wpList_append_own _ rfl _ _ 31 rfl w.heap.size 5 i0 (.int .u8 0) 1 1 under31 hi hz0 hz1 hz2 rfl (by decide) _ _ _ rfl (hown.alloc _) ⟨wr.heap.size, 0, none⟩ 1 1 [.int .u8 (k : Int)] rfl rfl (cell_one_new _ _ _) (by simp [Value.oneCell']) (by unfold maxLen; omega) (by omega) (by simp; omega) ?_; intro v' w1 hown' hgrow' _))
      have hfin : w1.ownsRow w.heap.size 5 1 v' (l ++ vb U).length (bc (l ++ vb U)) ∧ Below w.heap.size w w1 := by
        have e1 : l ++ vb U = pre ++ [k] := by rw [← Hpre.out, vb_small hk]
        refine ⟨?_, (HR.out.below.alloc HR.out.below.size _).grown hgrow' (by simp; omega) (fun j e => (hown.lt j e).1)⟩
        rw [e1]
        simpa using hown'
      have Hfin := Lib.hid hfin
      clear hfin hown hown' hgrow'
      go_wp2
      go_ret
      exact ⟨_, rfl, Hfin.out⟩
    · have hkd : decide (128 ≤ (k : Int)) = true := by simp; omega
      have hbm := byte_more k
      have Hpre := Lib.hid hpre
      clear hpre
      go_wp2_with (first | (at_builtin; refine wpList_append_own _ rfl _ _ 31 rfl w.heap.size 5 i0 (.int .u8 0) 1 1 under31 hi hz0 hz1 hz2 rfl (by decide) _ _ _ rfl (hown.alloc _) ⟨wr.heap.size, 0, none⟩ 1 1 [.int .u8 ((k : Int) % 128 + 128)] rfl rfl (cell_one_new _ _ _) (by simp [Value.oneCell']) (by unfold maxLen; omega) (by omega) (by simp; omega) ?_; intro v' w1 hown' hgrow' _))
      have HM := Lib.hid (HR.out.more Hpre.out hk hown hown' hgrow')
      clear hown hown' hgrow'
      go_wp2
      go_roundw
      case rel => exact ⟨k / 128, by simp, HM.out⟩
      case measure => simp [intOf]; omega
end Go.Proofs.YtciajjjigigidaaDoor
