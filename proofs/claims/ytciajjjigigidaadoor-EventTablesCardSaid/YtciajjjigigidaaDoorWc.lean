/- Put with nothing ahead, and the document's bytes of a number, by contracts. -/
import Derived.Test.YtciajjjigigidaaDoorWb
import Derived.Laws.AppendOwnNone
import Derived.Maps.AppendAt
import Derived.Below
namespace Go.Proofs.YtciajjjigigidaaDoor
open Go.RowKit Go.Maps Go.WideMaps Go.WideElems Go.ChangeShapes Go.WideShapes

theorem infoB : (Tryd.prog.info? 5).map (fun i => (i.zero, i.size, i.bytes)) = some (some (.int .u8 0), 1, 1) := by kernel_rfl
theorem under31 : Tryd.prog.underlying 31 = some (.slice 5) := by kernel_rfl

/-- Bytes as cells. -/
abbrev bc (l : List Nat) : List Value := l.map fun x : Nat => Value.int .u8 (x : Int)

theorem byte_more (u : Nat) : bits .or .u8 ((u : Int) % 256) 128 = (u : Int) % 128 + 128 := by
  have e1 : (u : Int) % 256 = ((u % 256 : Nat) : Int) := by omega
  rw [e1]
  have h := u8_or_nat (u % 256) 128 (by omega) (by decide)
  have e2 : u % 256 ||| 128 = u % 128 + 128 := by
    by_cases hh : u % 256 < 128
    · rw [Nat.or_comm, nat_join 7 128 (u % 256) (by decide) (by simpa using hh)]; omega
    · have e3 : u % 256 = 128 ||| (u % 128) := by
        rw [nat_join 7 128 (u % 128) (by decide) (by omega)]; omega
      rw [e3, Nat.or_comm, ← Nat.or_assoc, Nat.or_self, nat_join 7 128 (u % 128) (by decide) (by omega)]
      omega
  rw [e2] at h
  rw [show (u : Int) % 128 + 128 = ((u % 128 + 128 : Nat) : Int) by omega]
  exact h
theorem byte_last {u : Nat} (h : u < 128) : IntKind.u8.wrap (u : Int) = ((u : Nat) : Int) := by rw [IntKind.wrap_u8']; omega

/-- What the loop over the bytes of a number has laid. -/
structure PutRel (w0 : World) (U : Nat) (v : Value) (u : Nat) (wr : World) : Prop where
  lt : u < 18446744073709551616
  ex : ∃ pre, pre ++ vb u = vb U ∧ wr.ownsRow w0.heap.size 5 1 v pre.length (bc pre)
  below : Below w0.heap.size w0 wr

theorem PutRel.len {w0 wr : World} {U u : Nat} {v : Value} (h : PutRel w0 U v u wr) (hU : U < 18446744073709551616) : ∃ pre, pre ++ vb u = vb U ∧ wr.ownsRow w0.heap.size 5 1 v pre.length (bc pre) ∧ pre.length ≤ 9 := by
  obtain ⟨pre, h1, h2⟩ := h.ex
  refine ⟨pre, h1, h2, ?_⟩
  have h3 := vb_len_10 U hU
  rw [← h1, List.length_append] at h3
  have := vb_len_pos u
  omega

theorem PutRel.more {w0 wr w1 : World} {U u : Nat} {v v' : Value} {pre : List Nat} {o : Obj} (h : PutRel w0 U v u wr) (h1 : pre ++ vb u = vb U) (hu : ¬ u < 128) (hown : wr.ownsRow w0.heap.size 5 1 v pre.length (bc pre))
    (hown' : w1.ownsRow w0.heap.size 5 1 v' (pre.length + 1) (bc pre ++ [.int .u8 ((u : Int) % 128 + 128)])) (hg : (wr.alloc o).grownBy w1 v.ownBlock) : PutRel w0 U v' (u / 128) w1 := by
  refine ⟨by have := h.lt; omega, ⟨pre ++ [u % 128 + 128], ?_, ?_⟩, ?_⟩
  · rw [← h1, vb_big hu]; simp
  · simpa using hown'
  · exact (h.below.alloc (h.below.size) o).grown hg (by have := h.below.size; simp; omega) (fun k e => (hown.lt k e).1)

set_option maxRecDepth 100000 in
set_option maxHeartbeats 1000000 in
theorem put_any (n : Int) (h0 : -9223372036854775808 ≤ n) (h1 : n ≤ 9223372036854775807) (w : World) :
    Calls Tryd.prog 32 #[.slice none 0 0, .int .i64 n] w fun e w' => ∃ v, e = .returned v ∧ w'.ownsRow w.heap.size 5 1 v (vb (foldN n)).length (bc (vb (foldN n))) ∧ Below w.heap.size w w' := by
  have hU := fold_lt n h0 h1
  have hsz := size_any n h0 h1 w
  have hf := fun w => folded_any n h0 h1 w
  have hl10 := vb_len_10 (foldN n) hU
  have hl1 := vb_len_pos (foldN n)
  obtain ⟨i0, hi, hz0, hz1, hz2⟩ := info_parts infoB
  generalize foldN n = U at *
  have Hsz := Lib.hid hsz
  have Hf := Lib.hid hf
  clear h0 h1 hsz hf
  generalize hS : (vb U).length = S at *
  have HS := Lib.hid hS
  clear hS
  go_enter Tryd.func32, Tryd.ntmps32
  go_wp2_with (first | (go_at_call 47; refine Hsz.out.mono ?_; rintro e w' ⟨rfl, rfl⟩) | (at_make; refine wpList_make_own _ rfl _ _ 31 rfl w.heap.size 5 i0 (.int .u8 0) 1 under31 hi hz0 hz1 .i64 .i64 _ S rfl rfl rfl (by rw [hz2]; omega) (by unfold maxLen; omega) (Nat.le_refl _) ?_; intro w0 hown0 hgrow0))
  have hb0 : Below w.heap.size w w0 := (Below.refl _ _).grown hgrow0 (Nat.le_refl _) (fun k e => by cases e)
  have hP : PutRel w U (.slice (some ⟨w.heap.size, 0, none⟩) 0 S) U w0 := ⟨hU, ⟨[], rfl, hown0⟩, hb0⟩
  have HP := Lib.hid hP
  clear hP hb0 hgrow0
  go_wp2_with (first | (at_builtin; refine wpList_append_own_none rfl _ _ 31 rfl w.heap.size 5 i0 1 under31 hi _ _ _ rfl hown0 rfl ?_) | (go_at_call 48; refine (Hf.out _).mono ?_; rintro e w' ⟨rfl, rfl⟩))
  clear hown0 Hf Hsz
  go_loopw [5, 6] (fun v u wr => ∃ k : Nat, u = .int .u64 k ∧ Hid (PutRel w U v k wr)) (fun _ u _ => (intOf u).toNat)
  case atStart => exact ⟨U, rfl, HP.out⟩
  case round =>
    obtain ⟨k, rfl, HR⟩ := hrel
    clear HP
    obtain ⟨pre, hpre, hown, hlen⟩ := HR.out.len hU
    have hbs := HR.out.below.size
    by_cases hk : k < 128
    · have hkd : decide (128 ≤ (k : Int)) = false := by simp; omega
      have hbl := byte_last hk
      have Hpre := Lib.hid hpre
      clear hpre
      go_wp2_with (first | (at_builtin; refine wpList_append_own _ rfl _ _ 31 rfl w.heap.size 5 i0 (.int .u8 0) 1 1 under31 hi hz0 hz1 hz2 rfl (by decide) _ _ _ rfl (hown.alloc _) ⟨wr.heap.size, 0, none⟩ 1 1 [.int .u8 (k : Int)] rfl rfl (cell_one_new _ _ _) (by simp [Value.oneCell']) (by unfold maxLen; omega) (by omega) (by simp; omega) ?_; intro v' w1 hown' hgrow' _))
      have hfin : w1.ownsRow w.heap.size 5 1 v' S (bc (vb U)) ∧ Below w.heap.size w w1 := by
        have e1 : vb U = pre ++ [k] := by rw [← Hpre.out, vb_small hk]
        refine ⟨?_, (HR.out.below.alloc HR.out.below.size _).grown hgrow' (by simp; omega) (fun j e => (hown.lt j e).1)⟩
        rw [← HS.out, e1]
        simpa using hown'
      have Hfin := Lib.hid hfin
      clear hfin hown hown' hgrow'
      go_wp2
      go_ret
      exact ⟨_, rfl, Hfin.out⟩
    · have hkd : decide (128 ≤ (k : Int)) = true := by simp; omega
      have hbm := byte_more k
      have Hpre := Lib.hid hpre
      clear hpre
      go_wp2_with (first | (at_builtin; refine wpList_append_own _ rfl _ _ 31 rfl w.heap.size 5 i0 (.int .u8 0) 1 1 under31 hi hz0 hz1 hz2 rfl (by decide) _ _ _ rfl (hown.alloc _) ⟨wr.heap.size, 0, none⟩ 1 1 [.int .u8 ((k : Int) % 128 + 128)] rfl rfl (cell_one_new _ _ _) (by simp [Value.oneCell']) (by unfold maxLen; omega) (by omega) (by simp; omega) ?_; intro v' w1 hown' hgrow' _))
      have HM := Lib.hid (HR.out.more Hpre.out hk hown hown' hgrow')
      clear hown hown' hgrow'
      go_wp2
      go_roundw
      case rel => exact ⟨k / 128, by simp, HM.out⟩
      case measure => simp [intOf]; omega
end Go.Proofs.YtciajjjigigidaaDoor
