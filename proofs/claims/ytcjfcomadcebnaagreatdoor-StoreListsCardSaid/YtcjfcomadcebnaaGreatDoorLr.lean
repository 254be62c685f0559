/- umpireref.Ints, by a contract. -/
import Derived.Test.YtcjfcomadcebnaaGreatDoorLq
import Derived.Shelf.Strconv.Itoa3
namespace Go.Proofs.YtcjfcomadcebnaaGreatDoor
open Go.RowKit Go.Maps Go.WideMaps Go.WideElems Go.ChangeShapes Go.WideShapes

theorem ints_take_succ (zs : List Int) (k : Nat) (h : k < zs.length) : (zs.take (k + 1)).map (Value.int .i64) = (zs.take k).map (Value.int .i64) ++ [.int .i64 (zs[k]?.getD 0)] := by
  rw [List.take_succ_eq_append_getElem h, List.map_append]
  simp [h]

set_option maxHeartbeats 1000000 in
set_option maxRecDepth 100000 in
theorem ints_any (a : Option Addr) (n c : Nat) (zs : List Int) (hn : zs.length = n) (hsm : n ≤ 1000000) (w : World) (h : IAt w a zs) :
    Calls Tryz.prog 21 #[.slice a n c] w fun e w' => ∃ v', e = .returned v' ∧ Hid (w'.ownsRow w.heap.size 3 1 v' n (zs.map (Value.int .i64)) ∧ Below w.heap.size w w') := by
  obtain ⟨i0, hi, hz0, hz1, hz2⟩ := info_parts (P := Tryz.prog) (e := 3) (z := .int .i64 0) (size := 1) (bytes := 8) (by kernel_rfl)
  have H := Lib.hid h
  have Hn := Lib.hid hn
  have Hsm : Hid (n ≤ 1000000) := hsm
  clear h hn
  go_enter Tryz.func21, Tryz.ntmps21
  go_wp2_with (at_make; refine wpList_make_own _ rfl _ _ 37 rfl w.heap.size 3 i0 (.int .i64 0) 1 Tryz.underlying37 hi hz0 hz1 _ _ _ n rfl rfl (by simp) (by rw [hz2]; omega) (by unfold maxLen; omega) (Nat.le_refl _) ?_)
  intro w1 hown1 hgrow1
  have Ho1 : Hid (Below w.heap.size w w1) := (Below.refl _ w).grown hgrow1 (Nat.le_refl _) (fun k hk => by cases hk)
  have Hown1 := Lib.hid hown1
  clear hown1 hgrow1
  go_wp2_with fail
  go_loopw [3, 4] (fun v i wr => ∃ k : Nat, k ≤ n ∧ i = .int .i64 k ∧ Hid (wr.ownsRow w.heap.size 3 1 v k ((zs.take k).map (Value.int .i64))) ∧ Hid (Below w.heap.size w wr)) (fun _ i _ => n - (intOf i).toNat)
  case atStart => exact ⟨0, Nat.zero_le _, rfl, Hown1.out, Ho1.out⟩
  case round =>
    obtain ⟨k, hk, rfl, Hown, Ho⟩ := hrel
    by_cases hlt2 : k < n
    · rcases H.out with e | ⟨b, off, rfl, hc⟩
      · exfalso; have h9 := Hn.out; rw [e] at h9; simp at h9; omega
      have hcx : wr.cell? ⟨b, off + k, none⟩ = some (.int .i64 (zs[k]?.getD 0)) := (Ho.out.cell (p := ⟨b, off + k, none⟩) (World.block_lt_of_cell? w _ (hc k (by rw [Hn.out]; exact hlt2)))).trans (hc k (by rw [Hn.out]; exact hlt2))
      have Hstep := Lib.hid (ints_take_succ zs k (by rw [Hn.out]; exact hlt2))
      have Hsz := Lib.hid Ho.out.size
      clear hc
      generalize zs[k]?.getD 0 = y at *
      go_wp2_with (at_builtin; refine wpList_append_own _ rfl _ _ 37 rfl w.heap.size 3 i0 (.int .i64 0) 1 8 Tryz.underlying37 hi hz0 hz1 hz2 rfl (by decide) _ _ _ rfl (Hown.out.alloc _) ⟨wr.heap.size, 0, none⟩ 1 1 [.int .i64 y] rfl rfl (cell_one_new _ _ _) (by intro u hu; simp at hu; subst hu; rfl) (by unfold maxLen; have := Hsm.out; omega) (by have := Hsm.out; omega) (by show _ ≤ _; simp; exact Nat.le_trans Hsz.out (Nat.le_succ _)) ?_)
      intro v' w4 hown4 hgrow4 _
      have Ho4 : Hid (Below w.heap.size w w4) := (Ho.out.alloc Hsz.out (.cells #[.int .i64 y] 3)).grown hgrow4 (by show _ ≤ _; simp; exact Nat.le_trans Hsz.out (Nat.le_succ _)) (fun k hk => (Hown.out.lt k hk).1)
      have Hown4 : Hid (w4.ownsRow w.heap.size 3 1 v' (k + 1) ((zs.take (k + 1)).map (Value.int .i64))) := by show World.ownsRow _ _ _ _ _ _ _; rw [Hstep.out, List.map_take]; exact hown4
      clear hown4 hgrow4 Hown Ho hcx Hstep Hsz
      go_wp2_with fail
      go_roundw
      case rel => exact ⟨k + 1, by omega, by go_num, Hown4.out, Ho4.out⟩
      case measure => simp [intOf]; omega
    · have hkn : k = n := by omega
      go_wp2_with fail
      go_ret
      refine ⟨_, rfl, ?_, Ho.out⟩
      have h9 := Hown.out
      rw [hkn, List.take_of_length_le (by rw [Hn.out]; exact Nat.le_refl _)] at h9
      exact h9
end Go.Proofs.YtcjfcomadcebnaaGreatDoor
