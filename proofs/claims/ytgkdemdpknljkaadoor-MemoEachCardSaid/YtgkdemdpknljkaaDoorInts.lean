/- A copy of a list of numbers, by a contract. -/
import Derived.Test.YtgkdemdpknljkaaDoorQut
namespace Go.Proofs.YtgkdemdpknljkaaDoor
open Go.RowKit Go.Maps Go.WideMaps Go.WideElems Go.ChangeShapes Go.WideShapes

theorem I_take_succ (zs : List Int) (k : Nat) (h : k < zs.length) : I (zs.take (k + 1)) = I (zs.take k) ++ [.int .i64 (zs.getD k 0)] := by
  unfold I
  rw [List.take_succ_eq_append_getElem h, List.map_append]
  congr 1
  simp [h]

theorem addr0 (g j : Nat) : (⟨g, 0, none⟩ : Addr).add j = ⟨g, j, none⟩ := by simp [Addr.add]; omega

theorem ownsRow_cell {w : World} {B : Nat} {g cap n : Nat} {zs : List Int} (h : w.ownsRow B 3 1 (.slice (some ⟨g, 0, none⟩) n cap) n (I zs)) : ∀ j, j < n → w.cell? ⟨g, j, none⟩ = some (.int .i64 (zs.getD j 0)) := by
  intro j hj
  have hl := h.1
  simp [I] at hl
  have := h.cells (g := g) rfl j (.int .i64 (zs.getD j 0)) (by simp [I, hl, hj])
  rwa [addr0] at this

set_option maxHeartbeats 800000 in
theorem ints_any (g o n c : Nat) (zs : List Int) (w : World) (hn : zs.length = n) (hpos : 0 < n) (hsm : n < 1000000) (hcell : ∀ j, j < n → w.cell? ⟨g, o + j, none⟩ = some (.int .i64 (zs.getD j 0))) :
    Calls Tryd.prog 19 #[.slice (some ⟨g, o, none⟩) n c] w fun e w' => ∃ v', e = .returned v' ∧ w'.ownsRow w.heap.size 3 1 v' n (I zs) ∧ Only (fun _ => False) w w' := by
  obtain ⟨i0, hi, hz0, hz1, hz2⟩ := info_parts Tryd.info3
  have hlt : g < w.heap.size := World.block_lt_of_cell? w _ (hcell 0 hpos)
  have Hcell := Lib.hid hcell
  have Hn := Lib.hid hn
  clear hcell hn
  go_enter Tryd.func19, Tryd.ntmps19
  go_wp2_with (at_make; refine wpList_make_own _ rfl _ _ 22 rfl w.heap.size 3 i0 (.int .i64 0) 1 Tryd.under22 hi hz0 hz1 _ _ _ n rfl rfl (by omega) ?b1 ?b2 ?b3 ?_)
  case b1 => rw [hz2]; omega
  case b2 => unfold maxLen; omega
  case b3 => exact Nat.le_refl _
  intro w1 hown1 hgrow1
  have ho1 : Only (fun _ => False) w w1 := (Only.of_grown hgrow1).mono (fun i hi => by cases hi)
  have Ho1 := Lib.hid ho1
  have Hown1 := Lib.hid hown1
  clear ho1 hown1 hgrow1
  go_wp2_with fail
  go_loopw [3, 4] (fun v i wr => ∃ k : Nat, k ≤ n ∧ i = .int .i64 k ∧ Hid (wr.ownsRow w.heap.size 3 1 v k (I (zs.take k))) ∧ Hid (Only (fun _ => False) w wr)) (fun _ i _ => n - (intOf i).toNat)
  case atStart => exact ⟨0, Nat.zero_le _, rfl, Hown1.out, Ho1.out⟩
  case round =>
    obtain ⟨k, hk, rfl, Hown, Ho⟩ := hrel
    by_cases hlt2 : k < n
    · have hcx : wr.cell? ⟨g, o + k, none⟩ = some (.int .i64 (zs.getD k 0)) := (World.cell?_of_block (w := w) (Ho.out.block g hlt (fun h => h))).trans (Hcell.out k hlt2)
      have hstep := I_take_succ zs k (by rw [Hn.out]; exact hlt2)
      have Hstep := Lib.hid hstep
      clear hstep
      have hsz := Ho.out.size
      generalize hy : zs.getD k 0 = y at *
      clear hy
      go_wp2_with (at_builtin; refine wpList_append_own_at _ rfl _ _ 22 rfl w.heap.size 3 i0 (.int .i64 0) 1 8 Tryd.under22 hi hz0 hz1 hz2 rfl (by decide) _ _ _ rfl (Hown.out.alloc _) ⟨wr.heap.size, 0, none⟩ 1 1 [.int .i64 y] rfl rfl (cell_one_new _ _ _) ?c2 ?c3 ?c4 ?c5 ?_)
      case c2 => intro u hu; simp at hu; subst hu; rfl
      case c3 => unfold maxLen; omega
      case c4 => omega
      case c5 => simp; omega
      intro v' w4 hown4 hgrow4 _ _
      have Ho4 : Hid (Only (fun _ => False) w w4) := ((Ho.out.trans (Only.of_alloc wr (.cells #[.int .i64 y] 3)) (fun _ h => h) (fun _ h => .inl h)).trans (Only.of_grown hgrow4) (H := fun _ => False) (fun _ h => h) (fun i hi => .inr (by exact (Hown.out.lt i hi).1)))
      have Hown4 : Hid (w4.ownsRow w.heap.size 3 1 v' (k + 1) (I (zs.take (k + 1)))) := by rw [Hstep.out]; unfold I; rw [List.map_take]; exact hown4
      clear hown4 hgrow4 hsz Hown Ho hcx Hstep
      go_wp2_with fail
      go_roundw
      case rel => exact ⟨k + 1, by omega, by go_num, Hown4.out, Ho4.out⟩
      case measure => simp [intOf]; omega
    · have hkn : k = n := by omega
      go_wp2_with fail
      go_ret
      refine ⟨_, rfl, ?_, Ho.out⟩
      have := Hown.out
      rw [hkn, List.take_of_length_le (by rw [Hn.out]; exact Nat.le_refl _)] at this
      exact this

set_option maxHeartbeats 800000 in
theorem ints_none (a : Option Addr) (c : Nat) (w : World) :
    Calls Tryd.prog 19 #[.slice a 0 c] w fun e w' => ∃ v', e = .returned v' ∧ w'.ownsRow w.heap.size 3 1 v' 0 [] ∧ Only (fun _ => False) w w' := by
  obtain ⟨i0, hi, hz0, hz1, hz2⟩ := info_parts Tryd.info3
  go_enter Tryd.func19, Tryd.ntmps19
  go_wp2_with (at_make; refine wpList_make_own _ rfl _ _ 22 rfl w.heap.size 3 i0 (.int .i64 0) 1 Tryd.under22 hi hz0 hz1 _ _ _ 0 rfl rfl (by omega) ?b1 ?b2 ?b3 ?_)
  case b1 => rw [hz2]; omega
  case b2 => unfold maxLen; omega
  case b3 => exact Nat.le_refl _
  intro w1 hown1 hgrow1
  have Ho1 : Hid (Only (fun _ => False) w w1) := (Only.of_grown hgrow1).mono (fun i hi => by cases hi)
  have Hown1 := Lib.hid hown1
  clear hown1 hgrow1
  go_wp2_with fail
  refine wp_loop_rounds 1 ?_
  rw [rounds_succ]
  go_wp2_with fail
  go_ret
  exact ⟨_, rfl, Hown1.out, Ho1.out⟩
end Go.Proofs.YtgkdemdpknljkaaDoor
