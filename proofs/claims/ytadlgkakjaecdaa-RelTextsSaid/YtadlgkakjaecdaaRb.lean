/- The comparison of pairs, by a contract. -/
import Derived.Test.YtadlgkakjaecdaaRa
import Derived.Deep.RegionWith
import Derived.Deep.RegionHeld3
import Derived.Sort.Grow
namespace Go.Proofs.Ytadlgkakjaecdaa
open Go.RowKit Go.Maps Go.WideMaps Go.WideElems Go.ChangeShapes Go.WideShapes

/-- What cmp.Compare says. -/
def cmpI (a b : Int) : Int := if a < b then -1 else if b < a then 1 else 0
def orI (a b : Int) : Int := if a = 0 then b else a
def cmpP (p q : Pr) : Int := orI (cmpI p.1 q.1) (cmpI p.2 q.2)
theorem cmpP_lt (p q : Pr) : cmpP p q < 0 ↔ LtP p q := by
  unfold cmpP orI cmpI LtP
  by_cases h1 : p.1 < q.1
  · simp [h1]
  · by_cases h2 : q.1 < p.1
    · simp [h1, h2]; omega
    · have h3 : p.1 = q.1 := by omega
      simp [h3]
      by_cases h4 : p.2 < q.2
      · simp [h4]
      · by_cases h5 : q.2 < p.2 <;> simp [h4, h5]

theorem isNaN_any (a : Int) (w : World) : Calls Try.prog 56 #[.int .i64 a] w fun e w' => e = .returned (.bool false) ∧ w = w' := by
  go_enter Try.func56, Try.ntmps56
  go_wp2
  go_ret
  exact ⟨by simp, rfl⟩
theorem compare_any (a b : Int) (w : World) : Calls Try.prog 50 #[.int .i64 a, .int .i64 b] w fun e w' => e = .returned (.int .i64 (cmpI a b)) ∧ w = w' := by
  have HN := Lib.hid (fun a => isNaN_any a w)
  obtain ⟨R, hR⟩ : ∃ R, R = cmpI a b := ⟨_, rfl⟩
  rw [← hR]
  unfold cmpI at hR
  by_cases h1 : a < b
  · rw [if_pos h1] at hR
    subst hR
    go_enter Try.func50, Try.ntmps50
    go_wp2_with (first | (go_at_call 56; refine (HN.out _).mono ?_; rintro e w2 ⟨rfl, rfl⟩))
    go_ret
    exact ⟨rfl, rfl⟩
  · rw [if_neg h1] at hR
    by_cases h2 : b < a
    · rw [if_pos h2] at hR
      subst hR
      go_enter Try.func50, Try.ntmps50
      go_wp2_with (first | (go_at_call 56; refine (HN.out _).mono ?_; rintro e w2 ⟨rfl, rfl⟩))
      go_ret
      exact ⟨rfl, rfl⟩
    · rw [if_neg h2] at hR
      subst hR
      go_enter Try.func50, Try.ntmps50
      go_wp2_with (first | (go_at_call 56; refine (HN.out _).mono ?_; rintro e w2 ⟨rfl, rfl⟩))
      go_ret
      exact ⟨rfl, rfl⟩

set_option maxHeartbeats 1000000 in
theorem or_two (a b : Int) (bk : Nat) (w : World) (h0 : w.cell? ⟨bk, 0, none⟩ = some (.int .i64 a)) (h1 : w.cell? ⟨bk, 1, none⟩ = some (.int .i64 b)) :
    Calls Try.prog 46 #[.slice (some ⟨bk, 0, none⟩) 2 2] w fun e w' => e = .returned (.int .i64 (orI a b)) ∧ w = w' := by
  obtain ⟨R, hR⟩ : ∃ R, R = orI a b := ⟨_, rfl⟩
  rw [← hR]
  unfold orI at hR
  have HR := Lib.hid hR
  clear hR
  go_enter Try.func46, Try.ntmps46
  go_wp2
  go_loop [5, 8] (fun _ i => ∃ k : Int, (0 ≤ k ∧ k ≤ 2) ∧ i = .int .i64 k ∧ Hid ((1 ≤ k → a = 0) ∧ (2 ≤ k → b = 0))) (fun _ i => 2 - (intOf i).toNat)
  case atStart => exact ⟨0, ⟨by omega, by omega⟩, rfl, fun h => absurd h (by omega), fun h => absurd h (by omega)⟩
  case round =>
    obtain ⟨k, hk, rfl, HZ⟩ := hrel
    rcases (show k = 0 ∨ k = 1 ∨ k = 2 by omega) with rfl | rfl | rfl
    · by_cases ha : a = 0
      · have hb0 : (a != 0) = false := by simpa using ha
        have Ha := Lib.hid ha
        clear ha h1
        go_wp2
        go_round
        case rel => exact ⟨1, ⟨by omega, by omega⟩, rfl, fun _ => Ha.out, fun h => absurd h (by omega)⟩
        case measure => simp [intOf]
      · have hb0 : (a != 0) = true := by simpa using ha
        have HRa : Hid (R = a) := by show _ = _; rw [HR.out, if_neg ha]
        clear ha h1
        go_wp2
        go_ret
        exact ⟨(by rw [HRa.out]; rfl), rfl⟩
    · have Ha := Lib.hid (HZ.out.1 (by omega))
      have HRb : Hid (R = b) := by show _ = _; rw [HR.out, if_pos Ha.out]
      by_cases hb : b = 0
      · have hb0 : (b != 0) = false := by simpa using hb
        have Hb := Lib.hid hb
        clear hb h0
        go_wp2
        go_round
        case rel => exact ⟨2, ⟨by omega, by omega⟩, rfl, fun _ => Ha.out, fun _ => Hb.out⟩
        case measure => simp [intOf]
      · have hb0 : (b != 0) = true := by simpa using hb
        clear hb h0
        go_wp2
        go_ret
        exact ⟨(by rw [HRb.out]; rfl), rfl⟩
    · have HR0 : Hid (R = 0) := by show _ = _; rw [HR.out, HZ.out.1 (by omega), HZ.out.2 (by omega)]; rfl
      clear h0 h1
      go_wp2
      go_ret
      exact ⟨(by rw [HR0.out]; rfl), rfl⟩

theorem new_c0 (w : World) (x y : Value) (t : TypeId) : (w.alloc (.cells #[x, y] t)).cell? ⟨w.heap.size, 0, none⟩ = some x := by
  rw [cell_of_row _ w.heap.size 0 #[x, y] t _ (World.alloc_heap_new w _)]; rfl
theorem new_c1 (w : World) (x y : Value) (t : TypeId) : (w.alloc (.cells #[x, y] t)).cell? ⟨w.heap.size, 1, none⟩ = some y := by
  rw [cell_of_row _ w.heap.size 1 #[x, y] t _ (World.alloc_heap_new w _)]; rfl
theorem two_new (w : World) (x y : Value) (t : TypeId) : ∃ W, w.alloc (.cells #[x, y] t) = W ∧ Hid (Below w.heap.size w W) ∧ Hid (w.heap.size < W.heap.size) ∧ W.cell? ⟨w.heap.size, 0, none⟩ = some x ∧ W.cell? ⟨w.heap.size, 1, none⟩ = some y := by
  exact ⟨_, rfl, (Below.refl _ _).alloc (Nat.le_refl _) _, by show _ < _; simp, new_c0 w x y t, new_c1 w x y t⟩
set_option maxHeartbeats 2000000 in
theorem cmp_pairs (p q : Pr) (w : World) : Calls Try.prog 49 #[pv p, pv q] w fun e w' => e = .returned (.int .i64 (cmpP p q)) ∧ Hid (∃ n os', w' = Go.Sort.grow (w.drewN n) os') := by
  have HC := Lib.hid (fun a b w => compare_any a b w)
  obtain ⟨W1, hW1, hb1, hs1, p0, p1⟩ := two_new w (.int .i64 p.1) (.int .i64 p.2) 57
  obtain ⟨W, hW, hb2, hs2, q0, q1⟩ := two_new W1 (.int .i64 q.1) (.int .i64 q.2) 57
  have r0 := (hb2.out.cell (p := ⟨w.heap.size, 0, none⟩) hs1.out).trans p0
  have r1 := (hb2.out.cell (p := ⟨w.heap.size, 1, none⟩) hs1.out).trans p1
  have Hb := Lib.hid (hb1.out.trans (hb2.out.mono hb1.out.size))
  obtain ⟨B, hB⟩ : ∃ B, w.heap.size = B := ⟨_, rfl⟩
  obtain ⟨C, hC⟩ : ∃ C, W1.heap.size = C := ⟨_, rfl⟩
  have HR : Hid (cmpP p q = orI (cmpI p.1 q.1) (cmpI p.2 q.2)) := rfl
  clear p0 p1
  generalize cmpP p q = R at *
  rw [hB] at r0 r1
  rw [hC] at q0 q1
  go_enter Try.func49, Try.ntmps49
  go_wp2
  go_region_held3 (fun w' => w'.cell? ⟨B, 0, none⟩ = some (.int .i64 p.1) ∧ w'.cell? ⟨B, 1, none⟩ = some (.int .i64 p.2) ∧ w'.cell? ⟨C, 0, none⟩ = some (.int .i64 q.1) ∧ w'.cell? ⟨C, 1, none⟩ = some (.int .i64 q.2)) (go_keep)
    (first
      | (go_at_call 50; refine (HC.out _ _ _).mono ?_; rintro e w4 ⟨rfl, rfl⟩)
      | (go_at_call 46; refine (or_two _ _ W.heap.size _ (show (W.alloc _).drew.cell? _ = _ from new_c0 W _ _ 3) (show (W.alloc _).drew.cell? _ = _ from new_c1 W _ _ 3)).mono ?_; rintro e w5 ⟨rfl, rfl⟩))
  all_goals
    go_wp2
    go_ret
    refine ⟨(by rw [HR.out]; rfl), 1, #[.cells #[.int .i64 p.1, .int .i64 p.2] 57, .cells #[.int .i64 q.1, .int .i64 q.2] 57, .cells #[.int .i64 (cmpI p.1 q.1), .int .i64 (cmpI p.2 q.2)] 3], ?_⟩
    rw [← hW, ← hW1, Sort.alloc_eq_grow, Sort.alloc_eq_grow, Sort.alloc_eq_grow, Sort.grow_grow, Sort.grow_grow]
    rfl
end Go.Proofs.Ytadlgkakjaecdaa
