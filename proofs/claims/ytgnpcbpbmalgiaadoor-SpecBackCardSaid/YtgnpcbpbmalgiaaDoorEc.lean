/- Package event: Code, by a contract. -/
import Derived.Test.YtgnpcbpbmalgiaaDoorEw
import Derived.Laws.Rows
namespace Go.Proofs.YtgnpcbpbmalgiaaDoor
open Go.RowKit Go.Maps Go.WideMaps Go.WideElems Go.ChangeShapes Go.WideShapes

set_option maxRecDepth 100000 in
set_option maxHeartbeats 4000000 in
theorem code_row (t : Nat) (ht : t < 7) (l : List UInt8) (hl : l ≠ []) (w : World) (x0 x1 x2 x3 x4 x5 x6 x7 x8 x9 : List UInt8) 
    (c0 : w.cell? ⟨4, t * 10 + 0, none⟩ = some (tv x0)) (c1 : w.cell? ⟨4, t * 10 + 1, none⟩ = some (tv x1)) (c2 : w.cell? ⟨4, t * 10 + 2, none⟩ = some (tv x2)) (c3 : w.cell? ⟨4, t * 10 + 3, none⟩ = some (tv x3)) (c4 : w.cell? ⟨4, t * 10 + 4, none⟩ = some (tv x4)) (c5 : w.cell? ⟨4, t * 10 + 5, none⟩ = some (tv x5)) (c6 : w.cell? ⟨4, t * 10 + 6, none⟩ = some (tv x6)) (c7 : w.cell? ⟨4, t * 10 + 7, none⟩ = some (tv x7)) (c8 : w.cell? ⟨4, t * 10 + 8, none⟩ = some (tv x8)) (c9 : w.cell? ⟨4, t * 10 + 9, none⟩ = some (tv x9)) :
    Calls Tryd.prog 24 #[.int .i64 t, tv l] w fun e w' => e = .returned (.tuple #[.int .i64 (((firstOf l 0 [x0, x1, x2, x3, x4, x5, x6, x7, x8, x9]).getD 0 : Nat) : Int), .bool (firstOf l 0 [x0, x1, x2, x3, x4, x5, x6, x7, x8, x9]).isSome]) ∧ w = w' := by
  have hle : l.isEmpty = false := by simpa using hl
  have c0' : w.cell? ⟨4, t * 10, none⟩ = some (tv x0) := c0
  obtain ⟨R, hR⟩ : ∃ R, R = firstOf l 0 [x0, x1, x2, x3, x4, x5, x6, x7, x8, x9] := ⟨_, rfl⟩
  rw [← hR]
  simp only [firstOf] at hR
  have HR := Lib.hid hR
  clear c0 hR
  have i0 : ∀ w, (Instr.index 70 (.agg #[tv x0, tv x1, tv x2, tv x3, tv x4, tv x5, tv x6, tv x7, tv x8, tv x9]) (.int .i64 0)).run Tryd.prog w = .ok (tv x0) w := fun _ => by kernel_rfl
  have i1 : ∀ w, (Instr.index 70 (.agg #[tv x0, tv x1, tv x2, tv x3, tv x4, tv x5, tv x6, tv x7, tv x8, tv x9]) (.int .i64 1)).run Tryd.prog w = .ok (tv x1) w := fun _ => by kernel_rfl
  have i2 : ∀ w, (Instr.index 70 (.agg #[tv x0, tv x1, tv x2, tv x3, tv x4, tv x5, tv x6, tv x7, tv x8, tv x9]) (.int .i64 2)).run Tryd.prog w = .ok (tv x2) w := fun _ => by kernel_rfl
  have i3 : ∀ w, (Instr.index 70 (.agg #[tv x0, tv x1, tv x2, tv x3, tv x4, tv x5, tv x6, tv x7, tv x8, tv x9]) (.int .i64 3)).run Tryd.prog w = .ok (tv x3) w := fun _ => by kernel_rfl
  have i4 : ∀ w, (Instr.index 70 (.agg #[tv x0, tv x1, tv x2, tv x3, tv x4, tv x5, tv x6, tv x7, tv x8, tv x9]) (.int .i64 4)).run Tryd.prog w = .ok (tv x4) w := fun _ => by kernel_rfl
  have i5 : ∀ w, (Instr.index 70 (.agg #[tv x0, tv x1, tv x2, tv x3, tv x4, tv x5, tv x6, tv x7, tv x8, tv x9]) (.int .i64 5)).run Tryd.prog w = .ok (tv x5) w := fun _ => by kernel_rfl
  have i6 : ∀ w, (Instr.index 70 (.agg #[tv x0, tv x1, tv x2, tv x3, tv x4, tv x5, tv x6, tv x7, tv x8, tv x9]) (.int .i64 6)).run Tryd.prog w = .ok (tv x6) w := fun _ => by kernel_rfl
  have i7 : ∀ w, (Instr.index 70 (.agg #[tv x0, tv x1, tv x2, tv x3, tv x4, tv x5, tv x6, tv x7, tv x8, tv x9]) (.int .i64 7)).run Tryd.prog w = .ok (tv x7) w := fun _ => by kernel_rfl
  have i8 : ∀ w, (Instr.index 70 (.agg #[tv x0, tv x1, tv x2, tv x3, tv x4, tv x5, tv x6, tv x7, tv x8, tv x9]) (.int .i64 8)).run Tryd.prog w = .ok (tv x8) w := fun _ => by kernel_rfl
  have i9 : ∀ w, (Instr.index 70 (.agg #[tv x0, tv x1, tv x2, tv x3, tv x4, tv x5, tv x6, tv x7, tv x8, tv x9]) (.int .i64 9)).run Tryd.prog w = .ok (tv x9) w := fun _ => by kernel_rfl
  go_enter Tryd.func24, Tryd.ntmps24
  go_wp2
  refine wp_loop_rounds 11 ?_
  rw [rounds_succ]
  by_cases e0 : x0 = l
  · have b0 : (x0 == l) = true := by simpa using e0
    have HR' : Hid (R = some 0) := by show _ = _; rw [HR.out, if_pos e0]
    clear e0 HR
    go_wp2
    go_ret2
    exact ⟨by rw [HR'.out]; rfl, rfl⟩
  have b0 : (x0 == l) = false := by simpa using e0
  have HR0 := Lib.hid e0
  clear e0
  go_wp2
  clear b0
  rw [rounds_succ]
  by_cases e1 : x1 = l
  · have b1 : (x1 == l) = true := by simpa using e1
    have HR' : Hid (R = some 1) := by show _ = _; rw [HR.out, if_neg HR0.out, if_pos e1]
    clear e1 HR
    go_wp2
    go_ret2
    exact ⟨by rw [HR'.out]; rfl, rfl⟩
  have b1 : (x1 == l) = false := by simpa using e1
  have HR1 := Lib.hid e1
  clear e1
  go_wp2
  clear b1
  rw [rounds_succ]
  by_cases e2 : x2 = l
  · have b2 : (x2 == l) = true := by simpa using e2
    have HR' : Hid (R = some 2) := by show _ = _; rw [HR.out, if_neg HR0.out, if_neg HR1.out, if_pos e2]
    clear e2 HR
    go_wp2
    go_ret2
    exact ⟨by rw [HR'.out]; rfl, rfl⟩
  have b2 : (x2 == l) = false := by simpa using e2
  have HR2 := Lib.hid e2
  clear e2
  go_wp2
  clear b2
  rw [rounds_succ]
  by_cases e3 : x3 = l
  · have b3 : (x3 == l) = true := by simpa using e3
    have HR' : Hid (R = some 3) := by show _ = _; rw [HR.out, if_neg HR0.out, if_neg HR1.out, if_neg HR2.out, if_pos e3]
    clear e3 HR
    go_wp2
    go_ret2
    exact ⟨by rw [HR'.out]; rfl, rfl⟩
  have b3 : (x3 == l) = false := by simpa using e3
  have HR3 := Lib.hid e3
  clear e3
  go_wp2
  clear b3
  rw [rounds_succ]
  by_cases e4 : x4 = l
  · have b4 : (x4 == l) = true := by simpa using e4
    have HR' : Hid (R = some 4) := by show _ = _; rw [HR.out, if_neg HR0.out, if_neg HR1.out, if_neg HR2.out, if_neg HR3.out, if_pos e4]
    clear e4 HR
    go_wp2
    go_ret2
    exact ⟨by rw [HR'.out]; rfl, rfl⟩
  have b4 : (x4 == l) = false := by simpa using e4
  have HR4 := Lib.hid e4
  clear e4
  go_wp2
  clear b4
  rw [rounds_succ]
  by_cases e5 : x5 = l
  · have b5 : (x5 == l) = true := by simpa using e5
    have HR' : Hid (R = some 5) := by show _ = _; rw [HR.out, if_neg HR0.out, if_neg HR1.out, if_neg HR2.out, if_neg HR3.out, if_neg HR4.out, if_pos e5]
    clear e5 HR
    go_wp2
    go_ret2
    exact ⟨by rw [HR'.out]; rfl, rfl⟩
  have b5 : (x5 == l) = false := by simpa using e5
  have HR5 := Lib.hid e5
  clear e5
  go_wp2
  clear b5
  rw [rounds_succ]
  by_cases e6 : x6 = l
  · have b6 : (x6 == l) = true := by simpa using e6
    have HR' : Hid (R = some 6) := by show _ = _; rw [HR.out, if_neg HR0.out, if_neg HR1.out, if_neg HR2.out, if_neg HR3.out, if_neg HR4.out, if_neg HR5.out, if_pos e6]
    clear e6 HR
    go_wp2
    go_ret2
    exact ⟨by rw [HR'.out]; rfl, rfl⟩
  have b6 : (x6 == l) = false := by simpa using e6
  have HR6 := Lib.hid e6
  clear e6
  go_wp2
  clear b6
  rw [rounds_succ]
  by_cases e7 : x7 = l
  · have b7 : (x7 == l) = true := by simpa using e7
    have HR' : Hid (R = some 7) := by show _ = _; rw [HR.out, if_neg HR0.out, if_neg HR1.out, if_neg HR2.out, if_neg HR3.out, if_neg HR4.out, if_neg HR5.out, if_neg HR6.out, if_pos e7]
    clear e7 HR
    go_wp2
    go_ret2
    exact ⟨by rw [HR'.out]; rfl, rfl⟩
  have b7 : (x7 == l) = false := by simpa using e7
  have HR7 := Lib.hid e7
  clear e7
  go_wp2
  clear b7
  rw [rounds_succ]
  by_cases e8 : x8 = l
  · have b8 : (x8 == l) = true := by simpa using e8
    have HR' : Hid (R = some 8) := by show _ = _; rw [HR.out, if_neg HR0.out, if_neg HR1.out, if_neg HR2.out, if_neg HR3.out, if_neg HR4.out, if_neg HR5.out, if_neg HR6.out, if_neg HR7.out, if_pos e8]
    clear e8 HR
    go_wp2
    go_ret2
    exact ⟨by rw [HR'.out]; rfl, rfl⟩
  have b8 : (x8 == l) = false := by simpa using e8
  have HR8 := Lib.hid e8
  clear e8
  go_wp2
  clear b8
  rw [rounds_succ]
  by_cases e9 : x9 = l
  · have b9 : (x9 == l) = true := by simpa using e9
    have HR' : Hid (R = some 9) := by show _ = _; rw [HR.out, if_neg HR0.out, if_neg HR1.out, if_neg HR2.out, if_neg HR3.out, if_neg HR4.out, if_neg HR5.out, if_neg HR6.out, if_neg HR7.out, if_neg HR8.out, if_pos e9]
    clear e9 HR
    go_wp2
    go_ret2
    exact ⟨by rw [HR'.out]; rfl, rfl⟩
  have b9 : (x9 == l) = false := by simpa using e9
  have HR9 := Lib.hid e9
  clear e9
  go_wp2
  clear b9
  rw [rounds_succ]
  have HR' : Hid (R = none) := by show _ = _; rw [HR.out, if_neg HR0.out, if_neg HR1.out, if_neg HR2.out, if_neg HR3.out, if_neg HR4.out, if_neg HR5.out, if_neg HR6.out, if_neg HR7.out, if_neg HR8.out, if_neg HR9.out]
  go_wp2
  go_ret2
  exact ⟨by rw [HR'.out]; rfl, rfl⟩

theorem code_none (t : Int) (l : List UInt8) (h : l = [] ∨ t < 0 ∨ 7 ≤ t) (w : World) :
    Calls Tryd.prog 24 #[.int .i64 t, tv l] w fun e w' => e = .returned (.tuple #[.int .i64 0, .bool false]) ∧ w = w' := by
  by_cases h0 : l = []
  · subst h0
    clear h
    go_enter Tryd.func24, Tryd.ntmps24
    go_wp2
    go_ret2
    exact ⟨rfl, rfl⟩
  have hle : l.isEmpty = false := by simpa using h0
  by_cases h1 : t < 0
  · clear h h0
    go_enter Tryd.func24, Tryd.ntmps24
    go_wp2
    go_ret2
    exact ⟨rfl, rfl⟩
  have h2 : 7 ≤ t := by rcases h with h | h | h; exact absurd h h0; exact absurd h h1; exact h
  clear h h0
  go_enter Tryd.func24, Tryd.ntmps24
  go_wp2
  go_ret2
  exact ⟨rfl, rfl⟩

theorem codeL_out {t : Int} {l : List UInt8} (h : l = [] ∨ t < 0 ∨ 7 ≤ t) : codeL t l = none := by
  unfold codeL
  rw [if_neg]
  rintro ⟨h1, h2, h3⟩
  rcases h with h | h | h
  · exact h1 h
  · omega
  · omega
theorem ten_of {r : List (List UInt8)} (h : r.length = 10) : r = [r.getD 0 [], r.getD 1 [], r.getD 2 [], r.getD 3 [], r.getD 4 [], r.getD 5 [], r.getD 6 [], r.getD 7 [], r.getD 8 [], r.getD 9 []] := by
  match r, h with
  | [a0, a1, a2, a3, a4, a5, a6, a7, a8, a9], _ => rfl
theorem codeL_in {t : Nat} (ht : t < 7) {l : List UInt8} (hl : l ≠ []) : codeL t l = firstOf l 0 (wrow t) := by
  unfold codeL
  rw [if_pos ⟨hl, by omega, by omega⟩, Int.toNat_natCast]

theorem code_any (t : Int) (l : List UInt8) (w : World) (hW : WordsAt w) :
    Calls Tryd.prog 24 #[.int .i64 t, tv l] w fun e w' => e = .returned (.tuple #[.int .i64 (((codeL t l).getD 0 : Nat) : Int), .bool (codeL t l).isSome]) ∧ w = w' := by
  by_cases h : l = [] ∨ t < 0 ∨ 7 ≤ t
  · rw [codeL_out h]
    exact code_none t l h w
  · have hl : l ≠ [] := fun e => h (.inl e)
    have e1 : t = (t.toNat : Int) := by omega
    have ht : t.toNat < 7 := by omega
    generalize t.toNat = n at *
    subst e1
    have hc : ∀ k, k < 10 → w.cell? ⟨4, n * 10 + k, none⟩ = some (tv ((wrow n).getD k [])) := fun k hk => by
      rw [hW (n * 10 + k) (by omega), wflat_at n ht k hk]
    have := code_row n ht l hl w _ _ _ _ _ _ _ _ _ _ (hc 0 (by decide)) (hc 1 (by decide)) (hc 2 (by decide)) (hc 3 (by decide)) (hc 4 (by decide)) (hc 5 (by decide)) (hc 6 (by decide)) (hc 7 (by decide)) (hc 8 (by decide)) (hc 9 (by decide))
    rw [← ten_of (wrow_len n ht), ← codeL_in ht hl] at this
    exact this
end Go.Proofs.YtgnpcbpbmalgiaaDoor
