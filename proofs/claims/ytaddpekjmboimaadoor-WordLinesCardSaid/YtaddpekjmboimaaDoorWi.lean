/- The examples of the chapter (first), by a contract. -/
import Derived.Test.YtaddpekjmboimaaDoorWh
namespace Go.Proofs.YtaddpekjmboimaaDoor
open Go.RowKit Go.Maps Go.WideMaps Go.WideElems Go.ChangeShapes Go.WideShapes

variable {T : TypeId} {e0 e1 e2 : Addr}

theorem dec_one {u : Nat} (h : u < 10) : Lib.decDigits u = [UInt8.ofNat (48 + u)] := by rw [Lib.decDigits, dif_pos h]
theorem itoa_m5 : Lib.itoa (-5) = [45, 53] := by unfold Lib.itoa; rw [if_pos (by decide), show (-5 : Int).natAbs = 5 by rfl, dec_one (by decide)]; rfl
theorem itoa_m7 : Lib.itoa (-7) = [45, 55] := by unfold Lib.itoa; rw [if_pos (by decide), show (-7 : Int).natAbs = 7 by rfl, dec_one (by decide)]; rfl
theorem itoa_7 : Lib.itoa 7 = [55] := by unfold Lib.itoa; rw [if_neg (by decide), show (7 : Int).toNat = 7 by rfl, dec_one (by decide)]; rfl
theorem num_m5 : numR [45, 53] = some (-5) := by
  have h : Lib.atoiAll [45, 53] = .ok (-5) := by rw [← itoa_m5]; exact atoi_itoa _ (by decide) (by decide)
  unfold numR; rw [h]; simp only; rw [if_pos ⟨itoa_m5, by decide, by decide⟩]
theorem num_007 : numR [48, 48, 55] = none := by
  have h : Lib.atoiAll [48, 48, 55] = .ok 7 := by decide
  unfold numR; rw [h]; simp only; rw [if_neg (fun h => by rw [itoa_7] at h; exact absurd h.1 (by decide))]
theorem vb_128 : vb 128 = [128, 1] := by rw [vb_big (by decide), vb_small (by decide)]
theorem vb_129 : vb 129 = [129, 1] := by rw [vb_big (by decide), vb_small (by decide)]
theorem fold_64 : foldN 64 = 128 := by decide
theorem fold_m65 : foldN (-65) = 129 := by decide
theorem get_ex : getL 0 0 [128, 1, 7] = .ok 128 2 := by
  have := get_vb 128 [7] (by decide)
  rw [vb_128] at this; exact this
theorem words_ex : wordsL [32, 32, 97, 32, 32, 98, 99, 32] = [[97], [98, 99]] := by decide
theorem silent_ex : silentL [32, 35, 32, 120] = true := by decide
theorem join_ex : Lib.join [[97], [98, 99]] [32] = [97, 32, 98, 99] := by decide

theorem bat_new (w : World) (l : List Nat) (c : Array Value) (hc : c.toList = bc l) : BAt (w.alloc (.cells c 5)) (some ⟨w.heap.size, 0, none⟩) l := .inr ⟨w.heap.size, 0, rfl, fun i hi => by
  have hb := heap_alloc_new w (.cells c 5)
  have h2 : c[0 + i]? = some (.int .u8 ((l[i]?.getD 0 : Nat) : Int)) := by
    rw [← Array.getElem?_toList, hc]; simp [hi]
  simp only [World.cell?, hb]
  simpa using h2⟩
theorem tat_new (w : World) (l : List (List UInt8)) (c : Array Value) (hc : c.toList = tc l) : TAt (w.alloc (.cells c 9)) (some ⟨w.heap.size, 0, none⟩) l := .inr ⟨w.heap.size, 0, rfl, fun i hi => by
  have hb := heap_alloc_new w (.cells c 9)
  have h2 : c[0 + i]? = some (tv (l[i]?.getD [])) := by
    rw [← Array.getElem?_toList, hc]; simp [hi]
  simp only [World.cell?, hb]
  simpa using h2⟩

set_option maxRecDepth 100000 in
set_option maxHeartbeats 2000000 in
theorem first_any (w : World) (hG : Glob T e0 e1 e2 w) : Calls Tryd.prog 9 #[] w fun e w' => e = .returned (.bool true) ∧ Hid (Below w.heap.size w w') := by
  have HG := Lib.hid hG
  have hn1 : Calls Tryd.prog 25 #[tv [45, 53]] w fun e w' => e = .returned (.tuple #[.int .i64 (-5), .nilIface]) ∧ Hid (Below w.heap.size w w') := by
    have := number_any [45, 53] (by decide) w hG
    rw [num_m5] at this; exact this
  have hn2 : ∀ w1, Below w.heap.size w w1 → Calls Tryd.prog 25 #[tv [48, 48, 55]] w1 fun e w' => e = .returned (.tuple #[.int .i64 0, .iface T (.pointer (some e2))]) ∧ Hid (Below w.heap.size w w') := fun w1 hb => by
    have := number_any [48, 48, 55] (by decide) w1 (HG.out.below' hb)
    rw [num_007] at this
    exact this.mono fun e w' h => ⟨h.1, hb.trans (h.2.out.mono hb.size)⟩
  have hwd : ∀ w1, Below w.heap.size w w1 → Calls Tryd.prog 12 #[tv [32, 32, 97, 32, 32, 98, 99, 32]] w1 fun e w' => ∃ A : Nat, e = .returned (.slice (some ⟨A, 0, none⟩) 2 2) ∧ Hid (TAt w' (some ⟨A, 0, none⟩) [[97], [98, 99]] ∧ Below w.heap.size w w') := fun w1 hb => by
    have := words_any [32, 32, 97, 32, 32, 98, 99, 32] (by decide) w1
    rw [words_ex] at this
    refine this.mono fun e w' h => ?_
    obtain ⟨A, he, h2⟩ := h
    obtain ⟨a, c, ha, ht⟩ := tat_row h2.out.1
    cases ha
    exact ⟨A, he, ht, hb.trans (h2.out.2.mono hb.size)⟩
  have hst : ∀ w1 A, TAt w1 (some ⟨A, 0, none⟩) [[97], [98, 99]] → Below w.heap.size w w1 → Calls Tryd.prog 11 #[.slice (some ⟨A, 0, none⟩) 2 2, .slice (some ⟨w1.heap.size, 0, none⟩) 2 2] (w1.alloc (.cells #[tv [97], tv [98, 99]] 9)) fun e w' => e = .returned (.bool true) ∧ Hid (Below w.heap.size w w') := fun w1 A h1 hb => by
    have hal : Below w1.heap.size w1 (w1.alloc (.cells #[tv [97], tv [98, 99]] 9)) := (Below.refl _ _).alloc (Nat.le_refl _) _
    have h := sameTexts_any _ _ 2 2 [[97], [98, 99]] [[97], [98, 99]] _ (h1.below' hal) (tat_new w1 [[97], [98, 99]] #[tv [97], tv [98, 99]] rfl) (by decide) (by decide)
    rw [decide_eq_true rfl] at h
    exact h.mono fun e w' ⟨he, q, hq⟩ => ⟨he, by rw [← hq]; exact below_drewN (hb.alloc hb.size _) q⟩
  have hpt : ∀ w1, Below w.heap.size w w1 → Calls Tryd.prog 22 #[.slice none 0 0, .int .i64 64] w1 fun e w' => ∃ a c, e = .returned (.slice a 2 c) ∧ Hid (BAt w' a [128, 1] ∧ Below w.heap.size w w') := fun w1 hb => by
    have := put_any 64 (by decide) (by decide) w1
    rw [fold_64, vb_128] at this
    refine this.mono fun e w' h => ?_
    obtain ⟨v, he, h2, h3⟩ := h
    obtain ⟨a, c, ha, ht⟩ := bat_row h2
    exact ⟨a, c, by rw [he, ha]; rfl, ht, hb.trans (h3.mono hb.size)⟩
  have hsb : ∀ w1 a c, BAt w1 a [128, 1] → Below w.heap.size w w1 → Calls Tryd.prog 21 #[.slice a 2 c, .slice (some ⟨w1.heap.size, 0, none⟩) 2 2] (w1.alloc (.cells #[.int .u8 128, .int .u8 1] 5)) fun e w' => e = .returned (.bool true) ∧ Hid (Below w.heap.size w w') := fun w1 a c h1 hb => by
    have hal : Below w1.heap.size w1 (w1.alloc (.cells #[.int .u8 128, .int .u8 1] 5)) := (Below.refl _ _).alloc (Nat.le_refl _) _
    have h := sameBytes_any _ _ c 2 [128, 1] [128, 1] _ (h1.below' hal) (bat_new w1 [128, 1] #[.int .u8 128, .int .u8 1] rfl) (by decide) (by decide)
    rw [decide_eq_true rfl] at h
    exact h.mono fun e w' ⟨he, hq⟩ => ⟨he, by rw [← hq]; exact hb.alloc hb.size _⟩
  have hgt : ∀ w1, Below w.heap.size w w1 → Calls Tryd.prog 23 #[.slice (some ⟨w1.heap.size, 0, none⟩) 3 3] (w1.alloc (.cells #[.int .u8 128, .int .u8 1, .int .u8 7] 5)) fun e w' => e = .returned (.tuple #[.int .i64 64, .int .i64 2, .nilIface]) ∧ Hid (Below w.heap.size w w') := fun w1 hb => by
    have hal := hb.alloc hb.size (.cells #[.int .u8 128, .int .u8 1, .int .u8 7] 5)
    have hg := HG.out.below' hal
    have h := get_any (some ⟨w1.heap.size, 0, none⟩) 3 [128, 1, 7] _ (by decide) (by decide) (bat_new w1 [128, 1, 7] #[.int .u8 128, .int .u8 1, .int .u8 7] rfl) _ _ _ _ hg.c0 hg.c1
    rw [get_ex] at h
    exact h.mono fun e w' ⟨he, q, hq⟩ => ⟨he, by rw [← hq]; exact below_drewN hal q⟩
  have hsz : ∀ w1 : World, Calls Tryd.prog 24 #[.int .i64 (-65)] w1 fun e w' => e = .returned (.int .i64 2) ∧ w1 = w' := fun w1 => by
    have h := size_any (-65) (by decide) (by decide) w1
    rw [fold_m65, vb_129] at h
    exact h
  have hsl : ∀ w1 : World, Calls Tryd.prog 16 #[tv [32, 35, 32, 120]] w1 fun e w' => e = .returned (.bool true) ∧ w1 = w' := fun w1 => by
    have h := silent_any [32, 35, 32, 120] (by decide) w1
    rw [silent_ex] at h
    exact h
  have hjn : ∀ w1, Below w.heap.size w w1 → Calls Tryd.prog 14 #[.slice (some ⟨w1.heap.size, 0, none⟩) 2 2] (w1.alloc (.cells #[tv [97], tv [98, 99]] 9)) fun e w' => e = .returned (tv [97, 32, 98, 99]) ∧ Hid (Below w.heap.size w w') := fun w1 hb => by
    have hal := hb.alloc hb.size (.cells #[tv [97], tv [98, 99]] 9)
    have h := join_any (some ⟨w1.heap.size, 0, none⟩) 2 [[97], [98, 99]] _ (tat_new w1 [[97], [98, 99]] #[tv [97], tv [98, 99]] rfl) (by decide) (by decide) (by decide)
    rw [join_ex] at h
    exact h.mono fun e w' ⟨he, hq⟩ => ⟨he, hal.trans (hq.out.mono hal.size)⟩
  have hpr : ∀ w1, Below w.heap.size w w1 → Calls Tryd.prog 26 #[.int .i64 (-7)] w1 fun e w' => e = .returned (tv [45, 55]) ∧ Hid (Below w.heap.size w w') := fun w1 hb => by
    have h := print_any (-7) (by decide) (by decide) w1 (HG.out.below' hb)
    rw [itoa_m7] at h
    exact h.mono fun e w' ⟨he, hq⟩ => ⟨he, hb.trans (hq.out.mono hb.size)⟩
  have Hn1 := Lib.hid hn1
  have Hn2 := Lib.hid hn2
  have Hwd := Lib.hid hwd
  have Hst := Lib.hid hst
  have Hpt := Lib.hid hpt
  have Hsb := Lib.hid hsb
  have Hgt := Lib.hid hgt
  have Hsz := Lib.hid hsz
  have Hsl := Lib.hid hsl
  have Hjn := Lib.hid hjn
  have Hpr := Lib.hid hpr
  clear hn1 hn2 hG hwd hst hpt hsb hgt hsz hsl hjn hpr
  go_enter Tryd.func9, Tryd.ntmps9
  go_wp2_with (first | (go_at_call 25; refine Hn1.out.mono ?_; rintro e w1 ⟨rfl, hb1⟩; clear Hn1) | (go_at_call 25; refine (Hn2.out _ hb1.out).mono ?_; rintro e w2 ⟨rfl, hb2⟩) | (go_at_call 12; refine (Hwd.out _ hb2.out).mono ?_; rintro e w3 ⟨A, rfl, h3⟩) | (go_at_call 11; refine (Hst.out _ _ h3.out.1 h3.out.2).mono ?_; rintro e w4 ⟨rfl, hb4⟩) | (go_at_call 22; refine (Hpt.out _ hb4.out).mono ?_; rintro e w5 ⟨a5, c5, rfl, h5⟩) | (go_at_call 21; refine (Hsb.out _ _ _ h5.out.1 h5.out.2).mono ?_; rintro e w6 ⟨rfl, hb6⟩) | (go_at_call 23; refine (Hgt.out _ hb6.out).mono ?_; rintro e w7 ⟨rfl, hb7⟩) | (go_at_call 24; refine (Hsz.out _).mono ?_; rintro e w' ⟨rfl, rfl⟩) | (go_at_call 16; refine (Hsl.out _).mono ?_; rintro e w' ⟨rfl, rfl⟩) | (go_at_call 14; refine (Hjn.out _ hb7.out).mono ?_; rintro e w8 ⟨rfl, hb8⟩) | (go_at_call 26; refine (Hpr.out _ hb8.out).mono ?_; rintro e w9 ⟨rfl, hb9⟩))
  go_ret
  exact ⟨rfl, hb9⟩
end Go.Proofs.YtaddpekjmboimaaDoor
