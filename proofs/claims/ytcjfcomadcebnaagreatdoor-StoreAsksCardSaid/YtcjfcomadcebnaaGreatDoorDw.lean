/- Where two stores of the document differ. -/
import Derived.Test.YtcjfcomadcebnaaGreatDoorM10
import Derived.Test.YtcjfcomadcebnaaGreatDoorDq
namespace Go.Proofs.YtcjfcomadcebnaaGreatDoor
open Go.RowKit Go.Maps Go.WideMaps Go.WideElems Go.ChangeShapes Go.WideShapes
variable {T : TypeId} {er : Nat → Addr}

/-- What the document's loop over two stores keeps. -/
structure Dg2 (w : World) (xs : List Int) (v : Value) (V : World) : Prop where
  row : V.ownsRow w.heap.size 3 1 v xs.length (ic xs)
  below : Below w.heap.size w V
/-- What lies at the places of a store of the document. -/
def StoAt (w : World) (a : Option Addr) (S : List PS) (n : Nat) : Prop :=
  ∀ j, j < n → ∃ b off p q r u s, a = some ⟨b, off, none⟩ ∧ S[j]? = some s ∧ (∀ W, Below w.heap.size w W → W.cell? ⟨b, off + j * 4, none⟩ = some p ∧ W.cell? ⟨b, off + j * 4 + 1, none⟩ = some q ∧ W.cell? ⟨b, off + j * 4 + 2, none⟩ = some r ∧ W.cell? ⟨b, off + j * 4 + 3, none⟩ = some u) ∧
    ∀ V, Below w.heap.size w V → DAt V s (.agg #[p, q, r, u])
theorem stoAt {w : World} {S : List PS} {v : Value} {n : Nat} (hn : S.length = n) (h : SAt w S v) : ∃ a c, v = .slice a n c ∧ StoAt w a S n := by
  obtain ⟨a, c, xs, rfl, hsl, -, -, hD⟩ := h
  refine ⟨a, c, by rw [hn], fun j hj => ?_⟩
  have hjS : j < S.length := by omega
  obtain ⟨p, q, r, u, ⟨h1, h2, h3, h4⟩, hDs⟩ := hD.2.2 j S[j] (List.getElem?_eq_getElem hjS)
  rcases hsl with ⟨_, h0⟩ | ⟨b, off, rfl, hbl, hc⟩
  · rw [h0] at h1; simp at h1
  have hlt : b < w.heap.size := hbl (by intro e; rw [e] at h1; simp at h1)
  refine ⟨b, off, p, q, r, u, S[j], rfl, List.getElem?_eq_getElem hjS, fun W hW => ⟨?_, ?_, ?_, ?_⟩, fun V hV => hDs.below hV⟩
  · exact (hW.cell (p := ⟨b, off + j * 4, none⟩) hlt).trans (hc _ _ h1)
  · exact (hW.cell (p := ⟨b, off + (j * 4 + 1), none⟩) hlt).trans (hc _ _ h2)
  · exact (hW.cell (p := ⟨b, off + (j * 4 + 2), none⟩) hlt).trans (hc _ _ h3)
  · exact (hW.cell (p := ⟨b, off + (j * 4 + 3), none⟩) hlt).trans (hc _ _ h4)
theorem map_at {S : List PS} {k : Nat} {s : PS} (h : S[k]? = some s) : (S.map stP)[k]? = some (stP s) := by rw [List.getElem?_map, h]; rfl
theorem map_off {S : List PS} {k : Nat} (h : ¬ k < S.length) : (S.map stP)[k]? = none := by rw [List.getElem?_eq_none]; simpa using h

set_option maxHeartbeats 8000000 in
set_option maxRecDepth 100000 in
theorem rdiffer_any (S U : List PS) (n m b b' : Nat) (hb : b ≤ 40000) (hb' : b' ≤ 40000) (hoS : OkS S b) (hoU : OkS U b') (hn : S.length = n) (hm : U.length = m) (hS : n ≤ 100) (hU : m ≤ 100) (v0 x0 : Value) (w : World) (h : SAt w S v0) (hu : SAt w U x0) :
    Calls Tryz.prog 18 #[v0, x0] w fun e w' => ∃ v, e = .returned v ∧ Hid (w'.ownsRow w.heap.size 3 1 v (difR (S.map stP) (U.map stP)).length (ic (difR (S.map stP) (U.map stP))) ∧ Below w.heap.size w w') := by
  obtain ⟨i0, hi, hz0, hz1, hz2⟩ := info_parts (P := Tryz.prog) (e := 3) (z := .int .i64 0) (size := 1) (bytes := 8) (by kernel_rfl)
  obtain ⟨a, c, rfl, ha⟩ := stoAt hn h
  obtain ⟨a', c', rfl, ha'⟩ := stoAt hm hu
  have HA := Lib.hid ha
  have HA' := Lib.hid ha'
  have Hall := Lib.hid (difN_all (S.map stP) (U.map stP))
  rw [List.length_map, List.length_map, hn, hm] at Hall
  have Hn := Lib.hid hn
  have Hm := Lib.hid hm
  have HoS := Lib.hid hoS
  have HoU := Lib.hid hoU
  have Hbb : Hid (b ≤ 40000 ∧ b' ≤ 40000) := ⟨hb, hb'⟩
  clear h hu ha ha' hn hm hoS hoU hb hb'
  have H0 : Hid (Dg2 w (difN (S.map stP) (U.map stP) 0) (.slice none 0 0) w) := ⟨World.ownsRow_nil _ _ _ _, Below.refl _ _⟩
  go_enter Tryz.func18, Tryz.ntmps18
  go_wp2_with fail
  go_loopw [5, 6] (fun v i wr => ∃ k : Nat, k ≤ max n m ∧ i = .int .i64 k ∧ Hid (Dg2 w (difN (S.map stP) (U.map stP) k) v wr)) (fun _ i _ => max n m - (intOf i).toNat)
  case atStart => exact ⟨0, Nat.zero_le _, rfl, H0.out⟩
  case round =>
    clear H0
    obtain ⟨k, hk, rfl, HD⟩ := hrel
    obtain ⟨v, hv⟩ : ∃ v, u5 = v := ⟨_, rfl⟩
    rw [hv] at HD ⊢
    clear hv
    have hlen : Hid ((difN (S.map stP) (U.map stP) k).length ≤ 100) := by have := difN_len (S.map stP) (U.map stP) k; show _ ≤ _; omega
    by_cases h1 : k < n
    · by_cases h2 : k < m
      · have g1 : decide (n ≤ k) = false := decide_eq_false (by omega)
        have g2 : decide (m ≤ k) = false := decide_eq_false (by omega)
        obtain ⟨b1, o1, p, q, r, t, s, rfl, hs, hc, hd⟩ := HA.out k h1
        obtain ⟨b2, o2, p', q', r', t', s', rfl, hs', hc', hd'⟩ := HA'.out k h2
        have HC : Hid (∀ V, Below wr.heap.size wr V → (V.cell? ⟨b1, o1 + k * 4, none⟩ = some p ∧ V.cell? ⟨b1, o1 + k * 4 + 1, none⟩ = some q ∧ V.cell? ⟨b1, o1 + k * 4 + 2, none⟩ = some r ∧ V.cell? ⟨b1, o1 + k * 4 + 3, none⟩ = some t) ∧ (V.cell? ⟨b2, o2 + k * 4, none⟩ = some p' ∧ V.cell? ⟨b2, o2 + k * 4 + 1, none⟩ = some q' ∧ V.cell? ⟨b2, o2 + k * 4 + 2, none⟩ = some r' ∧ V.cell? ⟨b2, o2 + k * 4 + 3, none⟩ = some t')) := fun V hV => ⟨hc V (stepB HD.out.below hV), hc' V (stepB HD.out.below hV)⟩
        have HS := Lib.hid (fun V (hV : Below w.heap.size w V) => rsame_any s s' b b' Hbb.out.1 Hbb.out.2 (HoS.out s (List.mem_of_getElem? hs)) (HoU.out s' (List.mem_of_getElem? hs')) _ _ V (hd V hV) (hd' V hV))
        have Hs1 := Lib.hid (map_at hs)
        have Hs2 := Lib.hid (map_at hs')
        clear hs hs' hc hc' hd hd'
        by_cases hq : stP s = stP s'
        · have Hst : Hid (difN (S.map stP) (U.map stP) (k + 1) = difN (S.map stP) (U.map stP) k) := difN_no (by rw [Hs1.out, Hs2.out, hq])
          simp only [decide_eq_true hq] at HS
          clear hq
          have BD : Hid (Below wr.heap.size wr wr.drew) := stepD (Below.refl _ _)
          go_wp2_with fail
          go_region_held3 (fun w' => (w'.cell? ⟨b1, o1 + k * 4, none⟩ = some p ∧ w'.cell? ⟨b1, o1 + k * 4 + 1, none⟩ = some q ∧ w'.cell? ⟨b1, o1 + k * 4 + 2, none⟩ = some r ∧ w'.cell? ⟨b1, o1 + k * 4 + 3, none⟩ = some t) ∧ (w'.cell? ⟨b2, o2 + k * 4, none⟩ = some p' ∧ w'.cell? ⟨b2, o2 + k * 4 + 1, none⟩ = some q' ∧ w'.cell? ⟨b2, o2 + k * 4 + 2, none⟩ = some r' ∧ w'.cell? ⟨b2, o2 + k * 4 + 3, none⟩ = some t'))
            (first | (with_reducible exact HC.out _ BD.out) | (with_reducible exact HC.out _ (stepB BD.out h8.out)))
            (first | (go_at_call 45; (with_reducible refine (HS.out _ (stepB HD.out.below BD.out)).mono ?_); rintro e w8 ⟨rfl, h8⟩))
          all_goals
            have H8 : Hid (Dg2 w (difN (S.map stP) (U.map stP) (k + 1)) v w8) := by
              show Dg2 _ _ _ _
              rw [Hst.out]
              exact ⟨row_kept HD.out.row (stepB BD.out h8.out), stepB HD.out.below (stepB BD.out h8.out)⟩
            go_wp2_with fail
            go_roundw
            case rel => exact ⟨k + 1, by omega, by go_num, H8.out⟩
            case measure => simp [intOf]; omega
        · have Hst : Hid (difN (S.map stP) (U.map stP) (k + 1) = difN (S.map stP) (U.map stP) k ++ [(k : Int)]) := difN_yes (by rw [Hs1.out, Hs2.out]; exact fun e => hq (Option.some.inj e))
          simp only [decide_eq_false hq] at HS
          clear hq
          have BD : Hid (Below wr.heap.size wr wr.drew) := stepD (Below.refl _ _)
          go_wp2_with fail
          go_region_held3 (fun w' => (w'.cell? ⟨b1, o1 + k * 4, none⟩ = some p ∧ w'.cell? ⟨b1, o1 + k * 4 + 1, none⟩ = some q ∧ w'.cell? ⟨b1, o1 + k * 4 + 2, none⟩ = some r ∧ w'.cell? ⟨b1, o1 + k * 4 + 3, none⟩ = some t) ∧ (w'.cell? ⟨b2, o2 + k * 4, none⟩ = some p' ∧ w'.cell? ⟨b2, o2 + k * 4 + 1, none⟩ = some q' ∧ w'.cell? ⟨b2, o2 + k * 4 + 2, none⟩ = some r' ∧ w'.cell? ⟨b2, o2 + k * 4 + 3, none⟩ = some t'))
            (first | (with_reducible exact HC.out _ BD.out) | (with_reducible exact HC.out _ (stepB BD.out h8.out)))
            (first | (go_at_call 45; (with_reducible refine (HS.out _ (stepB HD.out.below BD.out)).mono ?_); rintro e w8 ⟨rfl, h8⟩))
          all_goals
            have H8 : Hid (Dg2 w (difN (S.map stP) (U.map stP) k) v w8) := ⟨row_kept HD.out.row (stepB BD.out h8.out), stepB HD.out.below (stepB BD.out h8.out)⟩
            go_wp2_with (at_builtin; refine wpList_append_own _ rfl _ _ 37 rfl w.heap.size 3 i0 (.int .i64 0) 1 8 Tryz.underlying37 hi hz0 hz1 hz2 rfl (by decide) _ _ _ rfl (H8.out.row.alloc _) ⟨w8.heap.size, 0, none⟩ 1 1 [.int .i64 k] rfl rfl (cell_one_new _ _ _) (by intro u hu; simp at hu; subst hu; rfl) (by unfold maxLen; have := hlen.out; omega) (by have := hlen.out; omega) (by show _ ≤ _; simp; exact Nat.le_trans H8.out.below.size (Nat.le_succ _)) ?_)
            intro v' w9 hown9 hgrow9 _
            have H9 : Hid (Dg2 w (difN (S.map stP) (U.map stP) (k + 1)) v' w9) := by
              show Dg2 _ _ _ _
              refine ⟨?_, (H8.out.below.alloc H8.out.below.size (.cells #[.int .i64 k] 3)).grown hgrow9 (by show _ ≤ _; simp; exact Nat.le_trans H8.out.below.size (Nat.le_succ _)) (fun j e => (H8.out.row.lt j e).1)⟩
              rw [Hst.out, List.length_append]
              simpa [ic] using hown9
            go_wp2_with fail
            go_roundw
            case rel => exact ⟨k + 1, by omega, by go_num, H9.out⟩
            case measure => simp [intOf]; omega
      · have Hst : Hid (difN (S.map stP) (U.map stP) (k + 1) = difN (S.map stP) (U.map stP) k ++ [(k : Int)]) := difN_yes (by
          rw [map_off (S := U) (by rw [Hm.out]; exact h2), List.getElem?_eq_getElem (l := S.map stP) (by rw [List.length_map, Hn.out]; exact h1)]
          exact fun e => by cases e)
        have H8 : Hid (Dg2 w (difN (S.map stP) (U.map stP) k) v wr.drew) := ⟨HD.out.row, HD.out.below.drew⟩
        have g1 : decide (n ≤ k) = false := decide_eq_false (by omega)
        have g2 : decide (m ≤ k) = true := decide_eq_true (by omega)
        go_wp2_with fail
        refine wp_region_held_drew (S := (fun _ => True)) (by kernel_rfl) trivial (fun hHeld => ?_)
        refine held_take 0 (some 19) ?_ rfl rfl (by kernel_rfl) (by kernel_rfl) (by kernel_rfl) (fun _ _ _ h => h) (by kernel_rfl) ?_ (by assumption) ?_
        rotate_left
        · intro w hSw; (try dsimp only at hSw); go_simp <;> (try with_reducible rfl)
        simp only [Act.put, List.setIfInBounds_toArray, List.set_cons_zero, List.set_cons_succ]
        refine held_take 1 (some 20) ?_ rfl rfl (by kernel_rfl) (by kernel_rfl) (by kernel_rfl) (fun _ _ _ h => h) (by kernel_rfl) ?_ (by assumption) ?_
        rotate_left
        · intro w hSw; (try dsimp only at hSw); go_simp <;> (try with_reducible rfl)
        simp only [Act.put, List.setIfInBounds_toArray, List.set_cons_zero, List.set_cons_succ]
        refine held_take 2 (some 21) ?_ rfl rfl (by kernel_rfl) (by kernel_rfl) (by kernel_rfl) (fun _ _ _ h => h) (by kernel_rfl) ?_ (by assumption) ?_
        rotate_left
        · intro w hSw; (try dsimp only at hSw); go_simp <;> (try with_reducible rfl)
        simp only [Act.put, List.setIfInBounds_toArray, List.set_cons_zero, List.set_cons_succ]
        refine held_take 3 (some 22) ?_ rfl rfl (by kernel_rfl) (by kernel_rfl) (by kernel_rfl) (fun _ _ _ h => h) (by kernel_rfl) ?_ (by assumption) ?_
        rotate_left
        · intro w hSw; (try dsimp only at hSw); go_simp <;> (try with_reducible rfl)
        simp only [Act.put, List.setIfInBounds_toArray, List.set_cons_zero, List.set_cons_succ]
        refine held_take 4 (some 23) ?_ rfl rfl (by kernel_rfl) (by kernel_rfl) (by kernel_rfl) (fun _ _ _ h => h) (by kernel_rfl) ?_ (by assumption) ?_
        rotate_left
        · intro w hSw; (try dsimp only at hSw); go_simp <;> (try with_reducible rfl)
        simp only [Act.put, List.setIfInBounds_toArray, List.set_cons_zero, List.set_cons_succ]
        refine held_take 5 (some 24) ?_ rfl rfl (by kernel_rfl) (by kernel_rfl) (by kernel_rfl) (fun _ _ _ h => h) (by kernel_rfl) ?_ (by assumption) ?_
        rotate_left
        · intro w hSw; (try dsimp only at hSw); go_simp <;> (try with_reducible rfl)
        simp only [Act.put, List.setIfInBounds_toArray, List.set_cons_zero, List.set_cons_succ]
        refine held_take 6 (some 25) ?_ rfl rfl (by kernel_rfl) (by kernel_rfl) (by kernel_rfl) (fun _ _ _ h => h) (by kernel_rfl) ?_ (by assumption) ?_
        rotate_left
        · intro w hSw; (try dsimp only at hSw); go_simp <;> (try with_reducible rfl)
        simp only [Act.put, List.setIfInBounds_toArray, List.set_cons_zero, List.set_cons_succ]
        refine held_take 7 (some 26) ?_ rfl rfl (by kernel_rfl) (by kernel_rfl) (by kernel_rfl) (fun _ _ _ h => h) (by kernel_rfl) ?_ (by assumption) ?_
        rotate_left
        · intro w hSw; (try dsimp only at hSw); go_simp <;> (try with_reducible rfl)
        simp only [Act.put, List.setIfInBounds_toArray, List.set_cons_zero, List.set_cons_succ]
        refine held_take 8 (some 27) ?_ rfl rfl (by kernel_rfl) (by kernel_rfl) (by kernel_rfl) (fun _ _ _ h => h) (by kernel_rfl) ?_ (by assumption) ?_
        rotate_left
        · intro w hSw; (try dsimp only at hSw); go_simp <;> (try with_reducible rfl)
        simp only [Act.put, List.setIfInBounds_toArray, List.set_cons_zero, List.set_cons_succ]
        refine held_take 9 (some 28) ?_ rfl rfl (by kernel_rfl) (by kernel_rfl) (by kernel_rfl) (fun _ _ _ h => h) (by kernel_rfl) ?_ (by assumption) ?_
        rotate_left
        · intro w hSw; (try dsimp only at hSw); go_simp <;> (try with_reducible rfl)
        simp only [Act.put, List.setIfInBounds_toArray, List.set_cons_zero, List.set_cons_succ]
        refine held_take 10 (some 29) ?_ rfl rfl (by kernel_rfl) (by kernel_rfl) (by kernel_rfl) (fun _ _ _ h => h) (by kernel_rfl) ?_ (by assumption) ?_
        rotate_left
        · intro w hSw; (try dsimp only at hSw); go_simp <;> (try with_reducible rfl)
        simp only [Act.put, List.setIfInBounds_toArray, List.set_cons_zero, List.set_cons_succ]
        refine held_skip 11 (some 30) rfl rfl (by kernel_rfl) (by kernel_rfl) (by kernel_rfl) (fun _ _ _ h => h) (by kernel_rfl) (by assumption) ?_
        simp only [Act.put, List.setIfInBounds_toArray, List.set_cons_zero, List.set_cons_succ]
        refine held_skip 12 (some 31) rfl rfl (by kernel_rfl) (by kernel_rfl) (by kernel_rfl) (fun _ _ _ h => h) (by kernel_rfl) (by assumption) ?_
        simp only [Act.put, List.setIfInBounds_toArray, List.set_cons_zero, List.set_cons_succ]
        refine held_skip 13 (some 32) rfl rfl (by kernel_rfl) (by kernel_rfl) (by kernel_rfl) (fun _ _ _ h => h) (by kernel_rfl) (by assumption) ?_
        simp only [Act.put, List.setIfInBounds_toArray, List.set_cons_zero, List.set_cons_succ]
        refine held_skip 14 (some 33) rfl rfl (by kernel_rfl) (by kernel_rfl) (by kernel_rfl) (fun _ _ _ h => h) (by kernel_rfl) (by assumption) ?_
        simp only [Act.put, List.setIfInBounds_toArray, List.set_cons_zero, List.set_cons_succ]
        refine held_skip 15 (some 34) rfl rfl (by kernel_rfl) (by kernel_rfl) (by kernel_rfl) (fun _ _ _ h => h) (by kernel_rfl) (by assumption) ?_
        simp only [Act.put, List.setIfInBounds_toArray, List.set_cons_zero, List.set_cons_succ]
        refine held_skip 16 (some 35) rfl rfl (by kernel_rfl) (by kernel_rfl) (by kernel_rfl) (fun _ _ _ h => h) (by kernel_rfl) (by assumption) ?_
        simp only [Act.put, List.setIfInBounds_toArray, List.set_cons_zero, List.set_cons_succ]
        refine held_skip 17 (some 36) rfl rfl (by kernel_rfl) (by kernel_rfl) (by kernel_rfl) (fun _ _ _ h => h) (by kernel_rfl) (by assumption) ?_
        simp only [Act.put, List.setIfInBounds_toArray, List.set_cons_zero, List.set_cons_succ]
        refine held_skip 18 (some 37) rfl rfl (by kernel_rfl) (by kernel_rfl) (by kernel_rfl) (fun _ _ _ h => h) (by kernel_rfl) (by assumption) ?_
        simp only [Act.put, List.setIfInBounds_toArray, List.set_cons_zero, List.set_cons_succ]
        refine held_skip 19 (some 38) rfl rfl (by kernel_rfl) (by kernel_rfl) (by kernel_rfl) (fun _ _ _ h => h) (by kernel_rfl) (by assumption) ?_
        simp only [Act.put, List.setIfInBounds_toArray, List.set_cons_zero, List.set_cons_succ]
        refine held_skip 20 (some 39) rfl rfl (by kernel_rfl) (by kernel_rfl) (by kernel_rfl) (fun _ _ _ h => h) (by kernel_rfl) (by assumption) ?_
        simp only [Act.put, List.setIfInBounds_toArray, List.set_cons_zero, List.set_cons_succ]
        refine held_take 21 (some 40) ?_ rfl rfl (by kernel_rfl) (by kernel_rfl) (by kernel_rfl) (fun _ _ _ h => h) (by kernel_rfl) ?_ (by assumption) ?_
        rotate_left
        · intro w hSw; (try dsimp only at hSw); go_simp <;> (try with_reducible rfl)
        simp only [Act.put, List.setIfInBounds_toArray, List.set_cons_zero, List.set_cons_succ]
        refine wpAnyH_done (by kernel_rfl) ?_ _
        go_wp2_with (at_builtin; refine wpList_append_own _ rfl _ _ 37 rfl w.heap.size 3 i0 (.int .i64 0) 1 8 Tryz.underlying37 hi hz0 hz1 hz2 rfl (by decide) _ _ _ rfl (H8.out.row.alloc _) ⟨wr.drew.heap.size, 0, none⟩ 1 1 [.int .i64 k] rfl rfl (cell_one_new _ _ _) (by intro u hu; simp at hu; subst hu; rfl) (by unfold maxLen; have := hlen.out; omega) (by have := hlen.out; omega) (by show _ ≤ _; simp; exact Nat.le_trans H8.out.below.size (Nat.le_succ _)) ?_)
        intro v' w9 hown9 hgrow9 _
        have H9 : Hid (Dg2 w (difN (S.map stP) (U.map stP) (k + 1)) v' w9) := by
          show Dg2 _ _ _ _
          refine ⟨?_, (H8.out.below.alloc H8.out.below.size (.cells #[.int .i64 k] 3)).grown hgrow9 (by show _ ≤ _; simp; exact Nat.le_trans H8.out.below.size (Nat.le_succ _)) (fun j e => (H8.out.row.lt j e).1)⟩
          rw [Hst.out, List.length_append]
          simpa [ic] using hown9
        go_wp2_with fail
        go_roundw
        case rel => exact ⟨k + 1, by omega, by go_num, H9.out⟩
        case measure => simp [intOf]; omega
    · by_cases h2 : k < m
      · have Hst : Hid (difN (S.map stP) (U.map stP) (k + 1) = difN (S.map stP) (U.map stP) k ++ [(k : Int)]) := difN_yes (by
          rw [map_off (S := S) (by rw [Hn.out]; exact h1), List.getElem?_eq_getElem (l := U.map stP) (by rw [List.length_map, Hm.out]; exact h2)]
          exact fun e => by cases e)
        have H8 : Hid (Dg2 w (difN (S.map stP) (U.map stP) k) v wr.drew) := ⟨HD.out.row, HD.out.below.drew⟩
        have g1 : decide (n ≤ k) = true := decide_eq_true (by omega)
        go_wp2_with fail
        refine wp_region_held_drew (S := (fun _ => True)) (by kernel_rfl) trivial (fun hHeld => ?_)
        refine held_take 0 (some 19) ?_ rfl rfl (by kernel_rfl) (by kernel_rfl) (by kernel_rfl) (fun _ _ _ h => h) (by kernel_rfl) ?_ (by assumption) ?_
        rotate_left
        · intro w hSw; (try dsimp only at hSw); go_simp <;> (try with_reducible rfl)
        simp only [Act.put, List.setIfInBounds_toArray, List.set_cons_zero, List.set_cons_succ]
        refine held_take 1 (some 20) ?_ rfl rfl (by kernel_rfl) (by kernel_rfl) (by kernel_rfl) (fun _ _ _ h => h) (by kernel_rfl) ?_ (by assumption) ?_
        rotate_left
        · intro w hSw; (try dsimp only at hSw); go_simp <;> (try with_reducible rfl)
        simp only [Act.put, List.setIfInBounds_toArray, List.set_cons_zero, List.set_cons_succ]
        refine held_take 2 (some 21) ?_ rfl rfl (by kernel_rfl) (by kernel_rfl) (by kernel_rfl) (fun _ _ _ h => h) (by kernel_rfl) ?_ (by assumption) ?_
        rotate_left
        · intro w hSw; (try dsimp only at hSw); go_simp <;> (try with_reducible rfl)
        simp only [Act.put, List.setIfInBounds_toArray, List.set_cons_zero, List.set_cons_succ]
        refine held_take 3 (some 22) ?_ rfl rfl (by kernel_rfl) (by kernel_rfl) (by kernel_rfl) (fun _ _ _ h => h) (by kernel_rfl) ?_ (by assumption) ?_
        rotate_left
        · intro w hSw; (try dsimp only at hSw); go_simp <;> (try with_reducible rfl)
        simp only [Act.put, List.setIfInBounds_toArray, List.set_cons_zero, List.set_cons_succ]
        refine held_take 4 (some 23) ?_ rfl rfl (by kernel_rfl) (by kernel_rfl) (by kernel_rfl) (fun _ _ _ h => h) (by kernel_rfl) ?_ (by assumption) ?_
        rotate_left
        · intro w hSw; (try dsimp only at hSw); go_simp <;> (try with_reducible rfl)
        simp only [Act.put, List.setIfInBounds_toArray, List.set_cons_zero, List.set_cons_succ]
        refine held_skip 5 (some 24) rfl rfl (by kernel_rfl) (by kernel_rfl) (by kernel_rfl) (fun _ _ _ h => h) (by kernel_rfl) (by assumption) ?_
        simp only [Act.put, List.setIfInBounds_toArray, List.set_cons_zero, List.set_cons_succ]
        refine held_skip 6 (some 25) rfl rfl (by kernel_rfl) (by kernel_rfl) (by kernel_rfl) (fun _ _ _ h => h) (by kernel_rfl) (by assumption) ?_
        simp only [Act.put, List.setIfInBounds_toArray, List.set_cons_zero, List.set_cons_succ]
        refine held_skip 7 (some 26) rfl rfl (by kernel_rfl) (by kernel_rfl) (by kernel_rfl) (fun _ _ _ h => h) (by kernel_rfl) (by assumption) ?_
        simp only [Act.put, List.setIfInBounds_toArray, List.set_cons_zero, List.set_cons_succ]
        refine held_skip 8 (some 27) rfl rfl (by kernel_rfl) (by kernel_rfl) (by kernel_rfl) (fun _ _ _ h => h) (by kernel_rfl) (by assumption) ?_
        simp only [Act.put, List.setIfInBounds_toArray, List.set_cons_zero, List.set_cons_succ]
        refine held_take 9 (some 28) ?_ rfl rfl (by kernel_rfl) (by kernel_rfl) (by kernel_rfl) (fun _ _ _ h => h) (by kernel_rfl) ?_ (by assumption) ?_
        rotate_left
        · intro w hSw; (try dsimp only at hSw); go_simp <;> (try with_reducible rfl)
        simp only [Act.put, List.setIfInBounds_toArray, List.set_cons_zero, List.set_cons_succ]
        refine held_take 10 (some 29) ?_ rfl rfl (by kernel_rfl) (by kernel_rfl) (by kernel_rfl) (fun _ _ _ h => h) (by kernel_rfl) ?_ (by assumption) ?_
        rotate_left
        · intro w hSw; (try dsimp only at hSw); go_simp <;> (try with_reducible rfl)
        simp only [Act.put, List.setIfInBounds_toArray, List.set_cons_zero, List.set_cons_succ]
        refine held_skip 11 (some 30) rfl rfl (by kernel_rfl) (by kernel_rfl) (by kernel_rfl) (fun _ _ _ h => h) (by kernel_rfl) (by assumption) ?_
        simp only [Act.put, List.setIfInBounds_toArray, List.set_cons_zero, List.set_cons_succ]
        refine held_skip 12 (some 31) rfl rfl (by kernel_rfl) (by kernel_rfl) (by kernel_rfl) (fun _ _ _ h => h) (by kernel_rfl) (by assumption) ?_
        simp only [Act.put, List.setIfInBounds_toArray, List.set_cons_zero, List.set_cons_succ]
        refine held_skip 13 (some 32) rfl rfl (by kernel_rfl) (by kernel_rfl) (by kernel_rfl) (fun _ _ _ h => h) (by kernel_rfl) (by assumption) ?_
        simp only [Act.put, List.setIfInBounds_toArray, List.set_cons_zero, List.set_cons_succ]
        refine held_skip 14 (some 33) rfl rfl (by kernel_rfl) (by kernel_rfl) (by kernel_rfl) (fun _ _ _ h => h) (by kernel_rfl) (by assumption) ?_
        simp only [Act.put, List.setIfInBounds_toArray, List.set_cons_zero, List.set_cons_succ]
        refine held_skip 15 (some 34) rfl rfl (by kernel_rfl) (by kernel_rfl) (by kernel_rfl) (fun _ _ _ h => h) (by kernel_rfl) (by assumption) ?_
        simp only [Act.put, List.setIfInBounds_toArray, List.set_cons_zero, List.set_cons_succ]
        refine held_skip 16 (some 35) rfl rfl (by kernel_rfl) (by kernel_rfl) (by kernel_rfl) (fun _ _ _ h => h) (by kernel_rfl) (by assumption) ?_
        simp only [Act.put, List.setIfInBounds_toArray, List.set_cons_zero, List.set_cons_succ]
        refine held_skip 17 (some 36) rfl rfl (by kernel_rfl) (by kernel_rfl) (by kernel_rfl) (fun _ _ _ h => h) (by kernel_rfl) (by assumption) ?_
        simp only [Act.put, List.setIfInBounds_toArray, List.set_cons_zero, List.set_cons_succ]
        refine held_skip 18 (some 37) rfl rfl (by kernel_rfl) (by kernel_rfl) (by kernel_rfl) (fun _ _ _ h => h) (by kernel_rfl) (by assumption) ?_
        simp only [Act.put, List.setIfInBounds_toArray, List.set_cons_zero, List.set_cons_succ]
        refine held_skip 19 (some 38) rfl rfl (by kernel_rfl) (by kernel_rfl) (by kernel_rfl) (fun _ _ _ h => h) (by kernel_rfl) (by assumption) ?_
        simp only [Act.put, List.setIfInBounds_toArray, List.set_cons_zero, List.set_cons_succ]
        refine held_skip 20 (some 39) rfl rfl (by kernel_rfl) (by kernel_rfl) (by kernel_rfl) (fun _ _ _ h => h) (by kernel_rfl) (by assumption) ?_
        simp only [Act.put, List.setIfInBounds_toArray, List.set_cons_zero, List.set_cons_succ]
        refine held_take 21 (some 40) ?_ rfl rfl (by kernel_rfl) (by kernel_rfl) (by kernel_rfl) (fun _ _ _ h => h) (by kernel_rfl) ?_ (by assumption) ?_
        rotate_left
        · intro w hSw; (try dsimp only at hSw); go_simp <;> (try with_reducible rfl)
        simp only [Act.put, List.setIfInBounds_toArray, List.set_cons_zero, List.set_cons_succ]
        refine wpAnyH_done (by kernel_rfl) ?_ _
        go_wp2_with (at_builtin; refine wpList_append_own _ rfl _ _ 37 rfl w.heap.size 3 i0 (.int .i64 0) 1 8 Tryz.underlying37 hi hz0 hz1 hz2 rfl (by decide) _ _ _ rfl (H8.out.row.alloc _) ⟨wr.drew.heap.size, 0, none⟩ 1 1 [.int .i64 k] rfl rfl (cell_one_new _ _ _) (by intro u hu; simp at hu; subst hu; rfl) (by unfold maxLen; have := hlen.out; omega) (by have := hlen.out; omega) (by show _ ≤ _; simp; exact Nat.le_trans H8.out.below.size (Nat.le_succ _)) ?_)
        intro v' w9 hown9 hgrow9 _
        have H9 : Hid (Dg2 w (difN (S.map stP) (U.map stP) (k + 1)) v' w9) := by
          show Dg2 _ _ _ _
          refine ⟨?_, (H8.out.below.alloc H8.out.below.size (.cells #[.int .i64 k] 3)).grown hgrow9 (by show _ ≤ _; simp; exact Nat.le_trans H8.out.below.size (Nat.le_succ _)) (fun j e => (H8.out.row.lt j e).1)⟩
          rw [Hst.out, List.length_append]
          simpa [ic] using hown9
        go_wp2_with fail
        go_roundw
        case rel => exact ⟨k + 1, by omega, by go_num, H9.out⟩
        case measure => simp [intOf]; omega
      · have hkM : k = max n m := by omega
        go_wp2_with fail
        go_ret
        have h9 := HD.out.row
        rw [hkM, Hall.out] at h9
        exact ⟨_, rfl, h9, HD.out.below⟩
theorem rsame7_any (S U : List PS) (n m b b' : Nat) (hb : b ≤ 40000) (hb' : b' ≤ 40000) (hoS : OkS S b) (hoU : OkS U b') (hn : S.length = n) (hm : U.length = m) (hS : n ≤ 100) (hU : m ≤ 100) (v0 x0 : Value) (w : World) (h : SAt w S v0) (hu : SAt w U x0) :
    Calls Tryz.prog 20 #[v0, x0] w fun e w' => e = .returned (.bool (decide (S.map stP = U.map stP))) ∧ Hid (Below w.heap.size w w') := by
  have HD := Lib.hid (rdiffer_any S U n m b b' hb hb' hoS hoU hn hm hS hU v0 x0 w h hu)
  obtain ⟨D, hD⟩ : ∃ D, decide (S.map stP = U.map stP) = D := ⟨_, rfl⟩
  obtain ⟨q, hq⟩ : ∃ q, (difR (S.map stP) (U.map stP)).length = q := ⟨_, rfl⟩
  have e2 : ((q : Int) == 0) = D := by
    rw [← hD, ← hq]
    by_cases e : S.map stP = U.map stP
    · rw [decide_eq_true e, difR_nil.2 e]; rfl
    · rw [decide_eq_false e]
      have : (difR (S.map stP) (U.map stP)).length ≠ 0 := fun e2 => e (difR_nil.1 (List.length_eq_zero_iff.1 e2))
      exact beq_eq_false_iff_ne.2 (by omega)
  rw [hq] at HD
  rw [hD]
  clear h hu hD hq
  go_enter Tryz.func20, Tryz.ntmps20
  go_wp2_with (first | (go_at_call 18; (with_reducible refine HD.out.mono ?_); rintro e w2 ⟨v2, rfl, h2⟩; obtain ⟨ra, rc, rfl, -, -⟩ := row_sl h2.out.1))
  go_ret
  exact ⟨by rw [← e2]; rfl, h2.out.2⟩
end Go.Proofs.YtcjfcomadcebnaaGreatDoor
