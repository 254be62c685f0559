/- The walk of the statement on closures. -/
import Derived.Test.YtadlgkakjaecdaaRf
namespace Go.Proofs.Ytadlgkakjaecdaa
open Go.RowKit Go.Maps Go.WideMaps Go.WideElems Go.ChangeShapes Go.WideShapes

structure On1 (w : World) (r b r3 b3 : Nat) (L M : List Pr) (D DM : DU) (W : World) : Prop where
  rel : RelAt r b L D W
  clo : RelAt r3 b3 M DM W
  below : Below w.heap.size w W
theorem On1.next {w : World} {r b r3 b3 : Nat} {L M : List Pr} {D DM : DU} {W W' : World} (h : On1 w r b r3 b3 L M D DM W) (hb : Below W.heap.size W W') : On1 w r b r3 b3 L M D DM W' :=
  ⟨h.rel.below hb, h.clo.below hb, h.below.trans (hb.mono h.below.size)⟩
theorem On1.drew {w : World} {r b r3 b3 : Nat} {L M : List Pr} {D DM : DU} {W : World} (h : On1 w r b r3 b3 L M D DM W) : On1 w r b r3 b3 L M D DM W.drew :=
  ⟨h.rel.drew, h.clo.drew, h.below.drew⟩
theorem same_len {L M : List Pr} (hL : L.Nodup) (hM : M.Nodup) (h : ∀ p, p ∈ L ↔ p ∈ M) : L.length = M.length :=
  Nat.le_antisymm (nodup_len hL (fun p hp => (h p).1 hp)) (nodup_len hM (fun p hp => (h p).2 hp))

set_option maxHeartbeats 8000000 in
set_option maxRecDepth 100000 in
theorem relOnce_any (a : Option Addr) (c : Nat) (l : List Pr) (hl : ∀ p ∈ l, FitP p) (w : World) (h : SlP w a l) :
    Calls Try.prog 6 #[.slice a l.length c] w fun e w' => e = .returned (.bool true) ∧ Hid (Below w.heap.size w w') := by
  have H := Lib.hid h
  obtain ⟨n, hn⟩ : ∃ n, l.length = n := ⟨_, rfl⟩
  have Hmade : Hid (n ≤ 60 → ∀ W, SlP W a l → Calls Try.prog 21 #[.slice a n c] W fun e w' => ∃ r b L D a' c', e = .returned (.tuple #[.pointer (some ⟨r, 0, none⟩), .slice a' (putAll l).length c']) ∧ Hid (RelAt r b L D w' ∧ (∀ q, q ∈ L ↔ q ∈ l) ∧ SlP w' a' (putAll l) ∧ Below W.heap.size W w' ∧ W.heap.size ≤ r ∧ W.heap.size ≤ b)) := fun h60 W hW => by
    have h1 := made_any a c l (by omega) hl W hW
    rw [hn] at h1
    exact h1
  rw [hn]
  have Hn := Lib.hid hn
  clear h hl hn
  have hfst : Hid (Calls Try.prog 9 #[] w fun e w' => e = .returned (.bool true) ∧ Hid (Below w.heap.size w w')) := first_any w
  by_cases h60 : n ≤ 60
  · have hN : decide ((60 : Int) < (n : Int)) = false := by simp; omega
    have HN := Lib.hid h60
    clear h60
    go_enter Try.func6, Try.ntmps6
    go_wp2_with (first
      | (go_at_call 9; refine hfst.out.mono ?_; rintro e w1 ⟨rfl, h1⟩; have H1 := Lib.hid (H.out.below h1.out))
      | (go_at_call 21; refine (Hmade.out HN.out w1 H1.out).mono ?_; rintro e w2 ⟨r, b, L, D, a2, c2, rfl, h2⟩
         have Hr2 := Lib.hid h2.out.1
         have Hb2 : Hid (Below w.heap.size w w2) := h1.out.trans (h2.out.2.2.2.1.mono h1.out.size)
         have HLn : Hid (L.length ≤ 60) := by
           have h3 := nodup_len h2.out.1.prs.once (fun p hp => (h2.out.2.1 p).1 hp)
           have h4 := Hn.out
           have h5 := HN.out
           show _ ≤ _
           omega
         clear h2 h1)
      | (go_at_call 22; with_reducible refine (closure_any r b L D (by have := HLn.out; omega) (tc_bound (by have := HLn.out; omega)) w2 Hr2.out).mono ?_; rintro e w3 ⟨r3, b3, M, DM, rfl, h3⟩
         have HO3 : Hid (On1 w r b r3 b3 L M D DM w3) := ⟨Hr2.out.below h3.out.2.2.1, h3.out.1, Hb2.out.trans (h3.out.2.2.1.mono Hb2.out.size)⟩
         have HM : Hid (∀ p, p ∈ M ↔ TC L p.1 p.2) := h3.out.2.1
         have HMn : Hid (M.length ≤ 10000) := tc_bound (by have := HLn.out; omega) M h3.out.1.prs.once (fun p hp => (h3.out.2.1 p).1 hp)
         clear h3)
      | (go_at_call 22; with_reducible refine (closure_any r3 b3 M DM HMn.out (fun M' hM' hs => tc_bound (L := L) (by have := HLn.out; omega) M' hM' (fun p hp => (TC.idem (fun a b => HM.out (a, b))).1 (hs p hp))) w3 HO3.out.clo).mono ?_; rintro e w4 ⟨r4, b4, M4, DM4, rfl, h4⟩
         have HO4 := Lib.hid (HO3.out.next h4.out.2.2.1)
         have Hr4 := Lib.hid h4.out.1
         have Hl4 : Hid (M4.length = M.length) := same_len h4.out.1.prs.once HO3.out.clo.prs.once (fun p => by rw [h4.out.2.1 p, TC.idem (fun a b => HM.out (a, b)), HM.out p])
         clear h4)
      | (go_at_call 35; with_reducible refine (len_any r4 b4 M4 DM4 w4 Hr4.out).mono ?_; rw [Hl4.out]; rintro e w5 ⟨rfl, rfl⟩)
      | (go_at_call 35; with_reducible refine (len_any r3 b3 M DM w4 HO4.out.clo).mono ?_; rintro e w5 ⟨rfl, rfl⟩)
      | (go_at_call 36; with_reducible refine (pairs_any r b L D (by have := HLn.out; omega) w4 HO4.out.rel).mono ?_; rintro e w6 ⟨v8, lp, rfl, h6⟩
         have HO6 := Lib.hid (HO4.out.next h6.out.2.2.2.2)
         obtain ⟨a8, c8, rfl, -, hs8⟩ := row_slP h6.out.2.2.2.1
         have Hs8 := Lib.hid hs8
         have HlpL : Hid (∀ p, p ∈ lp ↔ p ∈ L) := h6.out.2.1
         have Hlp : Hid (lp.length ≤ 60) := by have h3 := h6.out.2.2.1; have h4 := HLn.out; show _ ≤ _; omega
         clear h6 hs8)
      | go_in)
    have HfM : Hid (∀ p ∈ M, FitP p) := HO6.out.clo.prs.fit
    obtain ⟨n8, hn8⟩ : ∃ n8, lp.length = n8 := ⟨_, rfl⟩
    rw [hn8] at Hlp ⊢
    have Hn8 := Lib.hid hn8
    have hn860 := Hlp.out
    clear hn8
    try go_frame
    go_loopw [9] (fun i wr => ∃ k : Nat, i = .int .i64 k ∧ k ≤ n8 ∧ Hid (On1 w r b r3 b3 L M D DM wr ∧ SlP wr a8 lp)) (fun i _ => n8 - (intOf i).toNat)
    case atStart => exact ⟨0, rfl, Nat.zero_le _, HO6.out, Hs8.out⟩
    case round =>
      obtain ⟨k, rfl, hk, HR⟩ := hrel
      by_cases hlt : k < n8
      · have hkl : k < lp.length := by rw [Hn8.out]; exact hlt
        obtain ⟨b8, off8, rfl, p0, p1⟩ := HR.out.2.at hkl
        have hpm : lp.getD k (0, 0) ∈ lp := by
          rw [List.getD_eq_getElem?_getD, List.getElem?_eq_getElem hkl]
          exact List.getElem_mem hkl
        obtain ⟨pq, hpq⟩ : ∃ pq, lp.getD k (0, 0) = pq := ⟨_, rfl⟩
        obtain ⟨x1, x2⟩ := pq
        rw [hpq] at p0 p1 hpm
        simp only at p0 p1
        have hxM : (x1, x2) ∈ M := (HM.out _).2 (.one ((HlpL.out _).1 hpm))
        have hfx : FitP (x1, x2) := HfM.out _ hxM
        have hdec : decide ((x1, x2) ∈ M) = true := by simpa using hxM
        have Hhas := Lib.hid (fun W (hW : RelAt r3 b3 M DM W) => has_any r3 b3 M DM (x1, x2) hfx W hW)
        rw [hdec] at Hhas
        have Hpq := Lib.hid hpq
        clear hxM hfx hdec hpm hpq hkl
        go_wp2
        go_region_held3 (fun w' => w'.cell? ⟨b8, off8 + k * 2, none⟩ = some (.int .i64 x1) ∧ w'.cell? ⟨b8, off8 + k * 2 + 1, none⟩ = some (.int .i64 x2)) (go_keep)
          (first
            | (go_at_call 12; refine (Hhas.out _ HR.out.1.clo.drew).mono ?_; rintro e w7 ⟨rfl, h7⟩
               have HR7 : Hid (On1 w r b r3 b3 L M D DM w7 ∧ SlP w7 (some ⟨b8, off8, none⟩) lp) := ⟨HR.out.1.drew.next h7.out, SlP.below (W := wr.drew) HR.out.2 h7.out⟩
               clear p0 p1
               obtain ⟨b8', off8', e8, p0, p1⟩ := HR7.out.2.at (k := k) (by rw [Hn8.out]; exact hlt)
               cases e8
               rw [Hpq.out] at p0 p1
               simp only at p0 p1))
        try clear hHeld
        clear p0 p1
        go_wp2
        go_roundw
        case rel => exact ⟨k + 1, by go_num, by omega, HR7.out⟩
        case measure => simp [intOf]; omega
      · have hkn0 : n8 = k := by omega
        subst hkn0
        clear hk hlt
        go_wp2_with (first
          | (go_at_call 36; with_reducible refine (pairs_any r3 b3 M DM (by have := HMn.out; omega) wr HR.out.1.clo).mono ?_; rintro e w6' ⟨v10, lq, rfl, h6⟩
             have HO7 := Lib.hid (HR.out.1.next h6.out.2.2.2.2)
             have Hs8' := Lib.hid (HR.out.2.below h6.out.2.2.2.2)
             obtain ⟨a10, c10, rfl, -, hs10⟩ := row_slP h6.out.2.2.2.1
             have Hs10 := Lib.hid hs10
             have HlqM : Hid (∀ p, p ∈ lq ↔ p ∈ M) := h6.out.2.1
             have Hlq : Hid (lq.length ≤ 10000) := by have h3 := h6.out.2.2.1; have h4 := HMn.out; show _ ≤ _; omega
             clear h6 hs10)
          | go_in)
        obtain ⟨n10, hn10⟩ : ∃ n10, lq.length = n10 := ⟨_, rfl⟩
        rw [hn10] at Hlq ⊢
        have Hn10 := Lib.hid hn10
        have hn1060 := Hlq.out
        clear hn10
        try go_frame
        go_loopw [11, 12] (fun s i wr => ∃ (k : Nat) (sb : Bool), i = .int .i64 k ∧ s = .bool sb ∧ k ≤ n10 ∧ Hid (On1 w r b r3 b3 L M D DM wr ∧ SlP wr a8 lp ∧ SlP wr a10 lq ∧ (sb = true ↔ ∃ j, j < k ∧ (lq.getD j (0, 0)).1 = (lq.getD j (0, 0)).2))) (fun _ i _ => n10 - (intOf i).toNat)
        case atStart => exact ⟨0, false, rfl, rfl, Nat.zero_le _, HO7.out, Hs8'.out, Hs10.out, by simp⟩
        case round =>
          obtain ⟨k, sb, rfl, rfl, hk, HR⟩ := hrel
          by_cases hlt : k < n10
          · have hkl : k < lq.length := by rw [Hn10.out]; exact hlt
            obtain ⟨b0, off0, e0, r0, r1⟩ := HR.out.2.2.1.at hkl
            cases e0
            have hqm : lq.getD k (0, 0) ∈ lq := by
              rw [List.getD_eq_getElem?_getD, List.getElem?_eq_getElem hkl]
              exact List.getElem_mem hkl
            obtain ⟨qq, hqq⟩ : ∃ qq, lq.getD k (0, 0) = qq := ⟨_, rfl⟩
            obtain ⟨q1, q2⟩ := qq
            rw [hqq] at r0 r1 hqm
            simp only at r0 r1
            have Hq := Lib.hid hqq
            have Hqm := Lib.hid ((HlqM.out _).1 hqm)
            clear hqq hqm hkl
            cases sb
            · by_cases hqe : q1 = q2
              · have hqt : (q1 == q2) = true := by simpa using hqe
                have Hqe := Lib.hid hqe
                clear hqe
                go_wp2
                go_region_held3 (fun w' => w'.cell? ⟨b0, off0 + k * 2, none⟩ = some (.int .i64 q1) ∧ w'.cell? ⟨b0, off0 + k * 2 + 1, none⟩ = some (.int .i64 q2)) (go_keep) (fail)
                try clear hHeld
                clear r0 r1
                have HS : Hid (true = true ↔ ∃ j, j < k + 1 ∧ (lq.getD j (0, 0)).1 = (lq.getD j (0, 0)).2) := ⟨fun _ => ⟨k, by omega, by rw [Hq.out]; exact Hqe.out⟩, fun _ => rfl⟩
                go_wp2
                go_loopw [13] (fun i wr => ∃ k3 : Nat, i = .int .i64 k3 ∧ k3 ≤ n8 ∧ Hid (On1 w r b r3 b3 L M D DM wr ∧ SlP wr a8 lp ∧ SlP wr (some ⟨b0, off0, none⟩) lq)) (fun i _ => n8 - (intOf i).toNat)
                case atStart => exact ⟨0, rfl, Nat.zero_le _, HR.out.1.drew, HR.out.2.1, HR.out.2.2.1⟩
                case round =>
                  obtain ⟨k3, rfl, hk3, HR3⟩ := hrel
                  by_cases hlt3 : k3 < n8
                  · have hkl3 : k3 < lp.length := by rw [Hn8.out]; exact hlt3
                    obtain ⟨b8, off8, e8, p0, p1⟩ := HR3.out.2.1.at hkl3
                    obtain ⟨b1, off1, e0, r0, r1⟩ := HR3.out.2.2.at (k := k) (by rw [Hn10.out]; exact hlt)
                    cases e8
                    cases e0
                    have hpm : lp.getD k3 (0, 0) ∈ lp := by
                      rw [List.getD_eq_getElem?_getD, List.getElem?_eq_getElem hkl3]
                      exact List.getElem_mem hkl3
                    obtain ⟨pq, hpq⟩ : ∃ pq, lp.getD k3 (0, 0) = pq := ⟨_, rfl⟩
                    obtain ⟨x1, x2⟩ := pq
                    rw [hpq] at p0 p1 hpm
                    rw [Hq.out] at r0 r1
                    simp only at p0 p1 r0 r1
                    by_cases hx : x1 = q2
                    · have hxt : (x1 == q2) = true := by simpa using hx
                      have hpm2 : (q2, x2) ∈ L := by rw [← hx]; exact (HlpL.out _).1 hpm
                      have hxM : (q1, x2) ∈ M := (HM.out (q1, x2)).2 (TC.more (b := q2) ((HM.out (q1, q2)).1 Hqm.out) hpm2)
                      have hfx : FitP (q1, x2) := HfM.out _ hxM
                      have hdec : decide ((q1, x2) ∈ M) = true := by simpa using hxM
                      have Hhas := Lib.hid (fun W (hW : RelAt r3 b3 M DM W) => has_any r3 b3 M DM (q1, x2) hfx W hW)
                      rw [hdec] at Hhas
                      have Hpq := Lib.hid hpq
                      clear hx hpm2 hxM hfx hdec hpm hpq hkl3
                      go_wp2
                      go_region_held3 (fun w' => w'.cell? ⟨b8, off8 + k3 * 2, none⟩ = some (.int .i64 x1) ∧ w'.cell? ⟨b8, off8 + k3 * 2 + 1, none⟩ = some (.int .i64 x2) ∧ w'.cell? ⟨b0, off0 + k * 2, none⟩ = some (.int .i64 q1) ∧ w'.cell? ⟨b0, off0 + k * 2 + 1, none⟩ = some (.int .i64 q2)) (go_keep)
                        (first
                          | (go_at_call 12; refine (Hhas.out _ HR3.out.1.clo.drew).mono ?_; rintro e w7 ⟨rfl, h7⟩
                             have HR7 : Hid (On1 w r b r3 b3 L M D DM w7 ∧ SlP w7 (some ⟨b8, off8, none⟩) lp ∧ SlP w7 (some ⟨b0, off0, none⟩) lq) := ⟨HR3.out.1.drew.next h7.out, SlP.below (W := wr.drew) HR3.out.2.1 h7.out, SlP.below (W := wr.drew) HR3.out.2.2 h7.out⟩
                             clear p0 p1 r0 r1
                             obtain ⟨b8', off8', e8, p0, p1⟩ := HR7.out.2.1.at (k := k3) (by rw [Hn8.out]; exact hlt3)
                             obtain ⟨b0', off0', e0, r0, r1⟩ := HR7.out.2.2.at (k := k) (by rw [Hn10.out]; exact hlt)
                             cases e8
                             cases e0
                             rw [Hpq.out] at p0 p1
                             rw [Hq.out] at r0 r1
                             simp only at p0 p1 r0 r1))
                      try clear hHeld
                      clear p0 p1 r0 r1
                      go_wp2
                      go_roundw
                      case rel => exact ⟨k3 + 1, by go_num, by omega, HR7.out⟩
                      case measure => simp [intOf]; omega
                    · have hne : (x1 == q2) = false := by simpa using hx
                      clear hx hpm hpq hkl3
                      go_wp2
                      refine wp_region_held_drew (S := fun w' => w'.cell? ⟨b8, off8 + k3 * 2, none⟩ = some (.int .i64 x1) ∧ w'.cell? ⟨b8, off8 + k3 * 2 + 1, none⟩ = some (.int .i64 x2) ∧ w'.cell? ⟨b0, off0 + k * 2, none⟩ = some (.int .i64 q1) ∧ w'.cell? ⟨b0, off0 + k * 2 + 1, none⟩ = some (.int .i64 q2)) (by kernel_rfl) ⟨p0, p1, r0, r1⟩ (fun hHeld => ?_)
                      refine held_take 0 (some 96) ?_ rfl rfl (by kernel_rfl) (by kernel_rfl) (by kernel_rfl) (fun _ _ _ h => h) (by kernel_rfl) ?_ (by assumption) ?_
                      rotate_left
                      · intro w hSw; obtain ⟨s0, s1, s2, s3⟩ := hSw; go_simp <;> (try with_reducible rfl)
                      simp only [Act.put, List.setIfInBounds_toArray, List.set_cons_zero, List.set_cons_succ]
                      refine held_take 1 (some 97) ?_ rfl rfl (by kernel_rfl) (by kernel_rfl) (by kernel_rfl) (fun _ _ _ h => h) (by kernel_rfl) ?_ (by assumption) ?_
                      rotate_left
                      · intro w hSw; obtain ⟨s0, s1, s2, s3⟩ := hSw; go_simp <;> (try with_reducible rfl)
                      simp only [Act.put, List.setIfInBounds_toArray, List.set_cons_zero, List.set_cons_succ]
                      refine held_take 2 (some 98) ?_ rfl rfl (by kernel_rfl) (by kernel_rfl) (by kernel_rfl) (fun _ _ _ h => h) (by kernel_rfl) ?_ (by assumption) ?_
                      rotate_left
                      · intro w hSw; obtain ⟨s0, s1, s2, s3⟩ := hSw; go_simp <;> (try with_reducible rfl)
                      simp only [Act.put, List.setIfInBounds_toArray, List.set_cons_zero, List.set_cons_succ]
                      refine held_take 3 (some 99) ?_ rfl rfl (by kernel_rfl) (by kernel_rfl) (by kernel_rfl) (fun _ _ _ h => h) (by kernel_rfl) ?_ (by assumption) ?_
                      rotate_left
                      · intro w hSw; obtain ⟨s0, s1, s2, s3⟩ := hSw; go_simp <;> (try with_reducible rfl)
                      simp only [Act.put, List.setIfInBounds_toArray, List.set_cons_zero, List.set_cons_succ]
                      refine held_take 4 (some 100) ?_ rfl rfl (by kernel_rfl) (by kernel_rfl) (by kernel_rfl) (fun _ _ _ h => h) (by kernel_rfl) ?_ (by assumption) ?_
                      rotate_left
                      · intro w hSw; obtain ⟨s0, s1, s2, s3⟩ := hSw; go_simp <;> (try with_reducible rfl)
                      simp only [Act.put, List.setIfInBounds_toArray, List.set_cons_zero, List.set_cons_succ]
                      refine held_take 5 (some 101) ?_ rfl rfl (by kernel_rfl) (by kernel_rfl) (by kernel_rfl) (fun _ _ _ h => h) (by kernel_rfl) ?_ (by assumption) ?_
                      rotate_left
                      · intro w hSw; obtain ⟨s0, s1, s2, s3⟩ := hSw; go_simp <;> (try with_reducible rfl)
                      simp only [Act.put, List.setIfInBounds_toArray, List.set_cons_zero, List.set_cons_succ]
                      refine held_take 6 (some 102) ?_ rfl rfl (by kernel_rfl) (by kernel_rfl) (by kernel_rfl) (fun _ _ _ h => h) (by kernel_rfl) ?_ (by assumption) ?_
                      rotate_left
                      · intro w hSw; obtain ⟨s0, s1, s2, s3⟩ := hSw; go_simp <;> (try with_reducible rfl)
                      simp only [Act.put, List.setIfInBounds_toArray, List.set_cons_zero, List.set_cons_succ]
                      refine held_take 7 (some 103) ?_ rfl rfl (by kernel_rfl) (by kernel_rfl) (by kernel_rfl) (fun _ _ _ h => h) (by kernel_rfl) ?_ (by assumption) ?_
                      rotate_left
                      · intro w hSw; obtain ⟨s0, s1, s2, s3⟩ := hSw; go_simp <;> (try with_reducible rfl)
                      simp only [Act.put, List.setIfInBounds_toArray, List.set_cons_zero, List.set_cons_succ]
                      refine held_take 8 (some 104) ?_ rfl rfl (by kernel_rfl) (by kernel_rfl) (by kernel_rfl) (fun _ _ _ h => h) (by kernel_rfl) ?_ (by assumption) ?_
                      rotate_left
                      · intro w hSw; obtain ⟨s0, s1, s2, s3⟩ := hSw; go_simp <;> (try with_reducible rfl)
                      simp only [Act.put, List.setIfInBounds_toArray, List.set_cons_zero, List.set_cons_succ]
                      refine held_take 9 (some 105) ?_ rfl rfl (by kernel_rfl) (by kernel_rfl) (by kernel_rfl) (fun _ _ _ h => h) (by kernel_rfl) ?_ (by assumption) ?_
                      rotate_left
                      · intro w hSw; obtain ⟨s0, s1, s2, s3⟩ := hSw; go_simp <;> (try with_reducible rfl)
                      simp only [Act.put, List.setIfInBounds_toArray, List.set_cons_zero, List.set_cons_succ]
                      refine held_take 10 (some 106) ?_ rfl rfl (by kernel_rfl) (by kernel_rfl) (by kernel_rfl) (fun _ _ _ h => h) (by kernel_rfl) ?_ (by assumption) ?_
                      rotate_left
                      · intro w hSw; obtain ⟨s0, s1, s2, s3⟩ := hSw; go_simp <;> (try with_reducible rfl)
                      simp only [Act.put, List.setIfInBounds_toArray, List.set_cons_zero, List.set_cons_succ]
                      refine held_take 11 (some 107) ?_ rfl rfl (by kernel_rfl) (by kernel_rfl) (by kernel_rfl) (fun _ _ _ h => h) (by kernel_rfl) ?_ (by assumption) ?_
                      rotate_left
                      · intro w hSw; obtain ⟨s0, s1, s2, s3⟩ := hSw; go_simp <;> (try with_reducible rfl)
                      simp only [Act.put, List.setIfInBounds_toArray, List.set_cons_zero, List.set_cons_succ]
                      refine held_skip 12 (some 108) rfl rfl (by kernel_rfl) (by kernel_rfl) (by kernel_rfl) (fun _ _ _ h => h) (by kernel_rfl) (by assumption) ?_
                      simp only [Act.put, List.setIfInBounds_toArray, List.set_cons_zero, List.set_cons_succ]
                      refine held_skip 13 (some 109) rfl rfl (by kernel_rfl) (by kernel_rfl) (by kernel_rfl) (fun _ _ _ h => h) (by kernel_rfl) (by assumption) ?_
                      simp only [Act.put, List.setIfInBounds_toArray, List.set_cons_zero, List.set_cons_succ]
                      refine held_skip 14 (some 110) rfl rfl (by kernel_rfl) (by kernel_rfl) (by kernel_rfl) (fun _ _ _ h => h) (by kernel_rfl) (by assumption) ?_
                      simp only [Act.put, List.setIfInBounds_toArray, List.set_cons_zero, List.set_cons_succ]
                      refine held_skip 15 (some 111) rfl rfl (by kernel_rfl) (by kernel_rfl) (by kernel_rfl) (fun _ _ _ h => h) (by kernel_rfl) (by assumption) ?_
                      simp only [Act.put, List.setIfInBounds_toArray, List.set_cons_zero, List.set_cons_succ]
                      refine held_skip 16 (some 112) rfl rfl (by kernel_rfl) (by kernel_rfl) (by kernel_rfl) (fun _ _ _ h => h) (by kernel_rfl) (by assumption) ?_
                      simp only [Act.put, List.setIfInBounds_toArray, List.set_cons_zero, List.set_cons_succ]
                      refine held_skip 17 (some 113) rfl rfl (by kernel_rfl) (by kernel_rfl) (by kernel_rfl) (fun _ _ _ h => h) (by kernel_rfl) (by assumption) ?_
                      simp only [Act.put, List.setIfInBounds_toArray, List.set_cons_zero, List.set_cons_succ]
                      refine held_skip 18 (some 114) rfl rfl (by kernel_rfl) (by kernel_rfl) (by kernel_rfl) (fun _ _ _ h => h) (by kernel_rfl) (by assumption) ?_
                      simp only [Act.put, List.setIfInBounds_toArray, List.set_cons_zero, List.set_cons_succ]
                      refine held_skip 19 (some 115) rfl rfl (by kernel_rfl) (by kernel_rfl) (by kernel_rfl) (fun _ _ _ h => h) (by kernel_rfl) (by assumption) ?_
                      simp only [Act.put, List.setIfInBounds_toArray, List.set_cons_zero, List.set_cons_succ]
                      refine held_skip 20 (some 116) rfl rfl (by kernel_rfl) (by kernel_rfl) (by kernel_rfl) (fun _ _ _ h => h) (by kernel_rfl) (by assumption) ?_
                      simp only [Act.put, List.setIfInBounds_toArray, List.set_cons_zero, List.set_cons_succ]
                      refine held_skip 21 (some 117) rfl rfl (by kernel_rfl) (by kernel_rfl) (by kernel_rfl) (fun _ _ _ h => h) (by kernel_rfl) (by assumption) ?_
                      simp only [Act.put, List.setIfInBounds_toArray, List.set_cons_zero, List.set_cons_succ]
                      refine held_skip 22 (some 118) rfl rfl (by kernel_rfl) (by kernel_rfl) (by kernel_rfl) (fun _ _ _ h => h) (by kernel_rfl) (by assumption) ?_
                      simp only [Act.put, List.setIfInBounds_toArray, List.set_cons_zero, List.set_cons_succ]
                      refine held_skip 23 (some 119) rfl rfl (by kernel_rfl) (by kernel_rfl) (by kernel_rfl) (fun _ _ _ h => h) (by kernel_rfl) (by assumption) ?_
                      simp only [Act.put, List.setIfInBounds_toArray, List.set_cons_zero, List.set_cons_succ]
                      refine held_skip 24 (some 120) rfl rfl (by kernel_rfl) (by kernel_rfl) (by kernel_rfl) (fun _ _ _ h => h) (by kernel_rfl) (by assumption) ?_
                      simp only [Act.put, List.setIfInBounds_toArray, List.set_cons_zero, List.set_cons_succ]
                      refine held_take 25 (some 121) ?_ rfl rfl (by kernel_rfl) (by kernel_rfl) (by kernel_rfl) (fun _ _ _ h => h) (by kernel_rfl) ?_ (by assumption) ?_
                      rotate_left
                      · intro w hSw; obtain ⟨s0, s1, s2, s3⟩ := hSw; go_simp <;> (try with_reducible rfl)
                      simp only [Act.put, List.setIfInBounds_toArray, List.set_cons_zero, List.set_cons_succ]
                      refine wpAnyH_done (by kernel_rfl) ?_ _
                      clear hHeld
                      clear p0 p1 r0 r1
                      go_wp2
                      go_roundw
                      case rel => exact ⟨k3 + 1, by go_num, by omega, HR3.out.1.drew, HR3.out.2.1, HR3.out.2.2⟩
                      case measure => simp [intOf]; omega
                  · have hkn3 : n8 = k3 := by omega
                    subst hkn3
                    clear hk3 hlt3
                    go_wp2
                    go_roundw
                    case rel => exact ⟨k + 1, true, by go_num, rfl, by omega, HR3.out.1, HR3.out.2.1, HR3.out.2.2, by first | exact HS.out | exact ⟨fun _ => HS.out.1 trivial, fun _ => rfl⟩⟩
                    case measure => simp [intOf]; omega
              · have hqn : (q1 == q2) = false := by simpa using hqe
                have Hne := Lib.hid hqe
                clear hqe
                go_wp2
                go_region_held3 (fun w' => w'.cell? ⟨b0, off0 + k * 2, none⟩ = some (.int .i64 q1) ∧ w'.cell? ⟨b0, off0 + k * 2 + 1, none⟩ = some (.int .i64 q2)) (go_keep) (fail)
                try clear hHeld
                clear r0 r1
                have HS : Hid (false = true ↔ ∃ j, j < k + 1 ∧ (lq.getD j (0, 0)).1 = (lq.getD j (0, 0)).2) := ⟨fun h => Bool.noConfusion h, fun ⟨j, hj, e⟩ => by
                    by_cases ejk : j = k
                    · subst ejk; rw [Hq.out] at e; exact absurd e Hne.out
                    · exact HR.out.2.2.2.2 ⟨j, by omega, e⟩⟩
                go_wp2
                go_loopw [13] (fun i wr => ∃ k3 : Nat, i = .int .i64 k3 ∧ k3 ≤ n8 ∧ Hid (On1 w r b r3 b3 L M D DM wr ∧ SlP wr a8 lp ∧ SlP wr (some ⟨b0, off0, none⟩) lq)) (fun i _ => n8 - (intOf i).toNat)
                case atStart => exact ⟨0, rfl, Nat.zero_le _, HR.out.1.drew, HR.out.2.1, HR.out.2.2.1⟩
                case round =>
                  obtain ⟨k3, rfl, hk3, HR3⟩ := hrel
                  by_cases hlt3 : k3 < n8
                  · have hkl3 : k3 < lp.length := by rw [Hn8.out]; exact hlt3
                    obtain ⟨b8, off8, e8, p0, p1⟩ := HR3.out.2.1.at hkl3
                    obtain ⟨b1, off1, e0, r0, r1⟩ := HR3.out.2.2.at (k := k) (by rw [Hn10.out]; exact hlt)
                    cases e8
                    cases e0
                    have hpm : lp.getD k3 (0, 0) ∈ lp := by
                      rw [List.getD_eq_getElem?_getD, List.getElem?_eq_getElem hkl3]
                      exact List.getElem_mem hkl3
                    obtain ⟨pq, hpq⟩ : ∃ pq, lp.getD k3 (0, 0) = pq := ⟨_, rfl⟩
                    obtain ⟨x1, x2⟩ := pq
                    rw [hpq] at p0 p1 hpm
                    rw [Hq.out] at r0 r1
                    simp only at p0 p1 r0 r1
                    by_cases hx : x1 = q2
                    · have hxt : (x1 == q2) = true := by simpa using hx
                      have hpm2 : (q2, x2) ∈ L := by rw [← hx]; exact (HlpL.out _).1 hpm
                      have hxM : (q1, x2) ∈ M := (HM.out (q1, x2)).2 (TC.more (b := q2) ((HM.out (q1, q2)).1 Hqm.out) hpm2)
                      have hfx : FitP (q1, x2) := HfM.out _ hxM
                      have hdec : decide ((q1, x2) ∈ M) = true := by simpa using hxM
                      have Hhas := Lib.hid (fun W (hW : RelAt r3 b3 M DM W) => has_any r3 b3 M DM (q1, x2) hfx W hW)
                      rw [hdec] at Hhas
                      have Hpq := Lib.hid hpq
                      clear hx hpm2 hxM hfx hdec hpm hpq hkl3
                      go_wp2
                      go_region_held3 (fun w' => w'.cell? ⟨b8, off8 + k3 * 2, none⟩ = some (.int .i64 x1) ∧ w'.cell? ⟨b8, off8 + k3 * 2 + 1, none⟩ = some (.int .i64 x2) ∧ w'.cell? ⟨b0, off0 + k * 2, none⟩ = some (.int .i64 q1) ∧ w'.cell? ⟨b0, off0 + k * 2 + 1, none⟩ = some (.int .i64 q2)) (go_keep)
                        (first
                          | (go_at_call 12; refine (Hhas.out _ HR3.out.1.clo.drew).mono ?_; rintro e w7 ⟨rfl, h7⟩
                             have HR7 : Hid (On1 w r b r3 b3 L M D DM w7 ∧ SlP w7 (some ⟨b8, off8, none⟩) lp ∧ SlP w7 (some ⟨b0, off0, none⟩) lq) := ⟨HR3.out.1.drew.next h7.out, SlP.below (W := wr.drew) HR3.out.2.1 h7.out, SlP.below (W := wr.drew) HR3.out.2.2 h7.out⟩
                             clear p0 p1 r0 r1
                             obtain ⟨b8', off8', e8, p0, p1⟩ := HR7.out.2.1.at (k := k3) (by rw [Hn8.out]; exact hlt3)
                             obtain ⟨b0', off0', e0, r0, r1⟩ := HR7.out.2.2.at (k := k) (by rw [Hn10.out]; exact hlt)
                             cases e8
                             cases e0
                             rw [Hpq.out] at p0 p1
                             rw [Hq.out] at r0 r1
                             simp only at p0 p1 r0 r1))
                      try clear hHeld
                      clear p0 p1 r0 r1
                      go_wp2
                      go_roundw
                      case rel => exact ⟨k3 + 1, by go_num, by omega, HR7.out⟩
                      case measure => simp [intOf]; omega
                    · have hne : (x1 == q2) = false := by simpa using hx
                      clear hx hpm hpq hkl3
                      go_wp2
                      refine wp_region_held_drew (S := fun w' => w'.cell? ⟨b8, off8 + k3 * 2, none⟩ = some (.int .i64 x1) ∧ w'.cell? ⟨b8, off8 + k3 * 2 + 1, none⟩ = some (.int .i64 x2) ∧ w'.cell? ⟨b0, off0 + k * 2, none⟩ = some (.int .i64 q1) ∧ w'.cell? ⟨b0, off0 + k * 2 + 1, none⟩ = some (.int .i64 q2)) (by kernel_rfl) ⟨p0, p1, r0, r1⟩ (fun hHeld => ?_)
                      refine held_take 0 (some 96) ?_ rfl rfl (by kernel_rfl) (by kernel_rfl) (by kernel_rfl) (fun _ _ _ h => h) (by kernel_rfl) ?_ (by assumption) ?_
                      rotate_left
                      · intro w hSw; obtain ⟨s0, s1, s2, s3⟩ := hSw; go_simp <;> (try with_reducible rfl)
                      simp only [Act.put, List.setIfInBounds_toArray, List.set_cons_zero, List.set_cons_succ]
                      refine held_take 1 (some 97) ?_ rfl rfl (by kernel_rfl) (by kernel_rfl) (by kernel_rfl) (fun _ _ _ h => h) (by kernel_rfl) ?_ (by assumption) ?_
                      rotate_left
                      · intro w hSw; obtain ⟨s0, s1, s2, s3⟩ := hSw; go_simp <;> (try with_reducible rfl)
                      simp only [Act.put, List.setIfInBounds_toArray, List.set_cons_zero, List.set_cons_succ]
                      refine held_take 2 (some 98) ?_ rfl rfl (by kernel_rfl) (by kernel_rfl) (by kernel_rfl) (fun _ _ _ h => h) (by kernel_rfl) ?_ (by assumption) ?_
                      rotate_left
                      · intro w hSw; obtain ⟨s0, s1, s2, s3⟩ := hSw; go_simp <;> (try with_reducible rfl)
                      simp only [Act.put, List.setIfInBounds_toArray, List.set_cons_zero, List.set_cons_succ]
                      refine held_take 3 (some 99) ?_ rfl rfl (by kernel_rfl) (by kernel_rfl) (by kernel_rfl) (fun _ _ _ h => h) (by kernel_rfl) ?_ (by assumption) ?_
                      rotate_left
                      · intro w hSw; obtain ⟨s0, s1, s2, s3⟩ := hSw; go_simp <;> (try with_reducible rfl)
                      simp only [Act.put, List.setIfInBounds_toArray, List.set_cons_zero, List.set_cons_succ]
                      refine held_take 4 (some 100) ?_ rfl rfl (by kernel_rfl) (by kernel_rfl) (by kernel_rfl) (fun _ _ _ h => h) (by kernel_rfl) ?_ (by assumption) ?_
                      rotate_left
                      · intro w hSw; obtain ⟨s0, s1, s2, s3⟩ := hSw; go_simp <;> (try with_reducible rfl)
                      simp only [Act.put, List.setIfInBounds_toArray, List.set_cons_zero, List.set_cons_succ]
                      refine held_take 5 (some 101) ?_ rfl rfl (by kernel_rfl) (by kernel_rfl) (by kernel_rfl) (fun _ _ _ h => h) (by kernel_rfl) ?_ (by assumption) ?_
                      rotate_left
                      · intro w hSw; obtain ⟨s0, s1, s2, s3⟩ := hSw; go_simp <;> (try with_reducible rfl)
                      simp only [Act.put, List.setIfInBounds_toArray, List.set_cons_zero, List.set_cons_succ]
                      refine held_take 6 (some 102) ?_ rfl rfl (by kernel_rfl) (by kernel_rfl) (by kernel_rfl) (fun _ _ _ h => h) (by kernel_rfl) ?_ (by assumption) ?_
                      rotate_left
                      · intro w hSw; obtain ⟨s0, s1, s2, s3⟩ := hSw; go_simp <;> (try with_reducible rfl)
                      simp only [Act.put, List.setIfInBounds_toArray, List.set_cons_zero, List.set_cons_succ]
                      refine held_take 7 (some 103) ?_ rfl rfl (by kernel_rfl) (by kernel_rfl) (by kernel_rfl) (fun _ _ _ h => h) (by kernel_rfl) ?_ (by assumption) ?_
                      rotate_left
                      · intro w hSw; obtain ⟨s0, s1, s2, s3⟩ := hSw; go_simp <;> (try with_reducible rfl)
                      simp only [Act.put, List.setIfInBounds_toArray, List.set_cons_zero, List.set_cons_succ]
                      refine held_take 8 (some 104) ?_ rfl rfl (by kernel_rfl) (by kernel_rfl) (by kernel_rfl) (fun _ _ _ h => h) (by kernel_rfl) ?_ (by assumption) ?_
                      rotate_left
                      · intro w hSw; obtain ⟨s0, s1, s2, s3⟩ := hSw; go_simp <;> (try with_reducible rfl)
                      simp only [Act.put, List.setIfInBounds_toArray, List.set_cons_zero, List.set_cons_succ]
                      refine held_take 9 (some 105) ?_ rfl rfl (by kernel_rfl) (by kernel_rfl) (by kernel_rfl) (fun _ _ _ h => h) (by kernel_rfl) ?_ (by assumption) ?_
                      rotate_left
                      · intro w hSw; obtain ⟨s0, s1, s2, s3⟩ := hSw; go_simp <;> (try with_reducible rfl)
                      simp only [Act.put, List.setIfInBounds_toArray, List.set_cons_zero, List.set_cons_succ]
                      refine held_take 10 (some 106) ?_ rfl rfl (by kernel_rfl) (by kernel_rfl) (by kernel_rfl) (fun _ _ _ h => h) (by kernel_rfl) ?_ (by assumption) ?_
                      rotate_left
                      · intro w hSw; obtain ⟨s0, s1, s2, s3⟩ := hSw; go_simp <;> (try with_reducible rfl)
                      simp only [Act.put, List.setIfInBounds_toArray, List.set_cons_zero, List.set_cons_succ]
                      refine held_take 11 (some 107) ?_ rfl rfl (by kernel_rfl) (by kernel_rfl) (by kernel_rfl) (fun _ _ _ h => h) (by kernel_rfl) ?_ (by assumption) ?_
                      rotate_left
                      · intro w hSw; obtain ⟨s0, s1, s2, s3⟩ := hSw; go_simp <;> (try with_reducible rfl)
                      simp only [Act.put, List.setIfInBounds_toArray, List.set_cons_zero, List.set_cons_succ]
                      refine held_skip 12 (some 108) rfl rfl (by kernel_rfl) (by kernel_rfl) (by kernel_rfl) (fun _ _ _ h => h) (by kernel_rfl) (by assumption) ?_
                      simp only [Act.put, List.setIfInBounds_toArray, List.set_cons_zero, List.set_cons_succ]
                      refine held_skip 13 (some 109) rfl rfl (by kernel_rfl) (by kernel_rfl) (by kernel_rfl) (fun _ _ _ h => h) (by kernel_rfl) (by assumption) ?_
                      simp only [Act.put, List.setIfInBounds_toArray, List.set_cons_zero, List.set_cons_succ]
                      refine held_skip 14 (some 110) rfl rfl (by kernel_rfl) (by kernel_rfl) (by kernel_rfl) (fun _ _ _ h => h) (by kernel_rfl) (by assumption) ?_
                      simp only [Act.put, List.setIfInBounds_toArray, List.set_cons_zero, List.set_cons_succ]
                      refine held_skip 15 (some 111) rfl rfl (by kernel_rfl) (by kernel_rfl) (by kernel_rfl) (fun _ _ _ h => h) (by kernel_rfl) (by assumption) ?_
                      simp only [Act.put, List.setIfInBounds_toArray, List.set_cons_zero, List.set_cons_succ]
                      refine held_skip 16 (some 112) rfl rfl (by kernel_rfl) (by kernel_rfl) (by kernel_rfl) (fun _ _ _ h => h) (by kernel_rfl) (by assumption) ?_
                      simp only [Act.put, List.setIfInBounds_toArray, List.set_cons_zero, List.set_cons_succ]
                      refine held_skip 17 (some 113) rfl rfl (by kernel_rfl) (by kernel_rfl) (by kernel_rfl) (fun _ _ _ h => h) (by kernel_rfl) (by assumption) ?_
                      simp only [Act.put, List.setIfInBounds_toArray, List.set_cons_zero, List.set_cons_succ]
                      refine held_skip 18 (some 114) rfl rfl (by kernel_rfl) (by kernel_rfl) (by kernel_rfl) (fun _ _ _ h => h) (by kernel_rfl) (by assumption) ?_
                      simp only [Act.put, List.setIfInBounds_toArray, List.set_cons_zero, List.set_cons_succ]
                      refine held_skip 19 (some 115) rfl rfl (by kernel_rfl) (by kernel_rfl) (by kernel_rfl) (fun _ _ _ h => h) (by kernel_rfl) (by assumption) ?_
                      simp only [Act.put, List.setIfInBounds_toArray, List.set_cons_zero, List.set_cons_succ]
                      refine held_skip 20 (some 116) rfl rfl (by kernel_rfl) (by kernel_rfl) (by kernel_rfl) (fun _ _ _ h => h) (by kernel_rfl) (by assumption) ?_
                      simp only [Act.put, List.setIfInBounds_toArray, List.set_cons_zero, List.set_cons_succ]
                      refine held_skip 21 (some 117) rfl rfl (by kernel_rfl) (by kernel_rfl) (by kernel_rfl) (fun _ _ _ h => h) (by kernel_rfl) (by assumption) ?_
                      simp only [Act.put, List.setIfInBounds_toArray, List.set_cons_zero, List.set_cons_succ]
                      refine held_skip 22 (some 118) rfl rfl (by kernel_rfl) (by kernel_rfl) (by kernel_rfl) (fun _ _ _ h => h) (by kernel_rfl) (by assumption) ?_
                      simp only [Act.put, List.setIfInBounds_toArray, List.set_cons_zero, List.set_cons_succ]
                      refine held_skip 23 (some 119) rfl rfl (by kernel_rfl) (by kernel_rfl) (by kernel_rfl) (fun _ _ _ h => h) (by kernel_rfl) (by assumption) ?_
                      simp only [Act.put, List.setIfInBounds_toArray, List.set_cons_zero, List.set_cons_succ]
                      refine held_skip 24 (some 120) rfl rfl (by kernel_rfl) (by kernel_rfl) (by kernel_rfl) (fun _ _ _ h => h) (by kernel_rfl) (by assumption) ?_
                      simp only [Act.put, List.setIfInBounds_toArray, List.set_cons_zero, List.set_cons_succ]
                      refine held_take 25 (some 121) ?_ rfl rfl (by kernel_rfl) (by kernel_rfl) (by kernel_rfl) (fun _ _ _ h => h) (by kernel_rfl) ?_ (by assumption) ?_
                      rotate_left
                      · intro w hSw; obtain ⟨s0, s1, s2, s3⟩ := hSw; go_simp <;> (try with_reducible rfl)
                      simp only [Act.put, List.setIfInBounds_toArray, List.set_cons_zero, List.set_cons_succ]
                      refine wpAnyH_done (by kernel_rfl) ?_ _
                      clear hHeld
                      clear p0 p1 r0 r1
                      go_wp2
                      go_roundw
                      case rel => exact ⟨k3 + 1, by go_num, by omega, HR3.out.1.drew, HR3.out.2.1, HR3.out.2.2⟩
                      case measure => simp [intOf]; omega
                  · have hkn3 : n8 = k3 := by omega
                    subst hkn3
                    clear hk3 hlt3
                    go_wp2
                    go_roundw
                    case rel => exact ⟨k + 1, false, by go_num, rfl, by omega, HR3.out.1, HR3.out.2.1, HR3.out.2.2, by first | exact HS.out | exact ⟨fun _ => HS.out.1 trivial, fun _ => rfl⟩⟩
                    case measure => simp [intOf]; omega
            · go_wp2
              refine wp_region_held_drew (S := fun _ => True) (by kernel_rfl) trivial (fun hHeld => ?_)
              refine held_take 0 (some 76) ?_ rfl rfl (by kernel_rfl) (by kernel_rfl) (by kernel_rfl) (fun _ _ _ h => h) (by kernel_rfl) ?_ (by assumption) ?_
              rotate_left
              · intro w hSw; go_simp <;> (try with_reducible rfl)
              simp only [Act.put, List.setIfInBounds_toArray, List.set_cons_zero, List.set_cons_succ]
              refine held_take 1 (some 77) ?_ rfl rfl (by kernel_rfl) (by kernel_rfl) (by kernel_rfl) (fun _ _ _ h => h) (by kernel_rfl) ?_ (by assumption) ?_
              rotate_left
              · intro w hSw; go_simp <;> (try with_reducible rfl)
              simp only [Act.put, List.setIfInBounds_toArray, List.set_cons_zero, List.set_cons_succ]
              refine held_skip 2 (some 78) rfl rfl (by kernel_rfl) (by kernel_rfl) (by kernel_rfl) (fun _ _ _ h => h) (by kernel_rfl) (by assumption) ?_
              simp only [Act.put, List.setIfInBounds_toArray, List.set_cons_zero, List.set_cons_succ]
              refine held_skip 3 (some 79) rfl rfl (by kernel_rfl) (by kernel_rfl) (by kernel_rfl) (fun _ _ _ h => h) (by kernel_rfl) (by assumption) ?_
              simp only [Act.put, List.setIfInBounds_toArray, List.set_cons_zero, List.set_cons_succ]
              refine held_skip 4 (some 80) rfl rfl (by kernel_rfl) (by kernel_rfl) (by kernel_rfl) (fun _ _ _ h => h) (by kernel_rfl) (by assumption) ?_
              simp only [Act.put, List.setIfInBounds_toArray, List.set_cons_zero, List.set_cons_succ]
              refine held_skip 5 (some 81) rfl rfl (by kernel_rfl) (by kernel_rfl) (by kernel_rfl) (fun _ _ _ h => h) (by kernel_rfl) (by assumption) ?_
              simp only [Act.put, List.setIfInBounds_toArray, List.set_cons_zero, List.set_cons_succ]
              refine held_skip 6 (some 82) rfl rfl (by kernel_rfl) (by kernel_rfl) (by kernel_rfl) (fun _ _ _ h => h) (by kernel_rfl) (by assumption) ?_
              simp only [Act.put, List.setIfInBounds_toArray, List.set_cons_zero, List.set_cons_succ]
              refine held_skip 7 (some 83) rfl rfl (by kernel_rfl) (by kernel_rfl) (by kernel_rfl) (fun _ _ _ h => h) (by kernel_rfl) (by assumption) ?_
              simp only [Act.put, List.setIfInBounds_toArray, List.set_cons_zero, List.set_cons_succ]
              refine held_skip 8 (some 84) rfl rfl (by kernel_rfl) (by kernel_rfl) (by kernel_rfl) (fun _ _ _ h => h) (by kernel_rfl) (by assumption) ?_
              simp only [Act.put, List.setIfInBounds_toArray, List.set_cons_zero, List.set_cons_succ]
              refine held_skip 9 (some 85) rfl rfl (by kernel_rfl) (by kernel_rfl) (by kernel_rfl) (fun _ _ _ h => h) (by kernel_rfl) (by assumption) ?_
              simp only [Act.put, List.setIfInBounds_toArray, List.set_cons_zero, List.set_cons_succ]
              refine held_skip 10 (some 86) rfl rfl (by kernel_rfl) (by kernel_rfl) (by kernel_rfl) (fun _ _ _ h => h) (by kernel_rfl) (by assumption) ?_
              simp only [Act.put, List.setIfInBounds_toArray, List.set_cons_zero, List.set_cons_succ]
              refine held_skip 11 (some 87) rfl rfl (by kernel_rfl) (by kernel_rfl) (by kernel_rfl) (fun _ _ _ h => h) (by kernel_rfl) (by assumption) ?_
              simp only [Act.put, List.setIfInBounds_toArray, List.set_cons_zero, List.set_cons_succ]
              refine held_skip 12 (some 88) rfl rfl (by kernel_rfl) (by kernel_rfl) (by kernel_rfl) (fun _ _ _ h => h) (by kernel_rfl) (by assumption) ?_
              simp only [Act.put, List.setIfInBounds_toArray, List.set_cons_zero, List.set_cons_succ]
              refine held_take 13 (some 89) ?_ rfl rfl (by kernel_rfl) (by kernel_rfl) (by kernel_rfl) (fun _ _ _ h => h) (by kernel_rfl) ?_ (by assumption) ?_
              rotate_left
              · intro w hSw; go_simp <;> (try with_reducible rfl)
              simp only [Act.put, List.setIfInBounds_toArray, List.set_cons_zero, List.set_cons_succ]
              refine held_take 14 (some 11) ?_ rfl rfl (by kernel_rfl) (by kernel_rfl) (by kernel_rfl) (fun _ _ _ h => h) (by kernel_rfl) ?_ (by assumption) ?_
              rotate_left
              · intro w hSw; go_simp <;> (try with_reducible rfl)
              simp only [Act.put, List.setIfInBounds_toArray, List.set_cons_zero, List.set_cons_succ]
              refine wpAnyH_done (by kernel_rfl) ?_ _
              clear hHeld r0 r1
              have HS : Hid (true = true ↔ ∃ j, j < k + 1 ∧ (lq.getD j (0, 0)).1 = (lq.getD j (0, 0)).2) := ⟨fun _ => by obtain ⟨j, hj, e⟩ := HR.out.2.2.2.1 (by first | rfl | trivial); exact ⟨j, by omega, e⟩, fun _ => rfl⟩
              go_wp2
              go_loopw [13] (fun i wr => ∃ k3 : Nat, i = .int .i64 k3 ∧ k3 ≤ n8 ∧ Hid (On1 w r b r3 b3 L M D DM wr ∧ SlP wr a8 lp ∧ SlP wr (some ⟨b0, off0, none⟩) lq)) (fun i _ => n8 - (intOf i).toNat)
              case atStart => exact ⟨0, rfl, Nat.zero_le _, HR.out.1.drew, HR.out.2.1, HR.out.2.2.1⟩
              case round =>
                obtain ⟨k3, rfl, hk3, HR3⟩ := hrel
                by_cases hlt3 : k3 < n8
                · have hkl3 : k3 < lp.length := by rw [Hn8.out]; exact hlt3
                  obtain ⟨b8, off8, e8, p0, p1⟩ := HR3.out.2.1.at hkl3
                  obtain ⟨b1, off1, e0, r0, r1⟩ := HR3.out.2.2.at (k := k) (by rw [Hn10.out]; exact hlt)
                  cases e8
                  cases e0
                  have hpm : lp.getD k3 (0, 0) ∈ lp := by
                    rw [List.getD_eq_getElem?_getD, List.getElem?_eq_getElem hkl3]
                    exact List.getElem_mem hkl3
                  obtain ⟨pq, hpq⟩ : ∃ pq, lp.getD k3 (0, 0) = pq := ⟨_, rfl⟩
                  obtain ⟨x1, x2⟩ := pq
                  rw [hpq] at p0 p1 hpm
                  rw [Hq.out] at r0 r1
                  simp only at p0 p1 r0 r1
                  by_cases hx : x1 = q2
                  · have hxt : (x1 == q2) = true := by simpa using hx
                    have hpm2 : (q2, x2) ∈ L := by rw [← hx]; exact (HlpL.out _).1 hpm
                    have hxM : (q1, x2) ∈ M := (HM.out (q1, x2)).2 (TC.more (b := q2) ((HM.out (q1, q2)).1 Hqm.out) hpm2)
                    have hfx : FitP (q1, x2) := HfM.out _ hxM
                    have hdec : decide ((q1, x2) ∈ M) = true := by simpa using hxM
                    have Hhas := Lib.hid (fun W (hW : RelAt r3 b3 M DM W) => has_any r3 b3 M DM (q1, x2) hfx W hW)
                    rw [hdec] at Hhas
                    have Hpq := Lib.hid hpq
                    clear hx hpm2 hxM hfx hdec hpm hpq hkl3
                    go_wp2
                    go_region_held3 (fun w' => w'.cell? ⟨b8, off8 + k3 * 2, none⟩ = some (.int .i64 x1) ∧ w'.cell? ⟨b8, off8 + k3 * 2 + 1, none⟩ = some (.int .i64 x2) ∧ w'.cell? ⟨b0, off0 + k * 2, none⟩ = some (.int .i64 q1) ∧ w'.cell? ⟨b0, off0 + k * 2 + 1, none⟩ = some (.int .i64 q2)) (go_keep)
                      (first
                        | (go_at_call 12; refine (Hhas.out _ HR3.out.1.clo.drew).mono ?_; rintro e w7 ⟨rfl, h7⟩
                           have HR7 : Hid (On1 w r b r3 b3 L M D DM w7 ∧ SlP w7 (some ⟨b8, off8, none⟩) lp ∧ SlP w7 (some ⟨b0, off0, none⟩) lq) := ⟨HR3.out.1.drew.next h7.out, SlP.below (W := wr.drew) HR3.out.2.1 h7.out, SlP.below (W := wr.drew) HR3.out.2.2 h7.out⟩
                           clear p0 p1 r0 r1
                           obtain ⟨b8', off8', e8, p0, p1⟩ := HR7.out.2.1.at (k := k3) (by rw [Hn8.out]; exact hlt3)
                           obtain ⟨b0', off0', e0, r0, r1⟩ := HR7.out.2.2.at (k := k) (by rw [Hn10.out]; exact hlt)
                           cases e8
                           cases e0
                           rw [Hpq.out] at p0 p1
                           rw [Hq.out] at r0 r1
                           simp only at p0 p1 r0 r1))
                    try clear hHeld
                    clear p0 p1 r0 r1
                    go_wp2
                    go_roundw
                    case rel => exact ⟨k3 + 1, by go_num, by omega, HR7.out⟩
                    case measure => simp [intOf]; omega
                  · have hne : (x1 == q2) = false := by simpa using hx
                    clear hx hpm hpq hkl3
                    go_wp2
                    refine wp_region_held_drew (S := fun w' => w'.cell? ⟨b8, off8 + k3 * 2, none⟩ = some (.int .i64 x1) ∧ w'.cell? ⟨b8, off8 + k3 * 2 + 1, none⟩ = some (.int .i64 x2) ∧ w'.cell? ⟨b0, off0 + k * 2, none⟩ = some (.int .i64 q1) ∧ w'.cell? ⟨b0, off0 + k * 2 + 1, none⟩ = some (.int .i64 q2)) (by kernel_rfl) ⟨p0, p1, r0, r1⟩ (fun hHeld => ?_)
                    refine held_take 0 (some 96) ?_ rfl rfl (by kernel_rfl) (by kernel_rfl) (by kernel_rfl) (fun _ _ _ h => h) (by kernel_rfl) ?_ (by assumption) ?_
                    rotate_left
                    · intro w hSw; obtain ⟨s0, s1, s2, s3⟩ := hSw; go_simp <;> (try with_reducible rfl)
                    simp only [Act.put, List.setIfInBounds_toArray, List.set_cons_zero, List.set_cons_succ]
                    refine held_take 1 (some 97) ?_ rfl rfl (by kernel_rfl) (by kernel_rfl) (by kernel_rfl) (fun _ _ _ h => h) (by kernel_rfl) ?_ (by assumption) ?_
                    rotate_left
                    · intro w hSw; obtain ⟨s0, s1, s2, s3⟩ := hSw; go_simp <;> (try with_reducible rfl)
                    simp only [Act.put, List.setIfInBounds_toArray, List.set_cons_zero, List.set_cons_succ]
                    refine held_take 2 (some 98) ?_ rfl rfl (by kernel_rfl) (by kernel_rfl) (by kernel_rfl) (fun _ _ _ h => h) (by kernel_rfl) ?_ (by assumption) ?_
                    rotate_left
                    · intro w hSw; obtain ⟨s0, s1, s2, s3⟩ := hSw; go_simp <;> (try with_reducible rfl)
                    simp only [Act.put, List.setIfInBounds_toArray, List.set_cons_zero, List.set_cons_succ]
                    refine held_take 3 (some 99) ?_ rfl rfl (by kernel_rfl) (by kernel_rfl) (by kernel_rfl) (fun _ _ _ h => h) (by kernel_rfl) ?_ (by assumption) ?_
                    rotate_left
                    · intro w hSw; obtain ⟨s0, s1, s2, s3⟩ := hSw; go_simp <;> (try with_reducible rfl)
                    simp only [Act.put, List.setIfInBounds_toArray, List.set_cons_zero, List.set_cons_succ]
                    refine held_take 4 (some 100) ?_ rfl rfl (by kernel_rfl) (by kernel_rfl) (by kernel_rfl) (fun _ _ _ h => h) (by kernel_rfl) ?_ (by assumption) ?_
                    rotate_left
                    · intro w hSw; obtain ⟨s0, s1, s2, s3⟩ := hSw; go_simp <;> (try with_reducible rfl)
                    simp only [Act.put, List.setIfInBounds_toArray, List.set_cons_zero, List.set_cons_succ]
                    refine held_take 5 (some 101) ?_ rfl rfl (by kernel_rfl) (by kernel_rfl) (by kernel_rfl) (fun _ _ _ h => h) (by kernel_rfl) ?_ (by assumption) ?_
                    rotate_left
                    · intro w hSw; obtain ⟨s0, s1, s2, s3⟩ := hSw; go_simp <;> (try with_reducible rfl)
                    simp only [Act.put, List.setIfInBounds_toArray, List.set_cons_zero, List.set_cons_succ]
                    refine held_take 6 (some 102) ?_ rfl rfl (by kernel_rfl) (by kernel_rfl) (by kernel_rfl) (fun _ _ _ h => h) (by kernel_rfl) ?_ (by assumption) ?_
                    rotate_left
                    · intro w hSw; obtain ⟨s0, s1, s2, s3⟩ := hSw; go_simp <;> (try with_reducible rfl)
                    simp only [Act.put, List.setIfInBounds_toArray, List.set_cons_zero, List.set_cons_succ]
                    refine held_take 7 (some 103) ?_ rfl rfl (by kernel_rfl) (by kernel_rfl) (by kernel_rfl) (fun _ _ _ h => h) (by kernel_rfl) ?_ (by assumption) ?_
                    rotate_left
                    · intro w hSw; obtain ⟨s0, s1, s2, s3⟩ := hSw; go_simp <;> (try with_reducible rfl)
                    simp only [Act.put, List.setIfInBounds_toArray, List.set_cons_zero, List.set_cons_succ]
                    refine held_take 8 (some 104) ?_ rfl rfl (by kernel_rfl) (by kernel_rfl) (by kernel_rfl) (fun _ _ _ h => h) (by kernel_rfl) ?_ (by assumption) ?_
                    rotate_left
                    · intro w hSw; obtain ⟨s0, s1, s2, s3⟩ := hSw; go_simp <;> (try with_reducible rfl)
                    simp only [Act.put, List.setIfInBounds_toArray, List.set_cons_zero, List.set_cons_succ]
                    refine held_take 9 (some 105) ?_ rfl rfl (by kernel_rfl) (by kernel_rfl) (by kernel_rfl) (fun _ _ _ h => h) (by kernel_rfl) ?_ (by assumption) ?_
                    rotate_left
                    · intro w hSw; obtain ⟨s0, s1, s2, s3⟩ := hSw; go_simp <;> (try with_reducible rfl)
                    simp only [Act.put, List.setIfInBounds_toArray, List.set_cons_zero, List.set_cons_succ]
                    refine held_take 10 (some 106) ?_ rfl rfl (by kernel_rfl) (by kernel_rfl) (by kernel_rfl) (fun _ _ _ h => h) (by kernel_rfl) ?_ (by assumption) ?_
                    rotate_left
                    · intro w hSw; obtain ⟨s0, s1, s2, s3⟩ := hSw; go_simp <;> (try with_reducible rfl)
                    simp only [Act.put, List.setIfInBounds_toArray, List.set_cons_zero, List.set_cons_succ]
                    refine held_take 11 (some 107) ?_ rfl rfl (by kernel_rfl) (by kernel_rfl) (by kernel_rfl) (fun _ _ _ h => h) (by kernel_rfl) ?_ (by assumption) ?_
                    rotate_left
                    · intro w hSw; obtain ⟨s0, s1, s2, s3⟩ := hSw; go_simp <;> (try with_reducible rfl)
                    simp only [Act.put, List.setIfInBounds_toArray, List.set_cons_zero, List.set_cons_succ]
                    refine held_skip 12 (some 108) rfl rfl (by kernel_rfl) (by kernel_rfl) (by kernel_rfl) (fun _ _ _ h => h) (by kernel_rfl) (by assumption) ?_
                    simp only [Act.put, List.setIfInBounds_toArray, List.set_cons_zero, List.set_cons_succ]
                    refine held_skip 13 (some 109) rfl rfl (by kernel_rfl) (by kernel_rfl) (by kernel_rfl) (fun _ _ _ h => h) (by kernel_rfl) (by assumption) ?_
                    simp only [Act.put, List.setIfInBounds_toArray, List.set_cons_zero, List.set_cons_succ]
                    refine held_skip 14 (some 110) rfl rfl (by kernel_rfl) (by kernel_rfl) (by kernel_rfl) (fun _ _ _ h => h) (by kernel_rfl) (by assumption) ?_
                    simp only [Act.put, List.setIfInBounds_toArray, List.set_cons_zero, List.set_cons_succ]
                    refine held_skip 15 (some 111) rfl rfl (by kernel_rfl) (by kernel_rfl) (by kernel_rfl) (fun _ _ _ h => h) (by kernel_rfl) (by assumption) ?_
                    simp only [Act.put, List.setIfInBounds_toArray, List.set_cons_zero, List.set_cons_succ]
                    refine held_skip 16 (some 112) rfl rfl (by kernel_rfl) (by kernel_rfl) (by kernel_rfl) (fun _ _ _ h => h) (by kernel_rfl) (by assumption) ?_
                    simp only [Act.put, List.setIfInBounds_toArray, List.set_cons_zero, List.set_cons_succ]
                    refine held_skip 17 (some 113) rfl rfl (by kernel_rfl) (by kernel_rfl) (by kernel_rfl) (fun _ _ _ h => h) (by kernel_rfl) (by assumption) ?_
                    simp only [Act.put, List.setIfInBounds_toArray, List.set_cons_zero, List.set_cons_succ]
                    refine held_skip 18 (some 114) rfl rfl (by kernel_rfl) (by kernel_rfl) (by kernel_rfl) (fun _ _ _ h => h) (by kernel_rfl) (by assumption) ?_
                    simp only [Act.put, List.setIfInBounds_toArray, List.set_cons_zero, List.set_cons_succ]
                    refine held_skip 19 (some 115) rfl rfl (by kernel_rfl) (by kernel_rfl) (by kernel_rfl) (fun _ _ _ h => h) (by kernel_rfl) (by assumption) ?_
                    simp only [Act.put, List.setIfInBounds_toArray, List.set_cons_zero, List.set_cons_succ]
                    refine held_skip 20 (some 116) rfl rfl (by kernel_rfl) (by kernel_rfl) (by kernel_rfl) (fun _ _ _ h => h) (by kernel_rfl) (by assumption) ?_
                    simp only [Act.put, List.setIfInBounds_toArray, List.set_cons_zero, List.set_cons_succ]
                    refine held_skip 21 (some 117) rfl rfl (by kernel_rfl) (by kernel_rfl) (by kernel_rfl) (fun _ _ _ h => h) (by kernel_rfl) (by assumption) ?_
                    simp only [Act.put, List.setIfInBounds_toArray, List.set_cons_zero, List.set_cons_succ]
                    refine held_skip 22 (some 118) rfl rfl (by kernel_rfl) (by kernel_rfl) (by kernel_rfl) (fun _ _ _ h => h) (by kernel_rfl) (by assumption) ?_
                    simp only [Act.put, List.setIfInBounds_toArray, List.set_cons_zero, List.set_cons_succ]
                    refine held_skip 23 (some 119) rfl rfl (by kernel_rfl) (by kernel_rfl) (by kernel_rfl) (fun _ _ _ h => h) (by kernel_rfl) (by assumption) ?_
                    simp only [Act.put, List.setIfInBounds_toArray, List.set_cons_zero, List.set_cons_succ]
                    refine held_skip 24 (some 120) rfl rfl (by kernel_rfl) (by kernel_rfl) (by kernel_rfl) (fun _ _ _ h => h) (by kernel_rfl) (by assumption) ?_
                    simp only [Act.put, List.setIfInBounds_toArray, List.set_cons_zero, List.set_cons_succ]
                    refine held_take 25 (some 121) ?_ rfl rfl (by kernel_rfl) (by kernel_rfl) (by kernel_rfl) (fun _ _ _ h => h) (by kernel_rfl) ?_ (by assumption) ?_
                    rotate_left
                    · intro w hSw; obtain ⟨s0, s1, s2, s3⟩ := hSw; go_simp <;> (try with_reducible rfl)
                    simp only [Act.put, List.setIfInBounds_toArray, List.set_cons_zero, List.set_cons_succ]
                    refine wpAnyH_done (by kernel_rfl) ?_ _
                    clear hHeld
                    clear p0 p1 r0 r1
                    go_wp2
                    go_roundw
                    case rel => exact ⟨k3 + 1, by go_num, by omega, HR3.out.1.drew, HR3.out.2.1, HR3.out.2.2⟩
                    case measure => simp [intOf]; omega
                · have hkn3 : n8 = k3 := by omega
                  subst hkn3
                  clear hk3 hlt3
                  go_wp2
                  go_roundw
                  case rel => exact ⟨k + 1, true, by go_num, rfl, by omega, HR3.out.1, HR3.out.2.1, HR3.out.2.2, by first | exact HS.out | exact ⟨fun _ => HS.out.1 trivial, fun _ => rfl⟩⟩
                  case measure => simp [intOf]; omega
          · have hkn : k = n10 := by omega
            have Hself : Hid (sb = true ↔ ∃ z, TC L z z) := by
              show _ ↔ _
              rw [HR.out.2.2.2]
              constructor
              · rintro ⟨j, hj, e⟩
                have hjl : j < lq.length := by rw [Hn10.out]; omega
                have hm : lq.getD j (0, 0) ∈ lq := by
                  rw [List.getD_eq_getElem?_getD, List.getElem?_eq_getElem hjl]
                  exact List.getElem_mem hjl
                have ht := (HM.out _).1 ((HlqM.out _).1 hm)
                rw [e] at ht
                exact ⟨_, ht⟩
              · rintro ⟨z, hz⟩
                obtain ⟨j, hj, e⟩ := List.getElem_of_mem ((HlqM.out (z, z)).2 ((HM.out (z, z)).2 hz))
                have e3 : lq.getD j (0, 0) = (z, z) := by simp [hj, e]
                exact ⟨j, by rw [hkn, ← Hn10.out]; exact hj, by rw [e3]⟩
            subst hkn
            clear hlt hk
            have Hcr : Hid (Calls Try.prog 26 #[.pointer (some ⟨r, 0, none⟩)] wr fun e w' => e = .returned (.bool sb) ∧ Hid (Below wr.heap.size wr w')) := by
              refine (circle_any r b L D (by have := HLn.out; omega) wr HR.out.1.rel).mono ?_
              rintro e w' ⟨c', rfl, h'⟩
              have e2 : c' = sb := Bool.eq_iff_iff.2 (h'.out.1.trans Hself.out.symm)
              exact ⟨by rw [e2], h'.out.2⟩
            have Hcc : Hid (∀ W, RelAt r3 b3 M DM W → Calls Try.prog 26 #[.pointer (some ⟨r3, 0, none⟩)] W fun e w' => e = .returned (.bool sb) ∧ Hid (Below W.heap.size W w')) := fun W hW => by
              refine (circle_any r3 b3 M DM HMn.out W hW).mono ?_
              rintro e w' ⟨c', rfl, h'⟩
              have e1 : (∃ z, TC M z z) ↔ ∃ z, TC L z z := ⟨fun ⟨z, hz⟩ => ⟨z, (TC.idem (fun a b => HM.out (a, b))).1 hz⟩, fun ⟨z, hz⟩ => ⟨z, (TC.idem (fun a b => HM.out (a, b))).2 hz⟩⟩
              have e2 : c' = sb := Bool.eq_iff_iff.2 (h'.out.1.trans (e1.trans Hself.out.symm))
              exact ⟨by rw [e2], h'.out.2⟩
            cases sb
            · go_wp2_with (first
                | (go_at_call 26; with_reducible refine Hcr.out.mono ?_; rintro e w8 ⟨rfl, h8⟩; have HO8 := Lib.hid (HR.out.1.next h8.out))
                | (go_at_call 26; with_reducible refine (Hcc.out w8 HO8.out.clo).mono ?_; rintro e w9 ⟨rfl, h9⟩; have HO9 := Lib.hid (HO8.out.next h9.out))
                | go_in)
              go_ret
              exact ⟨rfl, HO9.out.below⟩
            · go_wp2_with (first
                | (go_at_call 26; with_reducible refine Hcr.out.mono ?_; rintro e w8 ⟨rfl, h8⟩; have HO8 := Lib.hid (HR.out.1.next h8.out))
                | (go_at_call 26; with_reducible refine (Hcc.out w8 HO8.out.clo).mono ?_; rintro e w9 ⟨rfl, h9⟩; have HO9 := Lib.hid (HO8.out.next h9.out))
                | go_in)
              go_ret
              exact ⟨rfl, HO9.out.below⟩
  · have hN : decide ((60 : Int) < (n : Int)) = true := by simp; omega
    clear h60
    go_enter Try.func6, Try.ntmps6
    go_wp2_with (first
      | (go_at_call 9; refine hfst.out.mono ?_; rintro e w1 ⟨rfl, h1⟩)
      | go_in)
    go_ret
    exact ⟨rfl, h1.out⟩
end Go.Proofs.Ytadlgkakjaecdaa
