/- The walk of the statement on keys. -/
import Derived.Test.YtcjfcomadcebnaaGreatDoorM10
import Derived.Test.YtcjfcomadcebnaaGreatDoorM11
namespace Go.Proofs.YtcjfcomadcebnaaGreatDoor
open Go.RowKit Go.Maps Go.WideMaps Go.WideElems Go.ChangeShapes Go.WideShapes
variable {er : Nat → Addr}

theorem str_beq (a b : ByteArray) : (a.toList == b.toList) = decide (a = b) := by
  rw [ByteArray.toList_eq, ByteArray.toList_eq]
  by_cases h : a = b
  · subst h; simp
  · rw [decide_eq_false h]
    exact beq_eq_false_iff_ne.2 fun e => h (bytes_inj e)

set_option maxHeartbeats 4000000 in
set_option maxRecDepth 100000 in
theorem storeKeys_any (a ca cb : Option Addr) (c cc cd : Nat) (os : List (Int × Int)) (l1 l2 : List CO) (f1 : ∀ x ∈ l1, fits64 x.key ∧ fits64 x.val) (f2 : ∀ x ∈ l2, fits64 x.key ∧ fits64 x.val) (w : World) (hG : Glob 212 er w) (h : SlAt w a (obs os)) (h1 : SlAt w ca (cls l1)) (h2 : SlAt w cb (cls l2)) :
    Calls Tryz.prog 6 #[.slice a os.length c, .slice ca l1.length cc, .slice cb l2.length cd] w fun e w' => e = .returned (.bool true) ∧ Hid (Below w.heap.size w w') := by
  have HF := Lib.hid (first_any w hG)
  by_cases hA : os.length ≤ 100
  case neg =>
    clear h h1 h2 f1 f2 hG
    generalize os.length = n at *
    generalize l1.length = m1 at *
    generalize l2.length = m2 at *
    have e1 : decide ((100 : Int) < (n : Int)) = true := by simp; omega
    clear hA
    go_enter Tryz.func6, Tryz.ntmps6
    go_wp2_with (first | (go_at_call 8; (with_reducible refine HF.out.mono ?_); rintro e w1 ⟨rfl, h1⟩))
    go_ret
    exact ⟨rfl, h1.out⟩
  by_cases hB : l1.length ≤ 200
  case neg =>
    clear h h1 h2 f1 f2 hG
    generalize os.length = n at *
    generalize l1.length = m1 at *
    generalize l2.length = m2 at *
    have e1 : decide ((100 : Int) < (n : Int)) = false := by simp; omega
    have e2 : decide ((200 : Int) < (m1 : Int)) = true := by simp; omega
    clear hA hB
    go_enter Tryz.func6, Tryz.ntmps6
    go_wp2_with (first | (go_at_call 8; (with_reducible refine HF.out.mono ?_); rintro e w1 ⟨rfl, h1⟩))
    go_ret
    exact ⟨rfl, h1.out⟩
  by_cases hC : l2.length ≤ 200
  case neg =>
    clear h h1 h2 f1 f2 hG
    generalize os.length = n at *
    generalize l1.length = m1 at *
    generalize l2.length = m2 at *
    have e1 : decide ((100 : Int) < (n : Int)) = false := by simp; omega
    have e2 : decide ((200 : Int) < (m1 : Int)) = false := by simp; omega
    have e3 : decide ((200 : Int) < (m2 : Int)) = true := by simp; omega
    clear hA hB hC
    go_enter Tryz.func6, Tryz.ntmps6
    go_wp2_with (first | (go_at_call 8; (with_reducible refine HF.out.mono ?_); rintro e w1 ⟨rfl, h1⟩))
    go_ret
    exact ⟨rfl, h1.out⟩
  have e1 : decide ((100 : Int) < (os.length : Int)) = false := by simp; omega
  have e2 : decide ((200 : Int) < (l1.length : Int)) = false := by simp; omega
  have e3 : decide ((200 : Int) < (l2.length : Int)) = false := by simp; omega
  have HG := Lib.hid hG
  by_cases hfit : os.length ≤ 8 ∧ ∀ o ∈ os, validO o.1 o.2 = true
  case neg =>
    have HB1 := Lib.hid (fun V (hV : Below w.heap.size w V) x => behind_bad (T := 212) (er := er) a c os hfit x V (h.below hV) (hG.below' hV))
    clear h h1 h2 f1 f2 hG hfit hA hB hC
    generalize os.length = n at *
    generalize l1.length = m1 at *
    generalize l2.length = m2 at *
    go_enter Tryz.func6, Tryz.ntmps6
    go_wp2_with (first
      | (go_at_call 8; (with_reducible refine HF.out.mono ?_); rintro e w1 ⟨rfl, h1⟩)
      | (go_at_call 9; first
        | ((with_reducible refine (HB1.out w1 h1.out _).mono ?_); rintro e w2 ⟨rfl, h2⟩
           obtain ⟨V3, hV3, b3, -, TB3⟩ := cells_new w2 #[.slice none 0 0] 29
           obtain ⟨W3, hW3, ⟨f3, g3⟩, HF3, HE3⟩ := box_put1 (w := w2) (V := V3) (.slice none 0 0) TB3.out (Nat.le_refl _)
           have B3 : Hid (Below w.heap.size w W3) := stepB (stepB h1.out h2.out) (b3.out.trans HE3.out))
        | ((with_reducible refine (HB1.out W3 B3.out _).mono ?_); rintro e w4 ⟨rfl, h4⟩
           obtain ⟨V5, hV5, b5, -, TB5⟩ := cells_new w4 #[.slice none 0 0] 29
           obtain ⟨W5, hW5, ⟨f5, g5⟩, HF5, HE5⟩ := box_put1 (w := w4) (V := V5) (.slice none 0 0) TB5.out (Nat.le_refl _))))
    go_ret
    exact ⟨rfl, stepB (stepB B3.out h4.out) (b5.out.trans HE5.out)⟩
  obtain ⟨h8, hv⟩ := hfit
  have HB1 := Lib.hid (fun V (hV : Below w.heap.size w V) => behind_good (T := 212) (er := er) a c os h8 hv l1 hB f1 ca cc V (h.below hV) (h1.below hV) (hG.below' hV))
  have HB2 := Lib.hid (fun V (hV : Below w.heap.size w V) => behind_good (T := 212) (er := er) a c os h8 hv l2 hC f2 cb cd V (h.below hV) (h2.below hV) (hG.below' hV))
  have HL1 := Lib.hid (runS_len os hv l1)
  have HL2 := Lib.hid (runS_len os hv l2)
  have HO1 := Lib.hid (runS_fit os hv l1 hB)
  have HO2 := Lib.hid (runS_fit os hv l2 hC)
  have HK : Hid ((runS (startS os) l1).map (·.kind) = (runS (startS os) l2).map (·.kind)) := by show _ = _; rw [runS_kinds os hv, runS_kinds os hv]
  clear h h1 h2 f1 f2 hG hv hA hB hC
  obtain ⟨S1, hS1⟩ : ∃ S1, runS (startS os) l1 = S1 := ⟨_, rfl⟩
  obtain ⟨S2, hS2⟩ : ∃ S2, runS (startS os) l2 = S2 := ⟨_, rfl⟩
  unfold BGood at HB1 HB2
  rw [hS1] at HL1 HO1 HK HB1
  rw [hS2] at HL2 HO2 HK HB2
  clear hS1 hS2
  generalize os.length = n at *
  generalize l1.length = m1 at *
  generalize l2.length = m2 at *
  have hn100 : n ≤ 100 := by omega
  go_enter Tryz.func6, Tryz.ntmps6
  go_wp2_with (first
    | (go_at_call 8; (with_reducible refine HF.out.mono ?_); rintro e w1 ⟨rfl, h1⟩)
    | (go_at_call 9; first
      | ((with_reducible refine (HB1.out w1 h1.out).mono ?_); rintro e w2 ⟨pa, pc, u2, rfl, h2⟩
         obtain ⟨W3, hW3, Hb3, hs3, Hx3⟩ := box_new w2 29 (.slice pa n pc)
         have B3 : Hid (Below w.heap.size w W3) := stepB (stepB h1.out h2.out.2.2) Hb3.out)
      | ((with_reducible refine (HB2.out W3 B3.out).mono ?_); rintro e w4 ⟨qa, qc, u4, rfl, h4⟩
         obtain ⟨W5, hW5, Hb5, hs5, Hx5⟩ := box_new w4 29 (.slice qa n qc)
         have B5 : Hid (Below w.heap.size w W5) := stepB (stepB B3.out h4.out.2.2) Hb5.out
         have A5 : Hid (SlAt W5 pa (sts (S1.map stP)) ∧ SlAt W5 qa (sts (S2.map stP))) := ⟨((h2.out.1.below Hb3.out).below h4.out.2.2).below Hb5.out, h4.out.1.below Hb5.out⟩
         have X5 : Hid (Boxed W5 w2.heap.size 29 (.slice pa n pc)) := boxed_below (boxed_below Hx3.out h4.out.2.2 hs3.out) Hb5.out (Nat.lt_of_lt_of_le hs3.out h4.out.2.2.size)
         have x3 := X5.out.cell
         have x5 := Hx5.out.cell)))
  obtain ⟨D, hD⟩ : ∃ D, decide (S1.map stP = S2.map stP) = D := ⟨_, rfl⟩
  obtain ⟨q, hq⟩ : ∃ q, (difR (S1.map stP) (S2.map stP)).length = q := ⟨_, rfl⟩
  obtain ⟨k1, hk1⟩ : ∃ k1 : ByteArray, tv (keyS (S1.map stP)) = .string k1 := ⟨_, rfl⟩
  obtain ⟨k2, hk2⟩ : ∃ k2 : ByteArray, tv (keyS (S2.map stP)) = .string k2 := ⟨_, rfl⟩
  have el1 : (S1.map stP).length = n := by rw [List.length_map]; exact HL1.out
  have el2 : (S2.map stP).length = n := by rw [List.length_map]; exact HL2.out
  have Ha : Hid (∀ V, Below W5.heap.size W5 V → Calls Tryz.prog 19 #[.agg #[.slice pa n pc], .agg #[.slice qa n qc]] V fun e w' => e = .returned (.bool D) ∧ Hid (Below V.heap.size V w')) := fun V hV => by
    rw [← hD]; exact ssame_n pa qa pc qc _ _ n el1 el2 hn100 V (A5.out.1.below hV) (A5.out.2.below hV)
  have Hb' : Hid (∀ V, Below W5.heap.size W5 V → Calls Tryz.prog 19 #[.agg #[.slice qa n qc], .agg #[.slice pa n pc]] V fun e w' => e = .returned (.bool D) ∧ Hid (Below V.heap.size V w')) := fun V hV => by
    have e : D = decide (S2.map stP = S1.map stP) := by rw [← hD]; congr 1; exact propext eq_comm
    rw [e]; exact ssame_n qa pa qc pc _ _ n el2 el1 hn100 V (A5.out.2.below hV) (A5.out.1.below hV)
  have Hk1 : Hid (∀ V, Below W5.heap.size W5 V → Calls Tryz.prog 33 #[.agg #[.slice pa n pc]] V fun e w' => e = .returned (.string k1) ∧ Hid (Below V.heap.size V w')) := fun V hV => by
    rw [← hk1]; exact skey_n (T := 212) (er := er) pa pc S1 n HL1.out hn100 300 (by decide) HO1.out V (A5.out.1.below hV) (HG.out.below' (stepB B5.out hV))
  have Hk2 : Hid (∀ V, Below W5.heap.size W5 V → Calls Tryz.prog 33 #[.agg #[.slice qa n qc]] V fun e w' => e = .returned (.string k2) ∧ Hid (Below V.heap.size V w')) := fun V hV => by
    rw [← hk2]; exact skey_n (T := 212) (er := er) qa qc S2 n HL2.out hn100 300 (by decide) HO2.out V (A5.out.2.below hV) (HG.out.below' (stepB B5.out hV))
  have Hd : Hid (∀ V, Below W5.heap.size W5 V → Calls Tryz.prog 17 #[.agg #[.slice pa n pc], .agg #[.slice qa n qc]] V fun e w' => ∃ ra rc, e = .returned (.slice ra q rc) ∧ Hid (Below V.heap.size V w')) := fun V hV => by
    refine (differ_n pa qa pc qc _ _ n el1 el2 hn100 V (A5.out.1.below hV) (A5.out.2.below hV)).mono fun e w' ⟨v, e1, h9⟩ => ?_
    rw [hq] at h9
    obtain ⟨ra, rc, rfl, -, -⟩ := row_sl h9.out.1
    exact ⟨ra, rc, e1, h9.out.2⟩
  have fK' : decide (k1 = k2) = D := by
    rw [← hD]
    cases hk1
    cases hk2
    by_cases e : S1.map stP = S2.map stP
    · rw [decide_eq_true e, e]; exact decide_eq_true rfl
    · rw [decide_eq_false e]
      refine decide_eq_false fun e4 => e (keyS_inj HO1.out HO2.out HK.out ?_)
      have e3 := congrArg (fun b : ByteArray => b.data.toList) e4
      simpa using e3
  have fK : (k1.toList == k2.toList) = D := by rw [str_beq]; exact fK'
  clear fK'
  have fq : ((q : Int) == 0) = D := by
    rw [← hD, ← hq]
    by_cases e : S1.map stP = S2.map stP
    · rw [decide_eq_true e, difR_nil.2 e]; rfl
    · rw [decide_eq_false e]
      have : (difR (S1.map stP) (S2.map stP)).length ≠ 0 := fun e2 => e (difR_nil.1 (List.length_eq_zero_iff.1 e2))
      exact beq_eq_false_iff_ne.2 (by omega)
  have hX0 : Hid (∀ V, Below W5.heap.size W5 V → V.cell? ⟨w2.heap.size, 0, none⟩ = some (.slice pa n pc) ∧ V.cell? ⟨w4.heap.size, 0, none⟩ = some (.slice qa n qc)) := fun V hV => ⟨(boxed_below X5.out hV (Array.getElem?_eq_some_iff.1 X5.out).1).cell, (boxed_below Hx5.out hV hs5.out).cell⟩
  have BZ : Hid (Below W5.heap.size W5 W5.drew) := stepD (Below.refl _ _)
  have HS0 := And.intro x3 x5
  clear hD hq hk1 hk2 HK HL1 HL2 HO1 HO2
  clear Hx3 Hx5 x3 x5 h1 h2 h4 HB1 HB2 HF
  cases D
  all_goals
    go_region_held3 (fun w' => w'.cell? ⟨w2.heap.size, 0, none⟩ = some (.slice pa n pc) ∧ w'.cell? ⟨w4.heap.size, 0, none⟩ = some (.slice qa n qc))
      (first | (with_reducible exact HS0) | (with_reducible exact hX0.out _ BZ.out))
      (first
        | (go_at_call 19; first
          | ((with_reducible refine (Ha.out _ BZ.out).mono ?_); rintro e wz ⟨rfl, hz⟩
             have BZ : Hid (Below W5.heap.size W5 wz) := stepB BZ.out hz.out)
          | ((with_reducible refine (Hb'.out _ BZ.out).mono ?_); rintro e wz ⟨rfl, hz⟩
             have BZ : Hid (Below W5.heap.size W5 wz) := stepB BZ.out hz.out))
        | (go_at_call 33; first
          | ((with_reducible refine (Hk1.out _ BZ.out).mono ?_); rintro e wz ⟨rfl, hz⟩
             have BZ : Hid (Below W5.heap.size W5 wz) := stepB BZ.out hz.out)
          | ((with_reducible refine (Hk2.out _ BZ.out).mono ?_); rintro e wz ⟨rfl, hz⟩
             have BZ : Hid (Below W5.heap.size W5 wz) := stepB BZ.out hz.out))
        | (go_at_call 17; (with_reducible refine (Hd.out _ BZ.out).mono ?_); rintro e wz ⟨ra, rc, rfl, hz⟩
           have BZ : Hid (Below W5.heap.size W5 wz) := stepB BZ.out hz.out))
    go_wp2_with fail
    go_ret
    exact ⟨rfl, stepB B5.out BZ.out⟩
end Go.Proofs.YtcjfcomadcebnaaGreatDoor
