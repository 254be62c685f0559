/- The walk of the statement on what is made. -/
import Derived.Test.YtfjjhjojcgacbaaDoorPb
namespace Go.Proofs.YtfjjhjojcgacbaaDoor
open Go.RowKit Go.Maps Go.WideMaps Go.WideElems Go.ChangeShapes Go.WideShapes
variable {T : TypeId} {er : Nat → Addr}

set_option maxHeartbeats 16000000 in
set_option maxRecDepth 100000 in
theorem makes_main {a0 b0 : Option Addr} {n c0 m d0 : Nat} {os : List (Int × Int)} {es : List Ev} {a1 b1 : Option Addr} {n1 c1 m1 d1 : Nat} {os1 : List (Int × Int)} {es1 : List Ev} {ta : Option Addr} {tn tc : Nat} {some' : List Int} (z x : Int) (w : World) (hI : InH w a0 n c0 b0 m d0 os es) (hK : InH w a1 n1 c1 b1 m1 d1 os1 es1) (hS : IsAt w ta some' tn) (hts : some'.length = tn) (hG : Glob 126 er w) (hsm : smallB n m = true) (hsm1 : smallB n1 m1 = true) (ht50 : tn ≤ 50) : Calls Tryd.prog 3 #[hv a0 n c0 b0 m d0, hv a1 n1 c1 b1 m1 d1, .int .i64 z, .int .i64 x, .slice ta tn tc] w fun e w' => e = .returned (.bool true) ∧ Hid (Below w.heap.size w w') := by
  obtain ⟨i1, hi1, hy0, hy1, hy2⟩ := info_parts elem34
  obtain ⟨i2, hi2, hz0, hz1, hz2⟩ := info_parts elem31
  obtain ⟨i3, hi3, hx0, hx1, hx2⟩ := info_parts elem3
  obtain ⟨W1, hW1, Hb1, hs1, Hx1⟩ := cells_new w #[.slice a0 n c0, .slice b0 m d0] 25
  obtain ⟨W2, hW2, Hb2, hs2, Hx2⟩ := cells_new W1 #[.slice a1 n1 c1, .slice b1 m1 d1] 25
  obtain ⟨W3, hW3, Hb3, hs3, Hx3⟩ := cells_new W2 #[.slice ta tn tc] 26
  have HB : Hid (Below w.heap.size w W3) := stepB (stepB Hb1.out Hb2.out) Hb3.out
  have HG := Lib.hid (hG.below' HB.out)
  have HH : Hid (W3.heap[w.heap.size]? = some (.cells #[.slice a0 n c0, .slice b0 m d0] 25)) := keepB Hb3.out (keepB Hb2.out Hx1.out)
  have HKb : Hid (W3.heap[W1.heap.size]? = some (.cells #[.slice a1 n1 c1, .slice b1 m1 d1] 25)) := keepB Hb3.out Hx2.out
  have HSb : Hid (W3.heap[W2.heap.size]? = some (.cells #[.slice ta tn tc] 26)) := Hx3.out
  have HS1 := Lib.hid (fun V => small_any a0 b0 n c0 m d0 V)
  have HS2 := Lib.hid (fun V => small_any a1 b1 n1 c1 m1 d1 V)
  have HI := Lib.hid (hI.below HB.out)
  have HK := Lib.hid (hK.below HB.out)
  have HSo := Lib.hid (hS.below HB.out)
  have Hts := Lib.hid hts
  have hnm : n ≤ 100 ∧ m ≤ 600 := by
    unfold smallB at hsm
    rw [Bool.and_eq_true, decide_eq_true_eq, decide_eq_true_eq] at hsm
    exact hsm
  have Hnm := Lib.hid hnm
  have hmE := hI.hm
  obtain ⟨ep, hep⟩ : ∃ l, es.take (preN z m) = l := ⟨_, rfl⟩
  obtain ⟨mp, hmp⟩ : ∃ l, ep.length = l := ⟨_, rfl⟩
  obtain ⟨ew, hew⟩ : ∃ l, (es.filter fun e => !(e.tx == x)) = l := ⟨_, rfl⟩
  obtain ⟨mw, hmw⟩ : ∃ l, ew.length = l := ⟨_, rfl⟩
  obtain ⟨eo, heo⟩ : ∃ l, (es.filter fun e => decide (e.tx ∈ some')) = l := ⟨_, rfl⟩
  obtain ⟨mo, hmo⟩ : ∃ l, eo.length = l := ⟨_, rfl⟩
  have hek : es.filter (keeps some' true) = eo := by
    rw [← heo]
    congr 1
    funext e
    unfold keeps
    cases decide (e.tx ∈ some') <;> rfl
  have Hep := Lib.hid hep
  have Hmp := Lib.hid hmp
  have Hew := Lib.hid hew
  have Hmw := Lib.hid hmw
  have Heo := Lib.hid heo
  have Hmo := Lib.hid hmo
  have Hek := Lib.hid hek
  have R1 : Hid (sameB os os ep ep = true) := sameB_of rfl
  have R2 : Hid (sameB os os ew ew = true) := sameB_of rfl
  have R3 : Hid (sameB os os eo eo = true) := sameB_of rfl
  have R4 : Hid (sameB os os es es = true) := sameB_of rfl
  obtain ⟨Q1, hQ1⟩ : ∃ r, subB os os1 es es1 m = r := ⟨_, rfl⟩
  obtain ⟨Q2, hQ2⟩ : ∃ r, subB os1 os es1 es m1 = r := ⟨_, rfl⟩
  have HQ1 := Lib.hid hQ1
  have HQ2 := Lib.hid hQ2
  have HmE := Lib.hid hmE
  have hlo : (obs os).length = n * 2 := by rw [obs_len, hI.hn]
  have hle : (evs es).length = m * 8 := by rw [evs_len, hmE]
  have Hlo := Lib.hid hlo
  have Hle := Lib.hid hle
  have HO := Lib.hid (fun V hV => robs a0 n c0 (obs os) hlo (by omega) (obs_one os) V (HI.out.so.below (W' := V) hV))
  have HE := Lib.hid (fun V hV => revs b0 m d0 (evs es) hle (by omega) (evs_one es) V (HI.out.se.below (W' := V) hV))
  rw [hsm] at HS1
  rw [hsm1] at HS2
  have n0 : (0 : Int) ≤ n := by omega
  have m0 : (0 : Int) ≤ m := by omega
  have n1' : (n : Int) ≤ 100 := by omega
  have m1' : (m : Int) ≤ 600 := by omega
  have t5 : (tn : Int) ≤ 50 := by omega
  have t5b : ¬ (50 : Int) < (tn : Int) := by omega
  clear hI hK hS hts hG Hb1 Hb2 Hb3 hs1 hs2 hs3 Hx1 Hx2 Hx3 hsm hsm1 hnm hep hmp hew hmw heo hmo hek hQ1 hQ2 hmE hlo hle
  go_enter Tryd.func3, Tryd.ntmps3
  go_wp2_with (first
    | (go_at_call 8; (with_reducible refine (first_any W3 HG.out).mono ?_); rintro e w1 ⟨rfl, S1⟩
       obtain ⟨l1a, l1b⟩ := row_two (keepB S1.out HH.out))
    | (go_at_call 9; (with_reducible refine (HS1.out w1).mono ?_); rintro e w2 ⟨rfl, S2⟩
       obtain ⟨l2a, l2b⟩ := row_two (keepB (stepB S1.out S2.out) HKb.out))
    | (go_at_call 9; (with_reducible refine (HS2.out w2).mono ?_); rintro e w3 ⟨rfl, S3⟩
       have l3 := row_uno (keepB (stepB (stepB S1.out S2.out) S3.out) HSb.out)
       obtain ⟨l4a, l4b⟩ := row_two (keepB (stepB (stepB S1.out S2.out) S3.out) HH.out))
    | (go_at_call 10; (with_reducible refine (HO.out _ (stepB (stepB S1.out S2.out) S3.out)).mono ?_); rintro e w4 ⟨v1, rfl, KO⟩
       obtain ⟨aO, cO, rfl, -, -⟩ := row_sl KO.out.1)
    | (at_builtin; refine wpList_append_own _ rfl _ _ 22 rfl w3.heap.size 31 i2 (.agg #[.int .i64 0, .int .i64 0]) 2 16 Tryd.underlying22 hi2 hz0 hz1 hz2 rfl (by decide) (.slice aO n cO) _ _ rfl (KO.out.1.alloc _) ⟨w4.heap.size, 0, none⟩ 1 1 [.int .i64 47, .int .i64 0] rfl rfl (two_news _ _ _ _) (by intro u hu; simp only [List.mem_cons, List.not_mem_nil, or_false] at hu; rcases hu with rfl | rfl <;> rfl) (by unfold maxLen; have := Hnm.out; omega) (by have := Hnm.out; omega) (by show _ ≤ _; simp; exact Nat.le_trans KO.out.2.size (Nat.le_succ _)) ?_))
  intro v9 u1 hown1 hgrow1 hnil1
  obtain ⟨gO, kO, hv9, hgO, hkO⟩ := hown1.form (by omega)
  subst hv9
  have lO : n + 1 ≤ kO := by
    obtain ⟨_, _, e9, _, l9⟩ := row_sl hown1
    injection e9 with _ _ e9
    omega
  have HR1 : Hid (u1.ownsRow w3.heap.size 31 2 (.slice (some ⟨gO, 0, none⟩) (n + 1) kO) (n + 1) (obs os ++ [.int .i64 47, .int .i64 0])) := hown1
  have BO := Lib.hid (Below.alloc (stepB (stepB (stepB S1.out S2.out) S3.out) KO.out.2) (stepB (stepB (stepB S1.out S2.out) S3.out) KO.out.2).size (.cells #[.int .i64 47, .int .i64 0] 31))
  have B5 : Hid (Below W3.heap.size W3 u1) := BO.out.grown hgrow1 (by simp; exact Nat.le_trans (stepB (stepB (stepB S1.out S2.out) S3.out) KO.out.2).size (Nat.le_succ _)) (fun j e => Nat.le_trans (stepB (stepB S1.out S2.out) S3.out).size (KO.out.1.lt j e).1)
  clear hown1 hgrow1 hnil1
  obtain ⟨lua, lub⟩ := row_two (keepB B5.out HH.out)
  go_wp2_with (first
    | (go_at_call 11; (with_reducible refine (HE.out _ B5.out).mono ?_); rintro e w6 ⟨v1, rfl, KE⟩
       obtain ⟨aE, cE, rfl, -, -⟩ := row_sl KE.out.1)
    | (at_builtin; refine wpList_append_own _ rfl _ _ 23 rfl u1.heap.size 34 i1 Ev.zero.agg 8 64 Tryd.underlying23 hi1 hy0 hy1 hy2 rfl (by decide) (.slice aE m cE) _ _ rfl (KE.out.1.alloc _) ⟨w6.heap.size, 0, none⟩ 1 1 [.int .i64 47, .int .i64 0, .int .i64 0, .int .i64 0, .int .i64 0, .int .i64 0, .int .i64 0, .int .i64 0] rfl rfl (eight_news _ _ _ _ _ _ _ _ _ _) (by intro u hu; simp only [List.mem_cons, List.not_mem_nil, or_false] at hu; rcases hu with rfl | rfl | rfl | rfl | rfl | rfl | rfl | rfl <;> rfl) (by unfold maxLen; have := Hnm.out; omega) (by have := Hnm.out; omega) (by show _ ≤ _; simp; exact Nat.le_trans KE.out.2.size (Nat.le_succ _)) ?_))
  intro v10 u2 hown2 hgrow2 hnil2
  obtain ⟨gE, kE, hv10, hgE, hkE⟩ := hown2.form (by omega)
  subst hv10
  have lE : m + 1 ≤ kE := by
    obtain ⟨_, _, e9, _, l9⟩ := row_sl hown2
    injection e9 with _ _ e9
    omega
  have HR2 : Hid (u2.ownsRow u1.heap.size 34 8 (.slice (some ⟨gE, 0, none⟩) (m + 1) kE) (m + 1) (evs es ++ [.int .i64 47, .int .i64 0, .int .i64 0, .int .i64 0, .int .i64 0, .int .i64 0, .int .i64 0, .int .i64 0])) := hown2
  have B6 : Hid (Below u1.heap.size u1 u2) := (KE.out.2.alloc KE.out.2.size _).grown hgrow2 (by simp; exact Nat.le_trans KE.out.2.size (Nat.le_succ _)) (fun j e => (KE.out.1.lt j e).1)
  have HR3 : Hid (u2.ownsRow w3.heap.size 31 2 (.slice (some ⟨gO, 0, none⟩) (n + 1) kO) (n + 1) (obs os ++ [.int .i64 47, .int .i64 0])) := row_other ((row_kept HR1.out KE.out.2).alloc (.cells #[.int .i64 47, .int .i64 0, .int .i64 0, .int .i64 0, .int .i64 0, .int .i64 0, .int .i64 0, .int .i64 0] 34)) (KE.out.1.alloc (.cells #[.int .i64 47, .int .i64 0, .int .i64 0, .int .i64 0, .int .i64 0, .int .i64 0, .int .i64 0, .int .i64 0] 34)) (by decide) hgrow2
  have B7 : Hid (Below W3.heap.size W3 u2) := stepB B5.out B6.out
  have BD := Lib.hid (B7.out.drew)
  have kO1 : (n : Int) ≤ (kO : Int) := by omega
  have kE1 : (m : Int) ≤ (kE : Int) := by omega
  have kO2 : n ≤ kO := by omega
  have kE2 : m ≤ kE := by omega
  clear hown2 hgrow2 hnil2 hgO hgE hkO hkE lO lE
  obtain ⟨W8, hW8, Hb8, hs8, Hx8⟩ := cells_new u2.drew #[.slice none 0 0, .slice none 0 0] 25
  have Hx8' : Hid (W8.heap[u2.heap.size]? = some (.cells #[.slice none 0 0, .slice none 0 0] 25)) := Hx8.out
  obtain ⟨F1, V8, hF1, hF2, ⟨⟨f0, e0⟩, ⟨f1, e1⟩⟩, HF, HEm, HC, HOm⟩ := box_put2x (w := u2.drew) (.slice (some ⟨gO, 0, none⟩) n kO) (.slice (some ⟨gE, 0, none⟩) m kE) Hx8'.out (Nat.le_refl _)
  have B8 : Hid (Below W3.heap.size W3 V8) := stepB BD.out (Hb8.out.trans HEm.out)
  have B8w : Hid (Below W3.heap.size W3 W8) := stepB BD.out Hb8.out
  have HXS : Hid (∀ U, Below W3.heap.size W3 U → U.cell? ⟨w.heap.size, 0, none⟩ = some (.slice a0 n c0) ∧ U.cell? ⟨w.heap.size, 1, none⟩ = some (.slice b0 m d0)) := fun U hU => row_two (keepB hU HH.out)
  obtain ⟨mua, mub⟩ := HXS.out u2 B7.out
  go_wp2_with fail
  go_region_held3 (fun w' => w'.cell? ⟨w.heap.size, 0, none⟩ = some (.slice a0 n c0) ∧ w'.cell? ⟨w.heap.size, 1, none⟩ = some (.slice b0 m d0))
    (first | (with_reducible exact HXS.out _ BD.out) | (with_reducible exact HXS.out _ B8w.out) | (with_reducible exact HXS.out _ B8.out))
    (fail)
  have RO : Hid (V8.ownsRow w3.heap.size 31 2 (.slice (some ⟨gO, 0, none⟩) (n + 1) kO) (n + 1) (obs os ++ [.int .i64 47, .int .i64 0])) := row_kept HR3.out (stepB (Below.refl _ _).drew (Hb8.out.trans HEm.out))
  have RE : Hid (V8.ownsRow u1.heap.size 34 8 (.slice (some ⟨gE, 0, none⟩) (m + 1) kE) (m + 1) (evs es ++ [.int .i64 47, .int .i64 0, .int .i64 0, .int .i64 0, .int .i64 0, .int .i64 0, .int .i64 0, .int .i64 0])) := row_kept HR2.out (stepB (Below.refl _ _).drew (Hb8.out.trans HEm.out))
  have HMI : Hid (InH V8 (some ⟨gO, 0, none⟩) n kO (some ⟨gE, 0, none⟩) m kE os es) := by
    refine ⟨HI.out.hn, HI.out.hm, kO2, kE2, ?_, ?_, HI.out.few⟩
    · have := (row_sl0 RO.out).1.take (n * 2)
      rwa [List.take_left' Hlo.out] at this
    · have := (row_sl0 RE.out).1.take (m * 8)
      rwa [List.take_left' Hle.out] at this
  have HcO : Hid (V8.cell? ⟨gO, n * 2, none⟩ = some (.int .i64 47)) := by
    have := row_news RO.out (n * 2) (.int .i64 47) (by rw [List.getElem?_append_right (by rw [Hlo.out]; exact Nat.le_refl _), Hlo.out, Nat.sub_self]; rfl)
    rwa [Addr.add_lit, Nat.zero_add] at this
  have HcE : Hid (V8.cell? ⟨gE, m * 8, none⟩ = some (.int .i64 47)) := by
    have := row_news RE.out (m * 8) (.int .i64 47) (by rw [List.getElem?_append_right (by rw [Hle.out]; exact Nat.le_refl _), Hle.out, Nat.sub_self]; rfl)
    rwa [Addr.add_lit, Nat.zero_add] at this
  have HgO : Hid (gO < V8.heap.size) := World.block_lt_of_cell? V8 _ HcO.out
  have HgE : Hid (gE < V8.heap.size) := World.block_lt_of_cell? V8 _ HcE.out
  have HMb : Hid (V8.heap[u2.heap.size]? = some (.cells #[.slice (some ⟨gO, 0, none⟩) n kO, .slice (some ⟨gE, 0, none⟩) m kE] 25)) := HF.out
  have HI8 := Lib.hid (HI.out.below B8.out)
  have HK8 := Lib.hid (HK.out.below B8.out)
  have HS8 := Lib.hid (HSo.out.below B8.out)
  have HH8 := Lib.hid (keepB B8.out HH.out)
  have HKb8 := Lib.hid (keepB B8.out HKb.out)
  have HSb8 := Lib.hid (keepB B8.out HSb.out)
  have BW8 : Hid (Below w.heap.size w V8) := stepB HB.out B8.out
  have HXM : Hid (∀ U, Below V8.heap.size V8 U → (U.cell? ⟨u2.heap.size, 0, none⟩ = some (.slice (some ⟨gO, 0, none⟩) n kO) ∧ U.cell? ⟨u2.heap.size, 1, none⟩ = some (.slice (some ⟨gE, 0, none⟩) m kE)) ∧ (U.cell? ⟨w.heap.size, 0, none⟩ = some (.slice a0 n c0) ∧ U.cell? ⟨w.heap.size, 1, none⟩ = some (.slice b0 m d0))) := fun U hU => ⟨row_two (keepB hU HMb.out), row_two (keepB hU HH8.out)⟩
  clear HR1 HR2 HR3 RO RE hF1 hF2 f0 e0 f1 e1 HF HEm HC HOm hW8 Hb8 hs8 Hx8 Hx8' BD B8w HXS mua mub lua lub HO HE
  go_wp2_with fail
  have BDp : Hid (Below V8.heap.size V8 V8.drew) := ((Below.refl _ _)).drew
  go_region_held3 (fun w' => (w'.cell? ⟨u2.heap.size, 0, none⟩ = some (.slice (some ⟨gO, 0, none⟩) n kO) ∧ w'.cell? ⟨u2.heap.size, 1, none⟩ = some (.slice (some ⟨gE, 0, none⟩) m kE)) ∧ (w'.cell? ⟨w.heap.size, 0, none⟩ = some (.slice a0 n c0) ∧ w'.cell? ⟨w.heap.size, 1, none⟩ = some (.slice b0 m d0)))
    (first | (with_reducible exact HXM.out _ BDp.out) | (with_reducible exact HXM.out _ Bp1.out) | (with_reducible exact HXM.out _ Bp2.out) | (with_reducible exact HXM.out _ Bp3.out))
    (first
      | (go_at_call 13; (with_reducible refine (prefix_h (HMI.out.below (Below.drew (Below.refl V8.heap.size V8))) z Hep.out Hmp.out).mono ?_); rintro e p1 ⟨ap1, cp1, bp1, dp1, rfl, Kp1⟩
         have Bp1 : Hid (Below V8.heap.size V8 p1) := (stepB (Below.drew (Below.refl V8.heap.size V8)) Kp1.out.2))
      | (go_at_call 14; (with_reducible refine (rprefix_h (HI8.out.below (stepB (Below.drew (Below.refl V8.heap.size V8)) Kp1.out.2)) z Hep.out Hmp.out).mono ?_); rintro e p2 ⟨ap2, cp2, bp2, dp2, rfl, Kp2⟩
         have Bp2 : Hid (Below V8.heap.size V8 p2) := (stepB (stepB (Below.drew (Below.refl V8.heap.size V8)) Kp1.out.2) Kp2.out.2))
      | (go_at_call 12; (with_reducible refine (same_h (Kp1.out.1.below Kp2.out.2) Kp2.out.1 R1.out).mono ?_); rintro e p3 ⟨rfl, Sp3⟩
         have Bp3 : Hid (Below V8.heap.size V8 p3) := (stepB (stepB (stepB (Below.drew (Below.refl V8.heap.size V8)) Kp1.out.2) Kp2.out.2) Sp3.out)))
  go_wp2_with fail
  have BDq : Hid (Below V8.heap.size V8 p3.drew) := ((stepB (stepB (stepB (Below.drew (Below.refl V8.heap.size V8)) Kp1.out.2) Kp2.out.2) Sp3.out)).drew
  go_region_held3 (fun w' => (w'.cell? ⟨u2.heap.size, 0, none⟩ = some (.slice (some ⟨gO, 0, none⟩) n kO) ∧ w'.cell? ⟨u2.heap.size, 1, none⟩ = some (.slice (some ⟨gE, 0, none⟩) m kE)) ∧ (w'.cell? ⟨w.heap.size, 0, none⟩ = some (.slice a0 n c0) ∧ w'.cell? ⟨w.heap.size, 1, none⟩ = some (.slice b0 m d0)))
    (first | (with_reducible exact HXM.out _ BDq.out) | (with_reducible exact HXM.out _ Bq1.out) | (with_reducible exact HXM.out _ Bq2.out) | (with_reducible exact HXM.out _ Bq3.out))
    (first
      | (go_at_call 15; (with_reducible refine (without_h (HMI.out.below (stepB (stepB (stepB (stepB (Below.drew (Below.refl V8.heap.size V8)) Kp1.out.2) Kp2.out.2) Sp3.out) (Below.drew (Below.refl p3.heap.size p3)))) x Hew.out Hmw.out).mono ?_); rintro e q1 ⟨aq1, cq1, bq1, dq1, rfl, Kq1⟩
         have Bq1 : Hid (Below V8.heap.size V8 q1) := (stepB (stepB (stepB (stepB (stepB (Below.drew (Below.refl V8.heap.size V8)) Kp1.out.2) Kp2.out.2) Sp3.out) (Below.drew (Below.refl p3.heap.size p3))) Kq1.out.2))
      | (go_at_call 16; (with_reducible refine (rwithout_h (HI8.out.below (stepB (stepB (stepB (stepB (stepB (Below.drew (Below.refl V8.heap.size V8)) Kp1.out.2) Kp2.out.2) Sp3.out) (Below.drew (Below.refl p3.heap.size p3))) Kq1.out.2)) x Hew.out Hmw.out).mono ?_); rintro e q2 ⟨aq2, cq2, bq2, dq2, rfl, Kq2⟩
         have Bq2 : Hid (Below V8.heap.size V8 q2) := (stepB (stepB (stepB (stepB (stepB (stepB (Below.drew (Below.refl V8.heap.size V8)) Kp1.out.2) Kp2.out.2) Sp3.out) (Below.drew (Below.refl p3.heap.size p3))) Kq1.out.2) Kq2.out.2))
      | (go_at_call 12; (with_reducible refine (same_h (Kq1.out.1.below Kq2.out.2) Kq2.out.1 R2.out).mono ?_); rintro e q3 ⟨rfl, Sq3⟩
         have Bq3 : Hid (Below V8.heap.size V8 q3) := (stepB (stepB (stepB (stepB (stepB (stepB (stepB (Below.drew (Below.refl V8.heap.size V8)) Kp1.out.2) Kp2.out.2) Sp3.out) (Below.drew (Below.refl p3.heap.size p3))) Kq1.out.2) Kq2.out.2) Sq3.out)))
  obtain ⟨WA, hWA, HbA, hsA, HxA⟩ := cells_new q3 #[.slice none 0 0] 26
  have HA0 : Hid (AskAt q3 [] (.slice none 0 0) WA) := ⟨HxA.out, World.ownsRow_nil _ _ _ _, HbA.out⟩
  have HVB : Hid (Below V8.heap.size V8 q3) := (stepB (stepB (stepB (stepB (stepB (stepB (stepB (Below.drew (Below.refl V8.heap.size V8)) Kp1.out.2) Kp2.out.2) Sp3.out) (Below.drew (Below.refl p3.heap.size p3))) Kq1.out.2) Kq2.out.2) Sq3.out)
  have HON := Lib.hid (only_18 q3 W2.heap.size ta tn tc some' (keepB HVB.out HSb8.out) (HS8.out.below HVB.out) Hts.out (by omega) (some ⟨gO, 0, none⟩) (some ⟨gE, 0, none⟩) n kO m kE (obs os) es Hlo.out HmE.out (obs_one os) (by have := Hnm.out; omega) (HMI.out.below HVB.out).so (EvsAt.of (HMI.out.below HVB.out).se HmE.out) WA HA0.out)
  rw [Heo.out, Hmo.out] at HON
  obtain ⟨q0a, q0b⟩ := (HXM.out WA (stepB HVB.out HbA.out)).1
  go_wp2_with (first
    | (go_at_call 17; (with_reducible refine HON.out.mono ?_); rintro e w12 ⟨v1, v2, av, rfl, KC⟩
       obtain ⟨aC, cC, rfl, sC, lC⟩ := row_sl KC.out.1.1
       obtain ⟨bC, dC, rfl, rC, kC⟩ := row_sl KC.out.1.2
       have HCI : Hid (InH w12 aC n cC bC mo dC os eo) := ⟨HI.out.hn, Hmo.out, lC, kC, sC, rC, by have := HI.out.few.1; exact this, by have h1 := List.length_filter_le (fun e : Ev => decide (e.tx ∈ some')) es; rw [Heo.out, Hmo.out, HmE.out] at h1; have := Hnm.out; omega⟩
       obtain ⟨aA, cA, hav, -, -⟩ := row_sl KC.out.2.row
       have Bw12 : Hid (Below q3.heap.size q3 w12) := KC.out.2.below
       obtain ⟨W13, hW13, Hb13, hs13, Hx13⟩ := cells_new w12 #[.slice aC n cC, .slice bC mo dC] 25
       clear sC lC rC kC))
  have HAK : Hid (AskAt q3 (txsOf es) av W13) := KC.out.2.next Hb13.out
  have B13 : Hid (Below V8.heap.size V8 W13) := stepB HVB.out (stepB Bw12.out Hb13.out)
  have HCb : Hid (W13.heap[w12.heap.size]? = some (.cells #[.slice aC n cC, .slice bC mo dC] 25)) := Hx13.out
  have HC13 := Lib.hid (HCI.out.below Hb13.out)
  clear HON HA0 q0a q0b HxA hsA
  have HXC : Hid (∀ U, Below W13.heap.size W13 U → (U.cell? ⟨w12.heap.size, 0, none⟩ = some (.slice aC n cC) ∧ U.cell? ⟨w12.heap.size, 1, none⟩ = some (.slice bC mo dC)) ∧ ((U.cell? ⟨w.heap.size, 0, none⟩ = some (.slice a0 n c0) ∧ U.cell? ⟨w.heap.size, 1, none⟩ = some (.slice b0 m d0)) ∧ U.cell? ⟨W2.heap.size, 0, none⟩ = some (.slice ta tn tc))) := fun U hU => ⟨row_two (keepB hU HCb.out), row_two (keepB (stepB B13.out hU) HH8.out), row_uno (keepB (stepB B13.out hU) HSb8.out)⟩
  have BDr : Hid (Below W13.heap.size W13 W13.drew) := (Below.refl _ _).drew
  go_wp2_with fail
  go_region_held3 (fun w' => (w'.cell? ⟨w12.heap.size, 0, none⟩ = some (.slice aC n cC) ∧ w'.cell? ⟨w12.heap.size, 1, none⟩ = some (.slice bC mo dC)) ∧ ((w'.cell? ⟨w.heap.size, 0, none⟩ = some (.slice a0 n c0) ∧ w'.cell? ⟨w.heap.size, 1, none⟩ = some (.slice b0 m d0)) ∧ w'.cell? ⟨W2.heap.size, 0, none⟩ = some (.slice ta tn tc)))
    (first | (with_reducible exact HXC.out _ BDr.out) | (with_reducible exact HXC.out _ Br1.out) | (with_reducible exact HXC.out _ Br2.out))
    (first
      | (go_at_call 19; (with_reducible refine (keep_h (HI8.out.below (stepB (stepB (stepB (stepB (stepB (stepB (stepB (stepB (stepB (Below.drew (Below.refl V8.heap.size V8)) Kp1.out.2) Kp2.out.2) Sp3.out) (Below.drew (Below.refl p3.heap.size p3))) Kq1.out.2) Kq2.out.2) Sq3.out) (stepB Bw12.out Hb13.out)) (Below.drew (Below.refl W13.heap.size W13)))) true (HS8.out.below (stepB (stepB (stepB (stepB (stepB (stepB (stepB (stepB (stepB (Below.drew (Below.refl V8.heap.size V8)) Kp1.out.2) Kp2.out.2) Sp3.out) (Below.drew (Below.refl p3.heap.size p3))) Kq1.out.2) Kq2.out.2) Sq3.out) (stepB Bw12.out Hb13.out)) (Below.drew (Below.refl W13.heap.size W13)))) Hts.out (by omega) Hek.out Hmo.out).mono ?_); rintro e r1 ⟨ar1, cr1, br1, dr1, rfl, Kr1⟩
         have Br1 : Hid (Below W13.heap.size W13 r1) := (stepB (Below.drew (Below.refl W13.heap.size W13)) Kr1.out.2))
      | (go_at_call 12; (with_reducible refine (same_h (HC13.out.below (stepB (Below.drew (Below.refl W13.heap.size W13)) Kr1.out.2)) Kr1.out.1 R3.out).mono ?_); rintro e r2 ⟨rfl, Sr2⟩
         have Br2 : Hid (Below W13.heap.size W13 r2) := (stepB (stepB (Below.drew (Below.refl W13.heap.size W13)) Kr1.out.2) Sr2.out)))
  have B8r : Hid (Below V8.heap.size V8 r2) := stepB B13.out Br2.out
  have HAr : Hid (AskAt q3 (txsOf es) av r2) := HAK.out.next Br2.out
  have HEv := Lib.hid (HI8.out.below B8r.out)
  go_wp2_with fail
  go_loopw [20, 21] (fun lv i wr => ∃ (k : Nat) (l : Value), k ≤ m ∧ l = lv ∧ i = .int .i64 ((k : Nat) : Int) ∧ Hid (wr.ownsRow r2.heap.size 3 1 l k (ic (txsOf (es.take k))) ∧ Below r2.heap.size r2 wr)) (fun _ i _ => m - (intOf i).toNat)
  case atStart => exact ⟨0, _, Nat.zero_le _, rfl, rfl, by simpa [ic, txsOf] using World.ownsRow_nil _ _ _ _, Below.refl _ _⟩
  case round =>
    obtain ⟨k, l, hk, rfl, rfl, HL⟩ := hrel
    obtain ⟨u0, u1'⟩ := row_two (keepB (stepB B8r.out HL.out.2) HH8.out)
    by_cases hlt : k < m
    · obtain ⟨bb, o, e, rfl, he, hc⟩ := inEv HEv.out hlt
      have hltI : (k : Int) < (m : Int) := by omega
      have y0 := hc wr HL.out.2
      have HTx : Hid (ic (txsOf (es.take (k + 1))) = ic (txsOf (es.take k)) ++ [.int .i64 e.tx]) := by show _ = _; unfold txsOf ic; rw [List.take_add_one, he]; simp
      clear hc he
      go_wp2_with (first
        | (at_builtin; refine wpList_append_own _ rfl _ _ 26 rfl r2.heap.size 3 i3 (.int .i64 0) 1 8 Tryd.underlying26 hi3 hx0 hx1 hx2 rfl (by decide) l _ _ rfl (HL.out.1.alloc _) ⟨wr.heap.size, 0, none⟩ 1 1 [.int .i64 e.tx] rfl rfl (one_row (World.alloc_heap_new _ _)) (by intro u hu; simp only [List.mem_cons, List.not_mem_nil, or_false] at hu; rcases hu with rfl; rfl) (by unfold maxLen; have := Hnm.out; omega) (by have := Hnm.out; omega) (by show _ ≤ _; simp; exact Nat.le_trans HL.out.2.size (Nat.le_succ _)) ?_))
      intro v' w9 hown hgrow hnil
      have HN : Hid (w9.ownsRow r2.heap.size 3 1 v' (k + 1) (ic (txsOf (es.take (k + 1)))) ∧ Below r2.heap.size r2 w9) := ⟨by rw [HTx.out]; exact hown, (HL.out.2.alloc HL.out.2.size _).grown hgrow (by simp; exact Nat.le_trans HL.out.2.size (Nat.le_succ _)) (fun j e => (HL.out.1.lt j e).1)⟩
      clear hown hgrow hnil
      go_wp2_with fail
      go_roundw
      case rel => exact ⟨k + 1, _, by omega, rfl, by go_num, HN.out⟩
      case measure => simp [intOf]; omega
    · have hkm : k = m := by omega
      subst hkm
      have hge : ¬ (k : Int) < (k : Int) := by omega
      obtain ⟨aL, cL, rfl, sL, -⟩ := row_sl HL.out.1
      have hall : Hid (es.take k = es) := List.take_of_length_le (by rw [HmE.out]; exact Nat.le_refl _)
      have HLs : Hid (SlAt wr aL (ic (txsOf es))) := by have := sL; rwa [hall.out] at this
      have B8w2 : Hid (Below V8.heap.size V8 wr) := stepB B8r.out HL.out.2
      have HAw : Hid (AskAt q3 (txsOf es) av wr) := HAr.out.next HL.out.2
      have HAs : Hid (SlAt wr aA (ic (txsOf es))) := by
        have h1 := HAw.out.row
        rw [hav] at h1
        exact (row_sl0 h1).1
      have htl : (txsOf es).length = k := by unfold txsOf; rw [List.length_map, HmE.out]
      have Htl := Lib.hid htl
      rw [htl] at hav
      obtain ⟨⟨w0a, w0b⟩, ⟨w1a, w1b⟩⟩ := HXM.out wr B8w2.out
      clear sL htl
      subst hav
      have hcO := (B8w2.out.cell (p := ⟨gO, n * 2, none⟩) HgO.out).trans HcO.out
      go_wp2_with (first
        | (go_at_call 12; (with_reducible refine (same_h (HMI.out.below B8w2.out) (HI8.out.below B8w2.out) R4.out).mono ?_); rintro e x1 ⟨rfl, Sx1⟩
           have Bx1 : Hid (Below V8.heap.size V8 x1) := stepB B8w2.out Sx1.out
           obtain ⟨⟨w2a, w2b⟩, ⟨w3a, w3b⟩⟩ := HXM.out x1 Bx1.out
           have hcO1 := (Bx1.out.cell (p := ⟨gO, n * 2, none⟩) HgO.out).trans HcO.out
           have hcE1 := (Bx1.out.cell (p := ⟨gE, k * 8, none⟩) HgE.out).trans HcE.out))
      have HAx : Hid (AskAt q3 (txsOf es) (.slice aA k cA) x1) := HAw.out.next Sx1.out
      have HXX : Hid (∀ U, Below x1.heap.size x1 U → U.cell? ⟨q3.heap.size, 0, none⟩ = some (.slice aA k cA) ∧ (((U.cell? ⟨u2.heap.size, 0, none⟩ = some (.slice (some ⟨gO, 0, none⟩) n kO) ∧ U.cell? ⟨u2.heap.size, 1, none⟩ = some (.slice (some ⟨gE, 0, none⟩) k kE)) ∧ (U.cell? ⟨w.heap.size, 0, none⟩ = some (.slice a0 n c0) ∧ U.cell? ⟨w.heap.size, 1, none⟩ = some (.slice b0 k d0))) ∧ (U.cell? ⟨W1.heap.size, 0, none⟩ = some (.slice a1 n1 c1) ∧ U.cell? ⟨W1.heap.size, 1, none⟩ = some (.slice b1 m1 d1)))) := fun U hU => ⟨row_uno (HAx.out.next hU).box, HXM.out U (stepB Bx1.out hU), row_two (keepB (stepB Bx1.out hU) HKb8.out)⟩
      have BX : Hid (Below x1.heap.size x1 x1.drew) := (Below.refl _ _).drew
      cases Q1 <;> cases Q2
      all_goals
        go_region_held3 (fun w' => w'.cell? ⟨q3.heap.size, 0, none⟩ = some (.slice aA k cA) ∧ (((w'.cell? ⟨u2.heap.size, 0, none⟩ = some (.slice (some ⟨gO, 0, none⟩) n kO) ∧ w'.cell? ⟨u2.heap.size, 1, none⟩ = some (.slice (some ⟨gE, 0, none⟩) k kE)) ∧ (w'.cell? ⟨w.heap.size, 0, none⟩ = some (.slice a0 n c0) ∧ w'.cell? ⟨w.heap.size, 1, none⟩ = some (.slice b0 k d0))) ∧ (w'.cell? ⟨W1.heap.size, 0, none⟩ = some (.slice a1 n1 c1) ∧ w'.cell? ⟨W1.heap.size, 1, none⟩ = some (.slice b1 m1 d1))))
          (first | (with_reducible exact HXX.out _ BX.out) | (with_reducible exact HXX.out _ By1.out) | (with_reducible exact HXX.out _ By2.out) | (with_reducible exact HXX.out _ By3.out) | (with_reducible exact HXX.out _ By4.out) | (with_reducible exact HXX.out _ By5.out))
          (first
            | (go_at_call 20; (with_reducible refine (sameInts aA aL k cA cL (txsOf es) Htl.out Hnm.out.2 x1.drew ((HAs.out.below Sx1.out).below BX.out) ((HLs.out.below Sx1.out).below BX.out)).mono ?_); rintro e y1 ⟨rfl, Sy1⟩
               have By1 : Hid (Below x1.heap.size x1 y1) := stepB BX.out Sy1.out)
            | (go_at_call 21; (with_reducible refine (sub_h (HMI.out.below (stepB Bx1.out By1.out)) (HK8.out.below (stepB Bx1.out By1.out)) HQ1.out).mono ?_); rintro e y2 ⟨rfl, Sy2⟩
               have By2 : Hid (Below x1.heap.size x1 y2) := stepB By1.out Sy2.out)
            | (go_at_call 22; (with_reducible refine (rsub_h (HI8.out.below (stepB Bx1.out By2.out)) (HK8.out.below (stepB Bx1.out By2.out)) HQ1.out).mono ?_); rintro e y3 ⟨rfl, Sy3⟩
               have By3 : Hid (Below x1.heap.size x1 y3) := stepB By2.out Sy3.out)
            | (go_at_call 21; (with_reducible refine (sub_h (HK8.out.below (stepB Bx1.out By3.out)) (HMI.out.below (stepB Bx1.out By3.out)) HQ2.out).mono ?_); rintro e y4 ⟨rfl, Sy4⟩
               have By4 : Hid (Below x1.heap.size x1 y4) := stepB By3.out Sy4.out)
            | (go_at_call 22; (with_reducible refine (rsub_h (HK8.out.below (stepB Bx1.out By4.out)) (HI8.out.below (stepB Bx1.out By4.out)) HQ2.out).mono ?_); rintro e y5 ⟨rfl, Sy5⟩
               have By5 : Hid (Below x1.heap.size x1 y5) := stepB By4.out Sy5.out))
        all_goals
          go_wp2_with fail
          go_ret
          exact ⟨rfl, stepB BW8.out (stepB Bx1.out By5.out)⟩
end Go.Proofs.YtfjjhjojcgacbaaDoor
