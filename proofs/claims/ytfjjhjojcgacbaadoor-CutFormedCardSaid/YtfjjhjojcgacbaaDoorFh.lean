/- The walk of the statement on well-formed histories. -/
import Derived.Test.YtfjjhjojcgacbaaDoorFe
import Derived.Deep.Cut
namespace Go.Proofs.YtfjjhjojcgacbaaDoor
open Go.RowKit Go.Maps Go.WideMaps Go.WideElems Go.ChangeShapes Go.WideShapes
variable {T : TypeId} {er : Nat → Addr}

set_option maxHeartbeats 16000000 in
set_option maxRecDepth 100000 in
theorem formed_ok {a0 b0 : Option Addr} {n c0 m d0 : Nat} {os : List (Int × Int)} {es : List Ev} (z x k : Int) (w : World) (hI : InH w a0 n c0 b0 m d0 os es) (hG : Glob 126 er w) (hsm : smallB n m = true) {s : St} (hz : tabZ os es = some s) {l : List Ev} (hd : dropZ os es x k = .out l) :
    Calls Tryd.prog 5 #[hv a0 n c0 b0 m d0, .int .i64 z, .int .i64 x, .int .i64 k] w fun e w' => e = .returned (.bool true) ∧ Hid (Below w.heap.size w w') := by
  obtain ⟨W1, hW1, Hb1, hs1, Hx1⟩ := cells_new w #[.slice a0 n c0, .slice b0 m d0] 25
  have HB : Hid (Below w.heap.size w W1) := Hb1.out
  have HG := Lib.hid (hG.below' HB.out)
  have HH : Hid (W1.heap[w.heap.size]? = some (.cells #[.slice a0 n c0, .slice b0 m d0] 25)) := Hx1.out
  have HS := Lib.hid (fun V => small_any a0 b0 n c0 m d0 V)
  rw [hsm] at HS
  have HI := Lib.hid (hI.below HB.out)
  obtain ⟨ep, hep⟩ : ∃ l, es.take (preN z m) = l := ⟨_, rfl⟩
  obtain ⟨mp, hmp⟩ : ∃ l, ep.length = l := ⟨_, rfl⟩
  obtain ⟨ew, hew⟩ : ∃ l, (es.filter fun e => !(e.tx == x)) = l := ⟨_, rfl⟩
  obtain ⟨mw, hmw⟩ : ∃ l, ew.length = l := ⟨_, rfl⟩
  obtain ⟨ec, hec⟩ : ∃ l, (es.filter fun e => comZ s.recs e.tx) = l := ⟨_, rfl⟩
  obtain ⟨mc, hmc⟩ : ∃ l, ec.length = l := ⟨_, rfl⟩
  obtain ⟨os2, hos⟩ : ∃ l, os.take (namedZ es) = l := ⟨_, rfl⟩
  obtain ⟨n2, hn2⟩ : ∃ l, os2.length = l := ⟨_, rfl⟩
  obtain ⟨N, hN⟩ : ∃ l, s.recs.length = l := ⟨_, rfl⟩
  obtain ⟨s2, hz2, hv2⟩ := form_only hz (fun t => !(t == x))
  replace hz2 : tabZ os (es.filter fun e => !(e.tx == x)) = some s2 := hz2
  have hvw := views_others hv2
  obtain ⟨s3, hz3, -⟩ := form_only hz (comZ s.recs)
  replace hz3 : tabZ os (es.filter fun e => comZ s.recs e.tx) = some s3 := hz3
  have hp := form_prefix hz (preN z m)
  have hsp := form_spare hz
  obtain ⟨N2, hN2⟩ : ∃ l, s2.recs.length = l := ⟨_, rfl⟩
  rw [hep] at hp
  rw [hew] at hz2
  rw [hec] at hz3
  rw [hos] at hsp
  have hNN : N ≤ 400 := by
    have h1 := hz
    unfold tabZ at h1
    rw [if_pos (tabZ_his hz)] at h1
    have h2 := runZ_ok es St.zero_ok h1
    have := h2.few
    have := h2.taken
    omega
  have Hep := Lib.hid hep
  have Hmp := Lib.hid hmp
  have Hew := Lib.hid hew
  have Hmw := Lib.hid hmw
  have Hec := Lib.hid hec
  have Hmc := Lib.hid hmc
  have Hos := Lib.hid hos
  have Hn2 := Lib.hid hn2
  have HN := Lib.hid hN
  have HN2 := Lib.hid hN2
  have Hz := Lib.hid hz
  have HzW := Lib.hid hz2
  have HcP := Lib.hid hp
  have HcW : Hid ((tabZ os ew).isSome = true) := by show _ = _; rw [hz2]; rfl
  have HcC : Hid ((tabZ os ec).isSome = true) := by show _ = _; rw [hz3]; rfl
  have HcS := Lib.hid hsp
  have Hvw := Lib.hid hvw
  obtain ⟨md, hmd⟩ : ∃ r, l.length = r := ⟨_, rfl⟩
  have HcD : Hid ((tabZ os l).isSome = true) := form_drop hd
  have Hmd := Lib.hid hmd
  clear hmd
  have Hd := Lib.hid hd
  have Hsm := Lib.hid hsm
  clear hI hG Hb1 hs1 Hx1 hep hmp hew hmw hec hmc hos hn2 hN hN2 hz hz2 hz3 hp hsp hvw hv2 hd hsm
  go_enter Tryd.func5, Tryd.ntmps5
  go_wp2_with (first
    | (go_at_call 8; (with_reducible refine (first_any W1 HG.out).mono ?_); rintro e w1 ⟨rfl, S1⟩
       obtain ⟨l1a, l1b⟩ := row_two (keepB S1.out HH.out))
    | (go_at_call 9; (with_reducible refine (HS.out w1).mono ?_); rintro e w2 ⟨rfl, S2⟩
       obtain ⟨l2a, l2b⟩ := row_two (keepB (stepB S1.out S2.out) HH.out))
    | (go_at_call 24; (with_reducible refine (tab_h (HI.out.below (stepB S1.out S2.out)) (HG.out.below' (stepB S1.out S2.out)) Hz.out HN.out).mono ?_); rintro e w3 ⟨aL, cL, rfl, KL⟩
       obtain ⟨l3a, l3b⟩ := row_two (keepB (stepB (stepB S1.out S2.out) KL.out.2) HH.out))
    | (go_at_call 15; (with_reducible refine (without_h (HI.out.below (stepB (stepB S1.out S2.out) KL.out.2)) x Hew.out Hmw.out).mono ?_); rintro e w4 ⟨aW, cW, bW, dW, rfl, KW⟩
       obtain ⟨W5, hW5, Hb5, hs5, Hx5⟩ := cells_new w4 #[.slice aW n cW, .slice bW mw dW] 25
       obtain ⟨l4a, l4b⟩ := row_two (keepB (stepB (stepB (stepB (stepB S1.out S2.out) KL.out.2) KW.out.2) Hb5.out) HH.out))
    | (go_at_call 25; (with_reducible refine (dropOut_h (HI.out.below (stepB (stepB (stepB (stepB S1.out S2.out) KL.out.2) KW.out.2) Hb5.out)) x k (HG.out.below' (stepB (stepB (stepB (stepB S1.out S2.out) KL.out.2) KW.out.2) Hb5.out)) Hd.out Hmd.out).mono ?_); rintro e w6 ⟨aD, cD, bD, dD, rfl, KD⟩
       obtain ⟨W7, hW7, Hb7, hs7, Hx7⟩ := cells_new w6 #[.slice aD n cD, .slice bD md dD] 25
       obtain ⟨l5a, l5b⟩ := row_two (keepB (stepB (stepB (stepB (stepB (stepB (stepB S1.out S2.out) KL.out.2) KW.out.2) Hb5.out) KD.out.2) Hb7.out) HH.out))
    | (go_at_call 26; (with_reducible refine (com_h (HI.out.below (stepB (stepB (stepB (stepB (stepB (stepB S1.out S2.out) KL.out.2) KW.out.2) Hb5.out) KD.out.2) Hb7.out)) (HG.out.below' (stepB (stepB (stepB (stepB (stepB (stepB S1.out S2.out) KL.out.2) KW.out.2) Hb5.out) KD.out.2) Hb7.out)) Hz.out Hec.out Hmc.out).mono ?_); rintro e w8 ⟨aC, cC, bC, dC, rfl, KC⟩
       obtain ⟨W9, hW9, Hb9, hs9, Hx9⟩ := cells_new w8 #[.slice aC n cC, .slice bC mc dC] 25
       obtain ⟨l6a, l6b⟩ := row_two (keepB (stepB (stepB (stepB (stepB (stepB (stepB (stepB (stepB S1.out S2.out) KL.out.2) KW.out.2) Hb5.out) KD.out.2) Hb7.out) KC.out.2) Hb9.out) HH.out))
    | (go_at_call 27; (with_reducible refine (spareOut_h (HI.out.below (stepB (stepB (stepB (stepB (stepB (stepB (stepB (stepB S1.out S2.out) KL.out.2) KW.out.2) Hb5.out) KD.out.2) Hb7.out) KC.out.2) Hb9.out)) (HG.out.below' (stepB (stepB (stepB (stepB (stepB (stepB (stepB (stepB S1.out S2.out) KL.out.2) KW.out.2) Hb5.out) KD.out.2) Hb7.out) KC.out.2) Hb9.out)) Hz.out Hos.out Hn2.out).mono ?_); rintro e w10 ⟨aS, cS, bS, dS, rfl, KS⟩
       obtain ⟨W11, hW11, Hb11, hs11, Hx11⟩ := cells_new w10 #[.slice aS n2 cS, .slice bS m dS] 25
       obtain ⟨l7a, l7b⟩ := row_two (keepB (stepB (stepB (stepB (stepB (stepB (stepB (stepB (stepB (stepB (stepB S1.out S2.out) KL.out.2) KW.out.2) Hb5.out) KD.out.2) Hb7.out) KC.out.2) Hb9.out) KS.out.2) Hb11.out) HH.out))
    | (go_at_call 13; (with_reducible refine (prefix_h (HI.out.below (stepB (stepB (stepB (stepB (stepB (stepB (stepB (stepB (stepB (stepB S1.out S2.out) KL.out.2) KW.out.2) Hb5.out) KD.out.2) Hb7.out) KC.out.2) Hb9.out) KS.out.2) Hb11.out)) z Hep.out Hmp.out).mono ?_); rintro e w12 ⟨aP, cP, bP, dP, rfl, KP⟩)
    | (go_at_call 28; (with_reducible refine (check_h KP.out.1 (HG.out.below' (stepB (stepB (stepB (stepB (stepB (stepB (stepB (stepB (stepB (stepB (stepB S1.out S2.out) KL.out.2) KW.out.2) Hb5.out) KD.out.2) Hb7.out) KC.out.2) Hb9.out) KS.out.2) Hb11.out) KP.out.2)) HcP.out).mono ?_); rintro e w13 ⟨rfl, S13⟩
       obtain ⟨l8a, l8b⟩ := row_two (keepB (stepB (stepB (stepB (stepB (stepB (stepB (stepB KD.out.2 Hb7.out) KC.out.2) Hb9.out) KS.out.2) Hb11.out) KP.out.2) S13.out) Hx5.out))
    | (go_at_call 28; (with_reducible refine (check_h (KW.out.1.below (stepB (stepB (stepB (stepB (stepB (stepB (stepB (stepB Hb5.out KD.out.2) Hb7.out) KC.out.2) Hb9.out) KS.out.2) Hb11.out) KP.out.2) S13.out)) (HG.out.below' (stepB (stepB (stepB (stepB (stepB (stepB (stepB (stepB (stepB (stepB (stepB (stepB S1.out S2.out) KL.out.2) KW.out.2) Hb5.out) KD.out.2) Hb7.out) KC.out.2) Hb9.out) KS.out.2) Hb11.out) KP.out.2) S13.out)) HcW.out).mono ?_); rintro e w14 ⟨rfl, S14⟩
       obtain ⟨l9a, l9b⟩ := row_two (keepB (stepB (stepB (stepB (stepB (stepB (stepB KC.out.2 Hb9.out) KS.out.2) Hb11.out) KP.out.2) S13.out) S14.out) Hx7.out))
    | (go_at_call 28; (with_reducible refine (check_h (KD.out.1.below (stepB (stepB (stepB (stepB (stepB (stepB (stepB Hb7.out KC.out.2) Hb9.out) KS.out.2) Hb11.out) KP.out.2) S13.out) S14.out)) (HG.out.below' (stepB (stepB (stepB (stepB (stepB (stepB (stepB (stepB (stepB (stepB (stepB (stepB (stepB S1.out S2.out) KL.out.2) KW.out.2) Hb5.out) KD.out.2) Hb7.out) KC.out.2) Hb9.out) KS.out.2) Hb11.out) KP.out.2) S13.out) S14.out)) HcD.out).mono ?_); rintro e w15 ⟨rfl, S15⟩
       obtain ⟨l10a, l10b⟩ := row_two (keepB (stepB (stepB (stepB (stepB (stepB KS.out.2 Hb11.out) KP.out.2) S13.out) S14.out) S15.out) Hx9.out))
    | (go_at_call 28; (with_reducible refine (check_h (KC.out.1.below (stepB (stepB (stepB (stepB (stepB (stepB Hb9.out KS.out.2) Hb11.out) KP.out.2) S13.out) S14.out) S15.out)) (HG.out.below' (stepB (stepB (stepB (stepB (stepB (stepB (stepB (stepB (stepB (stepB (stepB (stepB (stepB (stepB S1.out S2.out) KL.out.2) KW.out.2) Hb5.out) KD.out.2) Hb7.out) KC.out.2) Hb9.out) KS.out.2) Hb11.out) KP.out.2) S13.out) S14.out) S15.out)) HcC.out).mono ?_); rintro e w16 ⟨rfl, S16⟩
       obtain ⟨l11a, l11b⟩ := row_two (keepB (stepB (stepB (stepB (stepB KP.out.2 S13.out) S14.out) S15.out) S16.out) Hx11.out))
    | (go_at_call 28; (with_reducible refine (check_h (KS.out.1.below (stepB (stepB (stepB (stepB (stepB Hb11.out KP.out.2) S13.out) S14.out) S15.out) S16.out)) (HG.out.below' (stepB (stepB (stepB (stepB (stepB (stepB (stepB (stepB (stepB (stepB (stepB (stepB (stepB (stepB (stepB S1.out S2.out) KL.out.2) KW.out.2) Hb5.out) KD.out.2) Hb7.out) KC.out.2) Hb9.out) KS.out.2) Hb11.out) KP.out.2) S13.out) S14.out) S15.out) S16.out)) HcS.out).mono ?_); rintro e w17 ⟨rfl, S17⟩
       obtain ⟨l12a, l12b⟩ := row_two (keepB (stepB (stepB (stepB (stepB (stepB (stepB (stepB (stepB (stepB (stepB (stepB KD.out.2 Hb7.out) KC.out.2) Hb9.out) KS.out.2) Hb11.out) KP.out.2) S13.out) S14.out) S15.out) S16.out) S17.out) Hx5.out))
    | (go_at_call 24; (with_reducible refine (tab_h (KW.out.1.below (stepB (stepB (stepB (stepB (stepB (stepB (stepB (stepB (stepB (stepB (stepB (stepB Hb5.out KD.out.2) Hb7.out) KC.out.2) Hb9.out) KS.out.2) Hb11.out) KP.out.2) S13.out) S14.out) S15.out) S16.out) S17.out)) (HG.out.below' (stepB (stepB (stepB (stepB (stepB (stepB (stepB (stepB (stepB (stepB (stepB (stepB (stepB (stepB (stepB (stepB S1.out S2.out) KL.out.2) KW.out.2) Hb5.out) KD.out.2) Hb7.out) KC.out.2) Hb9.out) KS.out.2) Hb11.out) KP.out.2) S13.out) S14.out) S15.out) S16.out) S17.out)) HzW.out HN2.out).mono ?_); rintro e w18 ⟨aM, cM, rfl, KM⟩))
  have HTL : Hid (TxIn w18 aL s.recs) := KL.out.1.below (stepB (stepB (stepB (stepB (stepB (stepB (stepB (stepB (stepB (stepB (stepB (stepB (stepB (stepB KW.out.2 Hb5.out) KD.out.2) Hb7.out) KC.out.2) Hb9.out) KS.out.2) Hb11.out) KP.out.2) S13.out) S14.out) S15.out) S16.out) S17.out) KM.out.2)
  have HTM : Hid (TxIn w18 aM s2.recs) := KM.out.1
  have BV : Hid (Below w.heap.size w w18) := stepB HB.out (stepB (stepB (stepB (stepB (stepB (stepB (stepB (stepB (stepB (stepB (stepB (stepB (stepB (stepB (stepB (stepB (stepB S1.out S2.out) KL.out.2) KW.out.2) Hb5.out) KD.out.2) Hb7.out) KC.out.2) Hb9.out) KS.out.2) Hb11.out) KP.out.2) S13.out) S14.out) S15.out) S16.out) S17.out) KM.out.2)
  generalize s.recs = L at *
  generalize s2.recs = M at *
  have HV : Hid (M.map Rec.vw = (others x L).map Rec.vw) := Hvw.out
  go_loopw [21, 22] (fun cn i wr => ∃ j : Nat, j ≤ N ∧ i = .int .i64 ((j : Nat) : Int) ∧ (∃ q : Nat, cn = .int .i64 ((q : Nat) : Int) ∧ q ≤ j ∧ Hid ((others x (L.take j)).length = q)) ∧ Hid (Below w18.heap.size w18 wr)) (fun _ i _ => N - (intOf i).toNat)
  case atStart => exact ⟨0, Nat.zero_le _, rfl, ⟨0, rfl, Nat.le_refl _, rfl⟩, Below.refl _ _⟩
  case round =>
    obtain ⟨j, hj, rfl, ⟨q, rfl, hqj, HQ⟩, HBr⟩ := hrel
    by_cases hlt : j < N
    · obtain ⟨b4, o4, r, a4, d4, rfl, hr, -, hc⟩ := HTL.out j (by rw [HN.out]; exact hlt)
      obtain ⟨u0, u1, u2, -, -, -, u6⟩ := hc wr HBr.out
      have hltI : (j : Int) < (N : Int) := by omega
      have hj0 : (0 : Int) ≤ (j : Int) := by omega
      have hq6 : (q : Int) ≤ 100000 := by omega
      have BD : Hid (Below w18.heap.size w18 wr.drew) := HBr.out.drew
      obtain ⟨e0, e1, e2, -, -, -, e6⟩ := hc wr.drew BD.out
      have hcn := others_next x hr
      rw [HQ.out] at hcn
      by_cases hx : r.id = x
      · rw [if_pos hx] at hcn
        have HNn : Hid ((others x (L.take (j + 1))).length = q) := hcn
        have hx1 : (r.id == x) = true := beq_yes hx
        generalize r.id = u at *
        generalize r.thread = th at *
        generalize r.status = st at *
        generalize r.ds.length = dl at *
        clear hc hr hcn hx e0 e1 e2 e6 BD
        go_wp2_with fail
        go_roundw
        case rel => exact ⟨j + 1, by omega, by go_num, ⟨q, by go_num, by omega, HNn.out⟩, HBr.out⟩
        case measure => simp [intOf]; omega
      · rw [if_neg hx] at hcn
        have HNn : Hid ((others x (L.take (j + 1))).length = q + 1) := hcn
        have hx1 : (r.id == x) = false := beq_no hx
        obtain ⟨r2, hm2, hid, hst, hdl, hth⟩ := others_get HV.out hr hx
        rw [HQ.out] at hm2
        have hq2 : q < N2 := by have := (List.getElem?_eq_some_iff.1 hm2).1; rw [HN2.out] at this; exact this
        obtain ⟨b5, o5, r3, a5, d5, rfl, hm3, -, hc5⟩ := HTM.out q (by rw [HN2.out]; exact hq2)
        rw [hm2] at hm3
        injection hm3 with hm3
        subst hm3
        obtain ⟨f0, f1, f2, -, -, -, f6⟩ := hc5 wr.drew BD.out
        rw [hid] at f0
        rw [hth] at f1
        rw [hst] at f2
        rw [hdl] at f6
        have hqI : (q : Int) < (N2 : Int) := by omega
        have hq0 : (0 : Int) ≤ (q : Int) := by omega
        have hge1 : decide ((N2 : Int) ≤ (q : Int)) = false := by simp; omega
        have hge2 : decide (N2 ≤ q) = false := by simp; omega
        clear hc hc5 hm2 hr hcn hx hid hst hdl hth
        generalize r.id = u at *
        generalize r.thread = th at *
        generalize r.status = st at *
        generalize r.ds.length = dl at *
        have n1 : (u != u) = false := by simp
        have n2 : (st != st) = false := by simp
        have n3 : (th != th) = false := by simp
        have n4 : ((dl : Int) != (dl : Int)) = false := by simp
        have HSR : Hid ((wr.drew.cell? ⟨b4, o4 + j * 7, none⟩ = some (.int .i64 u) ∧ wr.drew.cell? ⟨b4, o4 + j * 7 + 1, none⟩ = some (.int .i64 th) ∧ wr.drew.cell? ⟨b4, o4 + j * 7 + 2, none⟩ = some (.int .i64 st) ∧ wr.drew.cell? ⟨b4, o4 + j * 7 + 6, none⟩ = some (.slice a4 dl d4)) ∧ (wr.drew.cell? ⟨b5, o5 + q * 7, none⟩ = some (.int .i64 u) ∧ wr.drew.cell? ⟨b5, o5 + q * 7 + 1, none⟩ = some (.int .i64 th) ∧ wr.drew.cell? ⟨b5, o5 + q * 7 + 2, none⟩ = some (.int .i64 st) ∧ wr.drew.cell? ⟨b5, o5 + q * 7 + 6, none⟩ = some (.slice a5 dl d5))) := ⟨⟨e0, e1, e2, e6⟩, f0, f1, f2, f6⟩
        clear e0 e1 e2 e6 f0 f1 f2 f6
        go_wp2_with fail
        go_region_held3 (fun w' => (w'.cell? ⟨b4, o4 + j * 7, none⟩ = some (.int .i64 u) ∧ w'.cell? ⟨b4, o4 + j * 7 + 1, none⟩ = some (.int .i64 th) ∧ w'.cell? ⟨b4, o4 + j * 7 + 2, none⟩ = some (.int .i64 st) ∧ w'.cell? ⟨b4, o4 + j * 7 + 6, none⟩ = some (.slice a4 dl d4)) ∧ (w'.cell? ⟨b5, o5 + q * 7, none⟩ = some (.int .i64 u) ∧ w'.cell? ⟨b5, o5 + q * 7 + 1, none⟩ = some (.int .i64 th) ∧ w'.cell? ⟨b5, o5 + q * 7 + 2, none⟩ = some (.int .i64 st) ∧ w'.cell? ⟨b5, o5 + q * 7 + 6, none⟩ = some (.slice a5 dl d5)))
          (first | (with_reducible exact HSR.out))
          (fail)
        go_wp2_with fail
        go_roundw
        case rel => exact ⟨j + 1, by omega, by go_num, ⟨q + 1, by go_num, by omega, HNn.out⟩, BD.out⟩
        case measure => simp [intOf]; omega
    · have hjm : j = N := by omega
      have hqf : q = N2 := by rw [← HQ.out, hjm, List.take_of_length_le (by have := HN.out; omega), ← others_len HV.out, HN2.out]
      subst hqf
      have hqq : ((q : Int) == (q : Int)) = true := by simp
      go_wp2_with fail
      go_ret
      exact ⟨rfl, stepB BV.out HBr.out⟩

set_option maxHeartbeats 16000000 in
set_option maxRecDepth 100000 in
theorem formed_err {a0 b0 : Option Addr} {n c0 m d0 : Nat} {os : List (Int × Int)} {es : List Ev} (z x k : Int) (w : World) (hI : InH w a0 n c0 b0 m d0 os es) (hG : Glob 126 er w) (hsm : smallB n m = true) {s : St} (hz : tabZ os es = some s) (hd : ∀ l, dropZ os es x k ≠ .out l) :
    Calls Tryd.prog 5 #[hv a0 n c0 b0 m d0, .int .i64 z, .int .i64 x, .int .i64 k] w fun e w' => e = .returned (.bool true) ∧ Hid (Below w.heap.size w w') := by
  obtain ⟨W1, hW1, Hb1, hs1, Hx1⟩ := cells_new w #[.slice a0 n c0, .slice b0 m d0] 25
  have HB : Hid (Below w.heap.size w W1) := Hb1.out
  have HG := Lib.hid (hG.below' HB.out)
  have HH : Hid (W1.heap[w.heap.size]? = some (.cells #[.slice a0 n c0, .slice b0 m d0] 25)) := Hx1.out
  have HS := Lib.hid (fun V => small_any a0 b0 n c0 m d0 V)
  rw [hsm] at HS
  have HI := Lib.hid (hI.below HB.out)
  obtain ⟨ep, hep⟩ : ∃ l, es.take (preN z m) = l := ⟨_, rfl⟩
  obtain ⟨mp, hmp⟩ : ∃ l, ep.length = l := ⟨_, rfl⟩
  obtain ⟨ew, hew⟩ : ∃ l, (es.filter fun e => !(e.tx == x)) = l := ⟨_, rfl⟩
  obtain ⟨mw, hmw⟩ : ∃ l, ew.length = l := ⟨_, rfl⟩
  obtain ⟨ec, hec⟩ : ∃ l, (es.filter fun e => comZ s.recs e.tx) = l := ⟨_, rfl⟩
  obtain ⟨mc, hmc⟩ : ∃ l, ec.length = l := ⟨_, rfl⟩
  obtain ⟨os2, hos⟩ : ∃ l, os.take (namedZ es) = l := ⟨_, rfl⟩
  obtain ⟨n2, hn2⟩ : ∃ l, os2.length = l := ⟨_, rfl⟩
  obtain ⟨N, hN⟩ : ∃ l, s.recs.length = l := ⟨_, rfl⟩
  obtain ⟨s2, hz2, hv2⟩ := form_only hz (fun t => !(t == x))
  replace hz2 : tabZ os (es.filter fun e => !(e.tx == x)) = some s2 := hz2
  have hvw := views_others hv2
  obtain ⟨s3, hz3, -⟩ := form_only hz (comZ s.recs)
  replace hz3 : tabZ os (es.filter fun e => comZ s.recs e.tx) = some s3 := hz3
  have hp := form_prefix hz (preN z m)
  have hsp := form_spare hz
  obtain ⟨N2, hN2⟩ : ∃ l, s2.recs.length = l := ⟨_, rfl⟩
  rw [hep] at hp
  rw [hew] at hz2
  rw [hec] at hz3
  rw [hos] at hsp
  have hNN : N ≤ 400 := by
    have h1 := hz
    unfold tabZ at h1
    rw [if_pos (tabZ_his hz)] at h1
    have h2 := runZ_ok es St.zero_ok h1
    have := h2.few
    have := h2.taken
    omega
  have Hep := Lib.hid hep
  have Hmp := Lib.hid hmp
  have Hew := Lib.hid hew
  have Hmw := Lib.hid hmw
  have Hec := Lib.hid hec
  have Hmc := Lib.hid hmc
  have Hos := Lib.hid hos
  have Hn2 := Lib.hid hn2
  have HN := Lib.hid hN
  have HN2 := Lib.hid hN2
  have Hz := Lib.hid hz
  have HzW := Lib.hid hz2
  have HcP := Lib.hid hp
  have HcW : Hid ((tabZ os ew).isSome = true) := by show _ = _; rw [hz2]; rfl
  have HcC : Hid ((tabZ os ec).isSome = true) := by show _ = _; rw [hz3]; rfl
  have HcS := Lib.hid hsp
  have Hvw := Lib.hid hvw
  have Hd := Lib.hid hd
  have Hsm := Lib.hid hsm
  clear hI hG Hb1 hs1 Hx1 hep hmp hew hmw hec hmc hos hn2 hN hN2 hz hz2 hz3 hp hsp hvw hv2 hd hsm
  go_enter Tryd.func5, Tryd.ntmps5
  go_wp2_with (first
    | (go_at_call 8; (with_reducible refine (first_any W1 HG.out).mono ?_); rintro e w1 ⟨rfl, S1⟩
       obtain ⟨l1a, l1b⟩ := row_two (keepB S1.out HH.out))
    | (go_at_call 9; (with_reducible refine (HS.out w1).mono ?_); rintro e w2 ⟨rfl, S2⟩
       obtain ⟨l2a, l2b⟩ := row_two (keepB (stepB S1.out S2.out) HH.out))
    | (go_at_call 24; (with_reducible refine (tab_h (HI.out.below (stepB S1.out S2.out)) (HG.out.below' (stepB S1.out S2.out)) Hz.out HN.out).mono ?_); rintro e w3 ⟨aL, cL, rfl, KL⟩
       obtain ⟨l3a, l3b⟩ := row_two (keepB (stepB (stepB S1.out S2.out) KL.out.2) HH.out))
    | (go_at_call 15; (with_reducible refine (without_h (HI.out.below (stepB (stepB S1.out S2.out) KL.out.2)) x Hew.out Hmw.out).mono ?_); rintro e w4 ⟨aW, cW, bW, dW, rfl, KW⟩
       obtain ⟨W5, hW5, Hb5, hs5, Hx5⟩ := cells_new w4 #[.slice aW n cW, .slice bW mw dW] 25
       obtain ⟨l4a, l4b⟩ := row_two (keepB (stepB (stepB (stepB (stepB S1.out S2.out) KL.out.2) KW.out.2) Hb5.out) HH.out))
    | (go_at_call 25; (with_reducible refine (dropErr_h (HI.out.below (stepB (stepB (stepB (stepB S1.out S2.out) KL.out.2) KW.out.2) Hb5.out)) x k (HG.out.below' (stepB (stepB (stepB (stepB S1.out S2.out) KL.out.2) KW.out.2) Hb5.out)) Hd.out).mono ?_); rintro e w6 ⟨tD, pD, rfl, KD⟩
       obtain ⟨W7, hW7, Hb7, hs7, Hx7⟩ := cells_new w6 #[.slice none 0 0, .slice none 0 0] 25
       obtain ⟨GD1, GD2, hGD1, hGD2, ⟨⟨gD0, lD0⟩, ⟨gD1, lD1⟩⟩, HGxD, HLxD, HCgD, HOgD⟩ := box_put2x (w := w6) (.slice none 0 0) (.slice none 0 0) Hx7.out (Nat.le_refl _)
       obtain ⟨l5a, l5b⟩ := row_two (keepB (stepB (stepB (stepB (stepB (stepB (stepB S1.out S2.out) KL.out.2) KW.out.2) Hb5.out) KD.out) (Hb7.out.trans HLxD.out)) HH.out))
    | (go_at_call 26; (with_reducible refine (com_h (HI.out.below (stepB (stepB (stepB (stepB (stepB (stepB S1.out S2.out) KL.out.2) KW.out.2) Hb5.out) KD.out) (Hb7.out.trans HLxD.out))) (HG.out.below' (stepB (stepB (stepB (stepB (stepB (stepB S1.out S2.out) KL.out.2) KW.out.2) Hb5.out) KD.out) (Hb7.out.trans HLxD.out))) Hz.out Hec.out Hmc.out).mono ?_); rintro e w8 ⟨aC, cC, bC, dC, rfl, KC⟩
       obtain ⟨W9, hW9, Hb9, hs9, Hx9⟩ := cells_new w8 #[.slice aC n cC, .slice bC mc dC] 25
       obtain ⟨l6a, l6b⟩ := row_two (keepB (stepB (stepB (stepB (stepB (stepB (stepB (stepB (stepB S1.out S2.out) KL.out.2) KW.out.2) Hb5.out) KD.out) (Hb7.out.trans HLxD.out)) KC.out.2) Hb9.out) HH.out))
    | (go_at_call 27; (with_reducible refine (spareOut_h (HI.out.below (stepB (stepB (stepB (stepB (stepB (stepB (stepB (stepB S1.out S2.out) KL.out.2) KW.out.2) Hb5.out) KD.out) (Hb7.out.trans HLxD.out)) KC.out.2) Hb9.out)) (HG.out.below' (stepB (stepB (stepB (stepB (stepB (stepB (stepB (stepB S1.out S2.out) KL.out.2) KW.out.2) Hb5.out) KD.out) (Hb7.out.trans HLxD.out)) KC.out.2) Hb9.out)) Hz.out Hos.out Hn2.out).mono ?_); rintro e w10 ⟨aS, cS, bS, dS, rfl, KS⟩
       obtain ⟨W11, hW11, Hb11, hs11, Hx11⟩ := cells_new w10 #[.slice aS n2 cS, .slice bS m dS] 25
       obtain ⟨l7a, l7b⟩ := row_two (keepB (stepB (stepB (stepB (stepB (stepB (stepB (stepB (stepB (stepB (stepB S1.out S2.out) KL.out.2) KW.out.2) Hb5.out) KD.out) (Hb7.out.trans HLxD.out)) KC.out.2) Hb9.out) KS.out.2) Hb11.out) HH.out))
    | (go_at_call 13; (with_reducible refine (prefix_h (HI.out.below (stepB (stepB (stepB (stepB (stepB (stepB (stepB (stepB (stepB (stepB S1.out S2.out) KL.out.2) KW.out.2) Hb5.out) KD.out) (Hb7.out.trans HLxD.out)) KC.out.2) Hb9.out) KS.out.2) Hb11.out)) z Hep.out Hmp.out).mono ?_); rintro e w12 ⟨aP, cP, bP, dP, rfl, KP⟩)
    | (go_at_call 28; (with_reducible refine (check_h KP.out.1 (HG.out.below' (stepB (stepB (stepB (stepB (stepB (stepB (stepB (stepB (stepB (stepB (stepB S1.out S2.out) KL.out.2) KW.out.2) Hb5.out) KD.out) (Hb7.out.trans HLxD.out)) KC.out.2) Hb9.out) KS.out.2) Hb11.out) KP.out.2)) HcP.out).mono ?_); rintro e w13 ⟨rfl, S13⟩
       obtain ⟨l8a, l8b⟩ := row_two (keepB (stepB (stepB (stepB (stepB (stepB (stepB (stepB KD.out (Hb7.out.trans HLxD.out)) KC.out.2) Hb9.out) KS.out.2) Hb11.out) KP.out.2) S13.out) Hx5.out))
    | (go_at_call 28; (with_reducible refine (check_h (KW.out.1.below (stepB (stepB (stepB (stepB (stepB (stepB (stepB (stepB Hb5.out KD.out) (Hb7.out.trans HLxD.out)) KC.out.2) Hb9.out) KS.out.2) Hb11.out) KP.out.2) S13.out)) (HG.out.below' (stepB (stepB (stepB (stepB (stepB (stepB (stepB (stepB (stepB (stepB (stepB (stepB S1.out S2.out) KL.out.2) KW.out.2) Hb5.out) KD.out) (Hb7.out.trans HLxD.out)) KC.out.2) Hb9.out) KS.out.2) Hb11.out) KP.out.2) S13.out)) HcW.out).mono ?_); rintro e w14 ⟨rfl, S14⟩
       obtain ⟨l9a, l9b⟩ := row_two (keepB (stepB (stepB (stepB (stepB KS.out.2 Hb11.out) KP.out.2) S13.out) S14.out) Hx9.out))
    | (go_at_call 28; (with_reducible refine (check_h (KC.out.1.below (stepB (stepB (stepB (stepB (stepB Hb9.out KS.out.2) Hb11.out) KP.out.2) S13.out) S14.out)) (HG.out.below' (stepB (stepB (stepB (stepB (stepB (stepB (stepB (stepB (stepB (stepB (stepB (stepB (stepB S1.out S2.out) KL.out.2) KW.out.2) Hb5.out) KD.out) (Hb7.out.trans HLxD.out)) KC.out.2) Hb9.out) KS.out.2) Hb11.out) KP.out.2) S13.out) S14.out)) HcC.out).mono ?_); rintro e w15 ⟨rfl, S15⟩
       obtain ⟨l10a, l10b⟩ := row_two (keepB (stepB (stepB (stepB KP.out.2 S13.out) S14.out) S15.out) Hx11.out))
    | (go_at_call 28; (with_reducible refine (check_h (KS.out.1.below (stepB (stepB (stepB (stepB Hb11.out KP.out.2) S13.out) S14.out) S15.out)) (HG.out.below' (stepB (stepB (stepB (stepB (stepB (stepB (stepB (stepB (stepB (stepB (stepB (stepB (stepB (stepB S1.out S2.out) KL.out.2) KW.out.2) Hb5.out) KD.out) (Hb7.out.trans HLxD.out)) KC.out.2) Hb9.out) KS.out.2) Hb11.out) KP.out.2) S13.out) S14.out) S15.out)) HcS.out).mono ?_); rintro e w16 ⟨rfl, S16⟩
       obtain ⟨l11a, l11b⟩ := row_two (keepB (stepB (stepB (stepB (stepB (stepB (stepB (stepB (stepB (stepB (stepB KD.out (Hb7.out.trans HLxD.out)) KC.out.2) Hb9.out) KS.out.2) Hb11.out) KP.out.2) S13.out) S14.out) S15.out) S16.out) Hx5.out))
    | (go_at_call 24; (with_reducible refine (tab_h (KW.out.1.below (stepB (stepB (stepB (stepB (stepB (stepB (stepB (stepB (stepB (stepB (stepB Hb5.out KD.out) (Hb7.out.trans HLxD.out)) KC.out.2) Hb9.out) KS.out.2) Hb11.out) KP.out.2) S13.out) S14.out) S15.out) S16.out)) (HG.out.below' (stepB (stepB (stepB (stepB (stepB (stepB (stepB (stepB (stepB (stepB (stepB (stepB (stepB (stepB (stepB S1.out S2.out) KL.out.2) KW.out.2) Hb5.out) KD.out) (Hb7.out.trans HLxD.out)) KC.out.2) Hb9.out) KS.out.2) Hb11.out) KP.out.2) S13.out) S14.out) S15.out) S16.out)) HzW.out HN2.out).mono ?_); rintro e w17 ⟨aM, cM, rfl, KM⟩))
  have HTL : Hid (TxIn w17 aL s.recs) := KL.out.1.below (stepB (stepB (stepB (stepB (stepB (stepB (stepB (stepB (stepB (stepB (stepB (stepB (stepB KW.out.2 Hb5.out) KD.out) (Hb7.out.trans HLxD.out)) KC.out.2) Hb9.out) KS.out.2) Hb11.out) KP.out.2) S13.out) S14.out) S15.out) S16.out) KM.out.2)
  have HTM : Hid (TxIn w17 aM s2.recs) := KM.out.1
  have BV : Hid (Below w.heap.size w w17) := stepB HB.out (stepB (stepB (stepB (stepB (stepB (stepB (stepB (stepB (stepB (stepB (stepB (stepB (stepB (stepB (stepB (stepB S1.out S2.out) KL.out.2) KW.out.2) Hb5.out) KD.out) (Hb7.out.trans HLxD.out)) KC.out.2) Hb9.out) KS.out.2) Hb11.out) KP.out.2) S13.out) S14.out) S15.out) S16.out) KM.out.2)
  generalize s.recs = L at *
  generalize s2.recs = M at *
  have HV : Hid (M.map Rec.vw = (others x L).map Rec.vw) := Hvw.out
  go_loopw [21, 22] (fun cn i wr => ∃ j : Nat, j ≤ N ∧ i = .int .i64 ((j : Nat) : Int) ∧ (∃ q : Nat, cn = .int .i64 ((q : Nat) : Int) ∧ q ≤ j ∧ Hid ((others x (L.take j)).length = q)) ∧ Hid (Below w17.heap.size w17 wr)) (fun _ i _ => N - (intOf i).toNat)
  case atStart => exact ⟨0, Nat.zero_le _, rfl, ⟨0, rfl, Nat.le_refl _, rfl⟩, Below.refl _ _⟩
  case round =>
    obtain ⟨j, hj, rfl, ⟨q, rfl, hqj, HQ⟩, HBr⟩ := hrel
    by_cases hlt : j < N
    · obtain ⟨b4, o4, r, a4, d4, rfl, hr, -, hc⟩ := HTL.out j (by rw [HN.out]; exact hlt)
      obtain ⟨u0, u1, u2, -, -, -, u6⟩ := hc wr HBr.out
      have hltI : (j : Int) < (N : Int) := by omega
      have hj0 : (0 : Int) ≤ (j : Int) := by omega
      have hq6 : (q : Int) ≤ 100000 := by omega
      have BD : Hid (Below w17.heap.size w17 wr.drew) := HBr.out.drew
      obtain ⟨e0, e1, e2, -, -, -, e6⟩ := hc wr.drew BD.out
      have hcn := others_next x hr
      rw [HQ.out] at hcn
      by_cases hx : r.id = x
      · rw [if_pos hx] at hcn
        have HNn : Hid ((others x (L.take (j + 1))).length = q) := hcn
        have hx1 : (r.id == x) = true := beq_yes hx
        generalize r.id = u at *
        generalize r.thread = th at *
        generalize r.status = st at *
        generalize r.ds.length = dl at *
        clear hc hr hcn hx e0 e1 e2 e6 BD
        go_wp2_with fail
        go_roundw
        case rel => exact ⟨j + 1, by omega, by go_num, ⟨q, by go_num, by omega, HNn.out⟩, HBr.out⟩
        case measure => simp [intOf]; omega
      · rw [if_neg hx] at hcn
        have HNn : Hid ((others x (L.take (j + 1))).length = q + 1) := hcn
        have hx1 : (r.id == x) = false := beq_no hx
        obtain ⟨r2, hm2, hid, hst, hdl, hth⟩ := others_get HV.out hr hx
        rw [HQ.out] at hm2
        have hq2 : q < N2 := by have := (List.getElem?_eq_some_iff.1 hm2).1; rw [HN2.out] at this; exact this
        obtain ⟨b5, o5, r3, a5, d5, rfl, hm3, -, hc5⟩ := HTM.out q (by rw [HN2.out]; exact hq2)
        rw [hm2] at hm3
        injection hm3 with hm3
        subst hm3
        obtain ⟨f0, f1, f2, -, -, -, f6⟩ := hc5 wr.drew BD.out
        rw [hid] at f0
        rw [hth] at f1
        rw [hst] at f2
        rw [hdl] at f6
        have hqI : (q : Int) < (N2 : Int) := by omega
        have hq0 : (0 : Int) ≤ (q : Int) := by omega
        have hge1 : decide ((N2 : Int) ≤ (q : Int)) = false := by simp; omega
        have hge2 : decide (N2 ≤ q) = false := by simp; omega
        clear hc hc5 hm2 hr hcn hx hid hst hdl hth
        generalize r.id = u at *
        generalize r.thread = th at *
        generalize r.status = st at *
        generalize r.ds.length = dl at *
        have n1 : (u != u) = false := by simp
        have n2 : (st != st) = false := by simp
        have n3 : (th != th) = false := by simp
        have n4 : ((dl : Int) != (dl : Int)) = false := by simp
        have HSR : Hid ((wr.drew.cell? ⟨b4, o4 + j * 7, none⟩ = some (.int .i64 u) ∧ wr.drew.cell? ⟨b4, o4 + j * 7 + 1, none⟩ = some (.int .i64 th) ∧ wr.drew.cell? ⟨b4, o4 + j * 7 + 2, none⟩ = some (.int .i64 st) ∧ wr.drew.cell? ⟨b4, o4 + j * 7 + 6, none⟩ = some (.slice a4 dl d4)) ∧ (wr.drew.cell? ⟨b5, o5 + q * 7, none⟩ = some (.int .i64 u) ∧ wr.drew.cell? ⟨b5, o5 + q * 7 + 1, none⟩ = some (.int .i64 th) ∧ wr.drew.cell? ⟨b5, o5 + q * 7 + 2, none⟩ = some (.int .i64 st) ∧ wr.drew.cell? ⟨b5, o5 + q * 7 + 6, none⟩ = some (.slice a5 dl d5))) := ⟨⟨e0, e1, e2, e6⟩, f0, f1, f2, f6⟩
        clear e0 e1 e2 e6 f0 f1 f2 f6
        go_wp2_with fail
        go_region_held3 (fun w' => (w'.cell? ⟨b4, o4 + j * 7, none⟩ = some (.int .i64 u) ∧ w'.cell? ⟨b4, o4 + j * 7 + 1, none⟩ = some (.int .i64 th) ∧ w'.cell? ⟨b4, o4 + j * 7 + 2, none⟩ = some (.int .i64 st) ∧ w'.cell? ⟨b4, o4 + j * 7 + 6, none⟩ = some (.slice a4 dl d4)) ∧ (w'.cell? ⟨b5, o5 + q * 7, none⟩ = some (.int .i64 u) ∧ w'.cell? ⟨b5, o5 + q * 7 + 1, none⟩ = some (.int .i64 th) ∧ w'.cell? ⟨b5, o5 + q * 7 + 2, none⟩ = some (.int .i64 st) ∧ w'.cell? ⟨b5, o5 + q * 7 + 6, none⟩ = some (.slice a5 dl d5)))
          (first | (with_reducible exact HSR.out))
          (fail)
        go_wp2_with fail
        go_roundw
        case rel => exact ⟨j + 1, by omega, by go_num, ⟨q + 1, by go_num, by omega, HNn.out⟩, BD.out⟩
        case measure => simp [intOf]; omega
    · have hjm : j = N := by omega
      have hqf : q = N2 := by rw [← HQ.out, hjm, List.take_of_length_le (by have := HN.out; omega), ← others_len HV.out, HN2.out]
      subst hqf
      have hqq : ((q : Int) == (q : Int)) = true := by simp
      go_wp2_with fail
      go_ret
      exact ⟨rfl, stepB BV.out HBr.out⟩

set_option maxHeartbeats 16000000 in
set_option maxRecDepth 100000 in
theorem formed_big {a0 b0 : Option Addr} {n c0 m d0 : Nat} (z x k : Int) (w : World) (hG : Glob 126 er w) (hsm : smallB n m = false) :
    Calls Tryd.prog 5 #[hv a0 n c0 b0 m d0, .int .i64 z, .int .i64 x, .int .i64 k] w fun e w' => e = .returned (.bool true) ∧ Hid (Below w.heap.size w w') := by
  obtain ⟨W1, hW1, Hb1, hs1, Hx1⟩ := cells_new w #[.slice a0 n c0, .slice b0 m d0] 25
  have HB : Hid (Below w.heap.size w W1) := Hb1.out
  have HG := Lib.hid (hG.below' HB.out)
  have HH : Hid (W1.heap[w.heap.size]? = some (.cells #[.slice a0 n c0, .slice b0 m d0] 25)) := Hx1.out
  have HS := Lib.hid (fun V => small_any a0 b0 n c0 m d0 V)
  rw [hsm] at HS
  clear hG Hb1 hs1 Hx1 hsm
  go_enter Tryd.func5, Tryd.ntmps5
  go_wp2_with (first
    | (go_at_call 8; (with_reducible refine (first_any W1 HG.out).mono ?_); rintro e w1 ⟨rfl, S1⟩
       obtain ⟨l1a, l1b⟩ := row_two (keepB S1.out HH.out))
    | (go_at_call 9; (with_reducible refine (HS.out w1).mono ?_); rintro e w2 ⟨rfl, S2⟩))
  go_ret
  exact ⟨rfl, stepB HB.out (stepB S1.out S2.out)⟩

set_option maxHeartbeats 16000000 in
set_option maxRecDepth 100000 in
theorem formed_bad {a0 b0 : Option Addr} {n c0 m d0 : Nat} {os : List (Int × Int)} {es : List Ev} (z x k : Int) (w : World) (hI : InH w a0 n c0 b0 m d0 os es) (hG : Glob 126 er w) (hsm : smallB n m = true) (hz : tabZ os es = none) :
    Calls Tryd.prog 5 #[hv a0 n c0 b0 m d0, .int .i64 z, .int .i64 x, .int .i64 k] w fun e w' => e = .returned (.bool true) ∧ Hid (Below w.heap.size w w') := by
  obtain ⟨W1, hW1, Hb1, hs1, Hx1⟩ := cells_new w #[.slice a0 n c0, .slice b0 m d0] 25
  have HB : Hid (Below w.heap.size w W1) := Hb1.out
  have HG := Lib.hid (hG.below' HB.out)
  have HH : Hid (W1.heap[w.heap.size]? = some (.cells #[.slice a0 n c0, .slice b0 m d0] 25)) := Hx1.out
  have HS := Lib.hid (fun V => small_any a0 b0 n c0 m d0 V)
  rw [hsm] at HS
  have HI := Lib.hid (hI.below HB.out)
  have Hz := Lib.hid hz
  clear hI hG Hb1 hs1 Hx1 hsm hz
  go_enter Tryd.func5, Tryd.ntmps5
  go_wp2_with (first
    | (go_at_call 8; (with_reducible refine (first_any W1 HG.out).mono ?_); rintro e w1 ⟨rfl, S1⟩
       obtain ⟨l1a, l1b⟩ := row_two (keepB S1.out HH.out))
    | (go_at_call 9; (with_reducible refine (HS.out w1).mono ?_); rintro e w2 ⟨rfl, S2⟩
       obtain ⟨l2a, l2b⟩ := row_two (keepB (stepB S1.out S2.out) HH.out))
    | (go_at_call 24; (with_reducible refine (tabErr_h (HI.out.below (stepB S1.out S2.out)) (HG.out.below' (stepB S1.out S2.out)) Hz.out).mono ?_); rintro e w3 ⟨t3, p3, rfl, S3⟩))
  go_ret
  exact ⟨rfl, stepB HB.out (stepB (stepB S1.out S2.out) S3.out)⟩
theorem formed_all {a0 b0 : Option Addr} {n c0 m d0 : Nat} {os : List (Int × Int)} {es : List Ev} (z x k : Int) (w : World) (h1 : os.length = n ∧ es.length = m) (h2 : n ≤ c0 ∧ m ≤ d0) (so : SlAt w a0 (obs os)) (se : SlAt w b0 (evs es)) (hG : Glob 126 er w) :
    Calls Tryd.prog 5 #[hv a0 n c0 b0 m d0, .int .i64 z, .int .i64 x, .int .i64 k] w fun e w' => e = .returned (.bool true) ∧ Hid (Below w.heap.size w w') := by
  cases hsm : smallB n m with
  | false => exact formed_big z x k w hG hsm
  | true =>
    have hh := hsm
    unfold smallB at hh
    rw [Bool.and_eq_true, decide_eq_true_eq, decide_eq_true_eq] at hh
    have hI : InH w a0 n c0 b0 m d0 os es := ⟨h1.1, h1.2, h2.1, h2.2, so, se, by omega⟩
    cases hz : tabZ os es with
    | none => exact formed_bad z x k w hI hG hsm hz
    | some s =>
      cases hd : dropZ os es x k with
      | out l => exact formed_ok z x k w hI hG hsm hz hd
      | shape => exact formed_err z x k w hI hG hsm hz (fun l => by rw [hd]; simp)
      | tx => exact formed_err z x k w hI hG hsm hz (fun l => by rw [hd]; simp)
      | index => exact formed_err z x k w hI hG hsm hz (fun l => by rw [hd]; simp)
end Go.Proofs.YtfjjhjojcgacbaaDoor
