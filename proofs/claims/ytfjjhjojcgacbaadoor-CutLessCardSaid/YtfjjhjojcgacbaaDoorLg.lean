/- The walk of the statement on less: Drop err, case 0. -/
import Derived.Test.YtfjjhjojcgacbaaDoorM9
import Derived.Deep.Cut
namespace Go.Proofs.YtfjjhjojcgacbaaDoor
open Go.RowKit Go.Maps Go.WideMaps Go.WideElems Go.ChangeShapes Go.WideShapes
variable {T : TypeId} {er : Nat → Addr}

set_option maxHeartbeats 16000000 in
set_option maxRecDepth 100000 in
theorem less_err0 {a0 b0 : Option Addr} {n c0 m d0 : Nat} {os : List (Int × Int)} {es : List Ev} (z x y k : Int) (w : World) (hI : InH w a0 n c0 b0 m d0 os es) (hG : Glob 126 er w) (hsm : smallB n m = true) (hd : ∀ l, dropZ os es x k ≠ .out l)
    (h1 : decide (subN (es.filter fun e => !(e.tx == x)) (es.take (preN z m)) = (es.filter fun e => !(e.tx == x)).length) = false) :
    Calls Tryd.prog 6 #[hv a0 n c0 b0 m d0, .int .i64 z, .int .i64 x, .int .i64 y, .int .i64 k] w fun e w' => e = .returned (.bool true) ∧ Hid (Below w.heap.size w w') := by
  obtain ⟨W1, hW1, Hb1, hs1, Hx1⟩ := cells_new w #[.slice a0 n c0, .slice b0 m d0] 25
  obtain ⟨W2, hW2, Hb2, hs2, Hx2⟩ := cells_new W1 #[.int .i64 x] 3
  obtain ⟨W3, hW3, Hb3, hs3, Hx3⟩ := cells_new W2 #[.int .i64 y] 3
  have HB : Hid (Below w.heap.size w W3) := stepB (stepB Hb1.out Hb2.out) Hb3.out
  have HI := Lib.hid (hI.below HB.out)
  have HG := Lib.hid (hG.below' HB.out)
  have HH : Hid (W3.heap[w.heap.size]? = some (.cells #[.slice a0 n c0, .slice b0 m d0] 25)) := keepB Hb3.out (keepB Hb2.out Hx1.out)
  have HX : Hid (W3.heap[W1.heap.size]? = some (.cells #[.int .i64 x] 3)) := keepB Hb3.out Hx2.out
  have HY : Hid (W3.heap[W2.heap.size]? = some (.cells #[.int .i64 y] 3)) := Hx3.out
  have hmE := hI.hm
  obtain ⟨ep, hep⟩ : ∃ l, es.take (preN z m) = l := ⟨_, rfl⟩
  obtain ⟨mp, hmp⟩ : ∃ l, ep.length = l := ⟨_, rfl⟩
  obtain ⟨ew, hew⟩ : ∃ l, (es.filter fun e => !(e.tx == x)) = l := ⟨_, rfl⟩
  obtain ⟨mw, hmw⟩ : ∃ l, ew.length = l := ⟨_, rfl⟩
  obtain ⟨eq, heq⟩ : ∃ l, (ep.filter fun e => !(e.tx == x)) = l := ⟨_, rfl⟩
  obtain ⟨mq, hmq⟩ : ∃ l, eq.length = l := ⟨_, rfl⟩
  obtain ⟨eb, heb⟩ : ∃ l, (ew.filter fun e => !(e.tx == y)) = l := ⟨_, rfl⟩
  obtain ⟨mb, hmb⟩ : ∃ l, eb.length = l := ⟨_, rfl⟩
  obtain ⟨ey, hey⟩ : ∃ l, (es.filter fun e => !(e.tx == y)) = l := ⟨_, rfl⟩
  obtain ⟨my, hmy⟩ : ∃ l, ey.length = l := ⟨_, rfl⟩
  have het : (ey.filter fun e => !(e.tx == x)) = eb := by
    rw [← heb, ← hey, ← hew, List.filter_filter, List.filter_filter]
    congr 1
    funext e
    exact Bool.and_comm _ _
  have her : (es.filter fun e => !(e.tx == x) && !(e.tx == y)) = eb := by
    rw [← heb, ← hew, List.filter_filter]
    congr 1
    funext e
    exact Bool.and_comm _ _
  obtain ⟨eo, heo⟩ : ∃ l, (es.filter fun e => e.tx == x) = l := ⟨_, rfl⟩
  obtain ⟨mo, hmo⟩ : ∃ l, eo.length = l := ⟨_, rfl⟩
  obtain ⟨ef, hef⟩ : ∃ l, (ep.filter fun e => e.tx == x) = l := ⟨_, rfl⟩
  obtain ⟨mf, hmf⟩ : ∃ l, ef.length = l := ⟨_, rfl⟩
  have sp : ep.Sublist es := by rw [← hep]; exact List.take_sublist _ _
  have sw : ew.Sublist es := by rw [← hew]; exact List.filter_sublist
  have sq : eq.Sublist ep := by rw [← heq]; exact List.filter_sublist
  have sfo : ef.Sublist eo := by rw [← hef, ← heo]; exact List.Sublist.filter _ sp
  have hmfo : mf ≤ mo := by rw [← hmf, ← hmo]; exact sfo.length_le
  have hfin : eo.take (preN (mf : Int) mo) = ef := by
    rw [preN_of hmfo, ← hmf, ← hef, ← heo, ← hep]
    exact filter_take _ _ _
  have Hep := Lib.hid hep
  have Hmp := Lib.hid hmp
  have Hew := Lib.hid hew
  have Hmw := Lib.hid hmw
  have Heq := Lib.hid heq
  have Hmq := Lib.hid hmq
  have Heb := Lib.hid heb
  have Hmb := Lib.hid hmb
  have Hey := Lib.hid hey
  have Hmy := Lib.hid hmy
  have Het := Lib.hid het
  have Her := Lib.hid her
  have Heo := Lib.hid heo
  have Hmo := Lib.hid hmo
  have Hef := Lib.hid hef
  have Hmf := Lib.hid hmf
  have Hfin := Lib.hid hfin
  have R1 : Hid (subB os os ep es mp = true) := subB_of (by rw [← hmp, subN_sub sp]; simp)
  have R2 : Hid (subB os os ew es mw = true) := subB_of (by rw [← hmw, subN_sub sw]; simp)
  have R3 : Hid (subB os os eq ep mq = true) := subB_of (by rw [← hmq, subN_sub sq]; simp)
  have R4 : Hid (subB os os eq es mq = true) := subB_of (by rw [← hmq, subN_sub (sq.trans sp)]; simp)
  have R6 : Hid (subB os os es es m = true) := subB_of (by rw [← hmE, subN_sub (List.Sublist.refl es)]; simp)
  have R7 : Hid (sameB os os eb eb = true) := sameB_of rfl
  have R9 : Hid (sameB os os ef ef = true) := sameB_of rfl
  rw [hew, hep, hmw] at h1
  have Q1 : Hid (subB os os ew ep mw = false) := subB_of h1
  have Hd := Lib.hid hd
  have Hsm := Lib.hid hsm
  have hm6 : (mp : Int) ≤ 100000 := by
    have h3 := hI.few.2
    have h4 := sp.length_le
    rw [hmp, hmE] at h4
    omega
  clear hI hG Hb1 Hb2 Hb3 hs1 hs2 hs3 Hx1 Hx2 Hx3 hep hmp hew hmw heq hmq heb hmb hey hmy het her heo hmo hef hmf hfin sp sw sq sfo hmfo hd hsm h1 hmE
  have HS := Lib.hid (fun V => small_any a0 b0 n c0 m d0 V)
  rw [Hsm.out] at HS
  go_enter Tryd.func6, Tryd.ntmps6
  go_wp2_with (first
    | (go_at_call 8; (with_reducible refine (first_any W3 HG.out).mono ?_); rintro e w1 ⟨rfl, S1⟩
       obtain ⟨l1a, l1b⟩ := row_two (keepB S1.out HH.out))
    | (go_at_call 9; (with_reducible refine (HS.out w1).mono ?_); rintro e w2 ⟨rfl, S2⟩
       obtain ⟨l2a, l2b⟩ := row_two (keepB (stepB S1.out S2.out) HH.out))
    | (go_at_call 13; (with_reducible refine (prefix_h (HI.out.below (stepB S1.out S2.out)) z Hep.out Hmp.out).mono ?_); rintro e w3 ⟨aP, cP, bP, dP, rfl, KP⟩
       obtain ⟨W4, hW4, Hb4, hs4, Hx4⟩ := cells_new w3 #[.slice aP n cP, .slice bP mp dP] 25
       obtain ⟨l3a, l3b⟩ := row_two (keepB (stepB (stepB (stepB S1.out S2.out) KP.out.2) Hb4.out) HH.out)
       have l4 := row_uno (keepB (stepB (stepB (stepB S1.out S2.out) KP.out.2) Hb4.out) HX.out))
    | (go_at_call 15; (with_reducible refine (without_h (HI.out.below (stepB (stepB (stepB S1.out S2.out) KP.out.2) Hb4.out)) x Hew.out Hmw.out).mono ?_); rintro e w5 ⟨aW, cW, bW, dW, rfl, KW⟩
       obtain ⟨W6, hW6, Hb6, hs6, Hx6⟩ := cells_new w5 #[.slice aW n cW, .slice bW mw dW] 25
       obtain ⟨l5a, l5b⟩ := row_two (keepB (stepB KW.out.2 Hb6.out) Hx4.out)
       have l6 := row_uno (keepB (stepB (stepB (stepB (stepB (stepB S1.out S2.out) KP.out.2) Hb4.out) KW.out.2) Hb6.out) HX.out))
    | (go_at_call 15; (with_reducible refine (without_h (KP.out.1.below (stepB (stepB Hb4.out KW.out.2) Hb6.out)) x Heq.out Hmq.out).mono ?_); rintro e w7 ⟨aQ, cQ, bQ, dQ, rfl, KQ⟩
       obtain ⟨W8, hW8, Hb8, hs8, Hx8⟩ := cells_new w7 #[.slice aQ n cQ, .slice bQ mq dQ] 25
       obtain ⟨l7a, l7b⟩ := row_two (keepB (stepB (stepB (stepB (stepB (stepB (stepB (stepB S1.out S2.out) KP.out.2) Hb4.out) KW.out.2) Hb6.out) KQ.out.2) Hb8.out) HH.out)
       have l8 := row_uno (keepB (stepB (stepB (stepB (stepB (stepB (stepB (stepB S1.out S2.out) KP.out.2) Hb4.out) KW.out.2) Hb6.out) KQ.out.2) Hb8.out) HX.out))
    | (go_at_call 25; (with_reducible refine (dropErr_h (HI.out.below (stepB (stepB (stepB (stepB (stepB (stepB (stepB S1.out S2.out) KP.out.2) Hb4.out) KW.out.2) Hb6.out) KQ.out.2) Hb8.out)) x k (HG.out.below' (stepB (stepB (stepB (stepB (stepB (stepB (stepB S1.out S2.out) KP.out.2) Hb4.out) KW.out.2) Hb6.out) KQ.out.2) Hb8.out)) Hd.out).mono ?_); rintro e w9 ⟨tD, pD, rfl, KD⟩
       obtain ⟨W10, hW10, Hb10, hs10, Hx10⟩ := cells_new w9 #[.slice none 0 0, .slice none 0 0] 25
       obtain ⟨GD1, GD2, hGD1, hGD2, ⟨⟨gD0, lD0⟩, ⟨gD1, lD1⟩⟩, HGxD, HLxD, HCgD, HOgD⟩ := box_put2x (w := w9) (.slice none 0 0) (.slice none 0 0) Hx10.out (Nat.le_refl _)
       obtain ⟨l9a, l9b⟩ := row_two (keepB (stepB (stepB (stepB (stepB (stepB KW.out.2 Hb6.out) KQ.out.2) Hb8.out) KD.out) (Hb10.out.trans HLxD.out)) Hx4.out)
       obtain ⟨l10a, l10b⟩ := row_two (keepB (stepB (stepB (stepB (stepB (stepB (stepB (stepB (stepB (stepB S1.out S2.out) KP.out.2) Hb4.out) KW.out.2) Hb6.out) KQ.out.2) Hb8.out) KD.out) (Hb10.out.trans HLxD.out)) HH.out))
    | (go_at_call 21; (with_reducible refine (sub_h (KP.out.1.below (stepB (stepB (stepB (stepB (stepB (stepB Hb4.out KW.out.2) Hb6.out) KQ.out.2) Hb8.out) KD.out) (Hb10.out.trans HLxD.out))) (HI.out.below (stepB (stepB (stepB (stepB (stepB (stepB (stepB (stepB (stepB S1.out S2.out) KP.out.2) Hb4.out) KW.out.2) Hb6.out) KQ.out.2) Hb8.out) KD.out) (Hb10.out.trans HLxD.out))) R1.out).mono ?_); rintro e w11 ⟨rfl, S11⟩
       obtain ⟨l11a, l11b⟩ := row_two (keepB (stepB (stepB (stepB (stepB KQ.out.2 Hb8.out) KD.out) (Hb10.out.trans HLxD.out)) S11.out) Hx6.out)
       obtain ⟨l12a, l12b⟩ := row_two (keepB (stepB (stepB (stepB (stepB (stepB (stepB (stepB (stepB (stepB (stepB S1.out S2.out) KP.out.2) Hb4.out) KW.out.2) Hb6.out) KQ.out.2) Hb8.out) KD.out) (Hb10.out.trans HLxD.out)) S11.out) HH.out))
    | (go_at_call 21; (with_reducible refine (sub_h (KW.out.1.below (stepB (stepB (stepB (stepB (stepB Hb6.out KQ.out.2) Hb8.out) KD.out) (Hb10.out.trans HLxD.out)) S11.out)) (HI.out.below (stepB (stepB (stepB (stepB (stepB (stepB (stepB (stepB (stepB (stepB S1.out S2.out) KP.out.2) Hb4.out) KW.out.2) Hb6.out) KQ.out.2) Hb8.out) KD.out) (Hb10.out.trans HLxD.out)) S11.out)) R2.out).mono ?_); rintro e w12 ⟨rfl, S12⟩
       obtain ⟨l13a, l13b⟩ := row_two (keepB (stepB (stepB (stepB KD.out (Hb10.out.trans HLxD.out)) S11.out) S12.out) Hx8.out)
       obtain ⟨l14a, l14b⟩ := row_two (keepB (stepB (stepB (stepB (stepB (stepB (stepB (stepB KW.out.2 Hb6.out) KQ.out.2) Hb8.out) KD.out) (Hb10.out.trans HLxD.out)) S11.out) S12.out) Hx4.out))
    | (go_at_call 21; (with_reducible refine (sub_h (KQ.out.1.below (stepB (stepB (stepB (stepB Hb8.out KD.out) (Hb10.out.trans HLxD.out)) S11.out) S12.out)) (KP.out.1.below (stepB (stepB (stepB (stepB (stepB (stepB (stepB (stepB Hb4.out KW.out.2) Hb6.out) KQ.out.2) Hb8.out) KD.out) (Hb10.out.trans HLxD.out)) S11.out) S12.out)) R3.out).mono ?_); rintro e w13 ⟨rfl, S13⟩
       obtain ⟨l15a, l15b⟩ := row_two (keepB (stepB (stepB (stepB (stepB KD.out (Hb10.out.trans HLxD.out)) S11.out) S12.out) S13.out) Hx8.out)
       obtain ⟨l16a, l16b⟩ := row_two (keepB (stepB (stepB (stepB (stepB (stepB (stepB (stepB (stepB (stepB (stepB (stepB (stepB S1.out S2.out) KP.out.2) Hb4.out) KW.out.2) Hb6.out) KQ.out.2) Hb8.out) KD.out) (Hb10.out.trans HLxD.out)) S11.out) S12.out) S13.out) HH.out))
    | (go_at_call 21; (with_reducible refine (sub_h (KQ.out.1.below (stepB (stepB (stepB (stepB (stepB Hb8.out KD.out) (Hb10.out.trans HLxD.out)) S11.out) S12.out) S13.out)) (HI.out.below (stepB (stepB (stepB (stepB (stepB (stepB (stepB (stepB (stepB (stepB (stepB (stepB S1.out S2.out) KP.out.2) Hb4.out) KW.out.2) Hb6.out) KQ.out.2) Hb8.out) KD.out) (Hb10.out.trans HLxD.out)) S11.out) S12.out) S13.out)) R4.out).mono ?_); rintro e w14 ⟨rfl, S14⟩
       obtain ⟨l17a, l17b⟩ := row_two (keepB (stepB (stepB (stepB (stepB (stepB (stepB (stepB (stepB (stepB (stepB (stepB (stepB (stepB S1.out S2.out) KP.out.2) Hb4.out) KW.out.2) Hb6.out) KQ.out.2) Hb8.out) KD.out) (Hb10.out.trans HLxD.out)) S11.out) S12.out) S13.out) S14.out) HH.out))
    | (go_at_call 21; (with_reducible refine (sub_h (HI.out.below (stepB (stepB (stepB (stepB (stepB (stepB (stepB (stepB (stepB (stepB (stepB (stepB (stepB S1.out S2.out) KP.out.2) Hb4.out) KW.out.2) Hb6.out) KQ.out.2) Hb8.out) KD.out) (Hb10.out.trans HLxD.out)) S11.out) S12.out) S13.out) S14.out)) (HI.out.below (stepB (stepB (stepB (stepB (stepB (stepB (stepB (stepB (stepB (stepB (stepB (stepB (stepB S1.out S2.out) KP.out.2) Hb4.out) KW.out.2) Hb6.out) KQ.out.2) Hb8.out) KD.out) (Hb10.out.trans HLxD.out)) S11.out) S12.out) S13.out) S14.out)) R6.out).mono ?_); rintro e w15 ⟨rfl, S15⟩
       obtain ⟨l18a, l18b⟩ := row_two (keepB (stepB (stepB (stepB (stepB (stepB (stepB (stepB (stepB (stepB (stepB (stepB (stepB (stepB (stepB S1.out S2.out) KP.out.2) Hb4.out) KW.out.2) Hb6.out) KQ.out.2) Hb8.out) KD.out) (Hb10.out.trans HLxD.out)) S11.out) S12.out) S13.out) S14.out) S15.out) HH.out)
       have l19 := row_uno (keepB (stepB (stepB (stepB (stepB (stepB (stepB (stepB (stepB (stepB (stepB (stepB (stepB (stepB (stepB S1.out S2.out) KP.out.2) Hb4.out) KW.out.2) Hb6.out) KQ.out.2) Hb8.out) KD.out) (Hb10.out.trans HLxD.out)) S11.out) S12.out) S13.out) S14.out) S15.out) HX.out)
       have l20 := row_uno (keepB (stepB (stepB (stepB (stepB (stepB (stepB (stepB (stepB (stepB (stepB (stepB (stepB (stepB (stepB S1.out S2.out) KP.out.2) Hb4.out) KW.out.2) Hb6.out) KQ.out.2) Hb8.out) KD.out) (Hb10.out.trans HLxD.out)) S11.out) S12.out) S13.out) S14.out) S15.out) HY.out)))
  have HXS : Hid (∀ V, Below W3.heap.size W3 V → (V.cell? ⟨w.heap.size, 0, none⟩ = some (.slice a0 n c0) ∧ V.cell? ⟨w.heap.size, 1, none⟩ = some (.slice b0 m d0)) ∧ V.cell? ⟨W1.heap.size, 0, none⟩ = some (.int .i64 x) ∧ V.cell? ⟨W2.heap.size, 0, none⟩ = some (.int .i64 y)) := fun V hV => ⟨row_two (keepB hV HH.out), row_uno (keepB hV HX.out), row_uno (keepB hV HY.out)⟩
  have HIB := Lib.hid (HI.out.below (stepB (stepB (stepB (stepB (stepB (stepB (stepB (stepB (stepB (stepB (stepB (stepB (stepB (stepB S1.out S2.out) KP.out.2) Hb4.out) KW.out.2) Hb6.out) KQ.out.2) Hb8.out) KD.out) (Hb10.out.trans HLxD.out)) S11.out) S12.out) S13.out) S14.out) S15.out))
  have HXB : Hid (∀ V, Below w15.heap.size w15 V → (V.cell? ⟨w.heap.size, 0, none⟩ = some (.slice a0 n c0) ∧ V.cell? ⟨w.heap.size, 1, none⟩ = some (.slice b0 m d0)) ∧ V.cell? ⟨W1.heap.size, 0, none⟩ = some (.int .i64 x) ∧ V.cell? ⟨W2.heap.size, 0, none⟩ = some (.int .i64 y)) := fun V hV => HXS.out V (stepB (stepB (stepB (stepB (stepB (stepB (stepB (stepB (stepB (stepB (stepB (stepB (stepB (stepB (stepB S1.out S2.out) KP.out.2) Hb4.out) KW.out.2) Hb6.out) KQ.out.2) Hb8.out) KD.out) (Hb10.out.trans HLxD.out)) S11.out) S12.out) S13.out) S14.out) S15.out) hV)
  go_cut [17] from 89 (fun s17 w' => ∃ Q a c b d, s17 = .pointer (some ⟨Q, 0, none⟩) ∧ Hid (BoxH w15 Q a n c b mb d os eb w'))
  case first =>
    go_region_held3 (fun w' => (w'.cell? ⟨w.heap.size, 0, none⟩ = some (.slice a0 n c0) ∧ w'.cell? ⟨w.heap.size, 1, none⟩ = some (.slice b0 m d0)) ∧ w'.cell? ⟨W1.heap.size, 0, none⟩ = some (.int .i64 x) ∧ w'.cell? ⟨W2.heap.size, 0, none⟩ = some (.int .i64 y))
      (first | (refine HXB.out _ ?_; (repeat (first | (with_reducible exact BF.out) | (with_reducible exact B3.out) | (with_reducible exact B2.out) | (with_reducible exact B1.out) | (with_reducible exact Below.refl _ _) | (with_reducible refine stepD ?_) | (with_reducible refine stepA ?_ _))); done))
      (first
        | (go_at_call 15; (with_reducible refine (without_h (HIB.out.below (by (repeat (first | (with_reducible exact Below.refl _ _) | (with_reducible refine stepD ?_) | (with_reducible refine stepA ?_ _))))) x Hew.out Hmw.out).mono ?_); rintro e w1 ⟨a1, c1, b1, d1, rfl, K1⟩
           have B1 : Hid (Below w15.heap.size w15 w1) := stepB (by (repeat (first | (with_reducible exact Below.refl _ _) | (with_reducible refine stepD ?_) | (with_reducible refine stepA ?_ _)))) K1.out.2
           first
             | have TA : Hid (w1.heap[w15.heap.size]? = some (.cells #[.slice none 0 0, .slice none 0 0] 25)) := keepB K1.out.2 (newA _ rfl)
             | have TN := Lib.hid trivial)
        | (go_at_call 15; (with_reducible refine (without_h (K1.out.1.below (by (repeat (first | (with_reducible exact Below.refl _ _) | (with_reducible refine stepD ?_) | (with_reducible refine stepA ?_ _))))) y Heb.out Hmb.out).mono ?_); rintro e w2 ⟨a2, c2, b2, d2, rfl, K2⟩
           have B2 : Hid (Below w15.heap.size w15 w2) := stepB (stepB B1.out (by (repeat (first | (with_reducible exact Below.refl _ _) | (with_reducible refine stepD ?_) | (with_reducible refine stepA ?_ _))))) K2.out.2
           first
             | (have TB := Lib.hid (keepB K2.out.2 TA.out)
                obtain ⟨F1, F2, hF1, hF2, ⟨⟨f0, e0⟩, ⟨f1, e1⟩⟩, HF, HE, HC, HO⟩ := box_put2x (w := w15) (.slice a2 n c2) (.slice b2 mb d2) TB.out (Nat.le_refl _)
                have BF : Hid (Below w15.heap.size w15 F2) := B2.out.trans HE.out
                have HB9 : Hid (BoxH w15 w15.heap.size a2 n c2 b2 mb d2 os eb F2) := ⟨BF.out, HF.out, K2.out.1.put2 TB.out hF1 hF2⟩)
             | (have TB : Hid (w2.heap[w1.heap.size]? = some (.cells #[.slice none 0 0, .slice none 0 0] 25)) := keepB K2.out.2 (newA _ rfl)
                obtain ⟨F1, F2, hF1, hF2, ⟨⟨f0, e0⟩, ⟨f1, e1⟩⟩, HF, HE, HC, HO⟩ := box_put2x (w := w15) (.slice a2 n c2) (.slice b2 mb d2) TB.out B1.out.size
                have BF : Hid (Below w15.heap.size w15 F2) := B2.out.trans HE.out
                have HB9 : Hid (BoxH w15 w1.heap.size a2 n c2 b2 mb d2 os eb F2) := ⟨BF.out, HF.out, K2.out.1.put2 TB.out hF1 hF2⟩)
             | (obtain ⟨V3, hV3, b3, -, TB⟩ := cells_new w2 #[.slice none 0 0, .slice none 0 0] 25
                have B3 : Hid (Below w15.heap.size w15 V3) := stepB B2.out b3.out
                obtain ⟨F1, F2, hF1, hF2, ⟨⟨f0, e0⟩, ⟨f1, e1⟩⟩, HF, HE, HC, HO⟩ := box_put2x (w := w15) (.slice a2 n c2) (.slice b2 mb d2) TB.out B2.out.size
                have BF : Hid (Below w15.heap.size w15 F2) := (stepB B2.out b3.out).trans HE.out
                have HB9 : Hid (BoxH w15 w2.heap.size a2 n c2 b2 mb d2 os eb F2) := ⟨BF.out, HF.out, (K2.out.1.below b3.out).put2 TB.out hF1 hF2⟩)))
    all_goals
      go_wp2_with fail
      go_meet
      case rel => exact ⟨_, _, _, _, _, rfl, HB9⟩
  case rest =>
  obtain ⟨QB, aB, cB, bB, dB, rfl, HBB⟩ := hcut
  obtain ⟨wB, hwB⟩ : ∃ v, v = wc := ⟨_, rfl⟩
  subst hwB
  go_wp2_with fail
  have HIT := Lib.hid (HI.out.below (stepB (stepB (stepB (stepB (stepB (stepB (stepB (stepB (stepB (stepB (stepB (stepB (stepB (stepB (stepB S1.out S2.out) KP.out.2) Hb4.out) KW.out.2) Hb6.out) KQ.out.2) Hb8.out) KD.out) (Hb10.out.trans HLxD.out)) S11.out) S12.out) S13.out) S14.out) S15.out) HBB.out.below))
  have HXT : Hid (∀ V, Below wB.heap.size wB V → (V.cell? ⟨w.heap.size, 0, none⟩ = some (.slice a0 n c0) ∧ V.cell? ⟨w.heap.size, 1, none⟩ = some (.slice b0 m d0)) ∧ V.cell? ⟨W1.heap.size, 0, none⟩ = some (.int .i64 x) ∧ V.cell? ⟨W2.heap.size, 0, none⟩ = some (.int .i64 y)) := fun V hV => HXS.out V (stepB (stepB (stepB (stepB (stepB (stepB (stepB (stepB (stepB (stepB (stepB (stepB (stepB (stepB (stepB (stepB S1.out S2.out) KP.out.2) Hb4.out) KW.out.2) Hb6.out) KQ.out.2) Hb8.out) KD.out) (Hb10.out.trans HLxD.out)) S11.out) S12.out) S13.out) S14.out) S15.out) HBB.out.below) hV)
  go_cut [18] from 94 (fun s18 w' => ∃ Q a c b d, s18 = .pointer (some ⟨Q, 0, none⟩) ∧ Hid (BoxH wB Q a n c b mb d os eb w'))
  case first =>
    go_region_held3 (fun w' => (w'.cell? ⟨w.heap.size, 0, none⟩ = some (.slice a0 n c0) ∧ w'.cell? ⟨w.heap.size, 1, none⟩ = some (.slice b0 m d0)) ∧ w'.cell? ⟨W1.heap.size, 0, none⟩ = some (.int .i64 x) ∧ w'.cell? ⟨W2.heap.size, 0, none⟩ = some (.int .i64 y))
      (first | (refine HXT.out _ ?_; (repeat (first | (with_reducible exact BF.out) | (with_reducible exact B3.out) | (with_reducible exact B2.out) | (with_reducible exact B1.out) | (with_reducible exact Below.refl _ _) | (with_reducible refine stepD ?_) | (with_reducible refine stepA ?_ _))); done))
      (first
        | (go_at_call 15; (with_reducible refine (without_h (HIT.out.below (by (repeat (first | (with_reducible exact Below.refl _ _) | (with_reducible refine stepD ?_) | (with_reducible refine stepA ?_ _))))) y Hey.out Hmy.out).mono ?_); rintro e w1 ⟨a1, c1, b1, d1, rfl, K1⟩
           have B1 : Hid (Below wB.heap.size wB w1) := stepB (by (repeat (first | (with_reducible exact Below.refl _ _) | (with_reducible refine stepD ?_) | (with_reducible refine stepA ?_ _)))) K1.out.2
           first
             | have TA : Hid (w1.heap[wB.heap.size]? = some (.cells #[.slice none 0 0, .slice none 0 0] 25)) := keepB K1.out.2 (newA _ rfl)
             | have TN := Lib.hid trivial)
        | (go_at_call 15; (with_reducible refine (without_h (K1.out.1.below (by (repeat (first | (with_reducible exact Below.refl _ _) | (with_reducible refine stepD ?_) | (with_reducible refine stepA ?_ _))))) x Het.out Hmb.out).mono ?_); rintro e w2 ⟨a2, c2, b2, d2, rfl, K2⟩
           have B2 : Hid (Below wB.heap.size wB w2) := stepB (stepB B1.out (by (repeat (first | (with_reducible exact Below.refl _ _) | (with_reducible refine stepD ?_) | (with_reducible refine stepA ?_ _))))) K2.out.2
           first
             | (have TB := Lib.hid (keepB K2.out.2 TA.out)
                obtain ⟨F1, F2, hF1, hF2, ⟨⟨f0, e0⟩, ⟨f1, e1⟩⟩, HF, HE, HC, HO⟩ := box_put2x (w := wB) (.slice a2 n c2) (.slice b2 mb d2) TB.out (Nat.le_refl _)
                have BF : Hid (Below wB.heap.size wB F2) := B2.out.trans HE.out
                have HB9 : Hid (BoxH wB wB.heap.size a2 n c2 b2 mb d2 os eb F2) := ⟨BF.out, HF.out, K2.out.1.put2 TB.out hF1 hF2⟩)
             | (have TB : Hid (w2.heap[w1.heap.size]? = some (.cells #[.slice none 0 0, .slice none 0 0] 25)) := keepB K2.out.2 (newA _ rfl)
                obtain ⟨F1, F2, hF1, hF2, ⟨⟨f0, e0⟩, ⟨f1, e1⟩⟩, HF, HE, HC, HO⟩ := box_put2x (w := wB) (.slice a2 n c2) (.slice b2 mb d2) TB.out B1.out.size
                have BF : Hid (Below wB.heap.size wB F2) := B2.out.trans HE.out
                have HB9 : Hid (BoxH wB w1.heap.size a2 n c2 b2 mb d2 os eb F2) := ⟨BF.out, HF.out, K2.out.1.put2 TB.out hF1 hF2⟩)
             | (obtain ⟨V3, hV3, b3, -, TB⟩ := cells_new w2 #[.slice none 0 0, .slice none 0 0] 25
                have B3 : Hid (Below wB.heap.size wB V3) := stepB B2.out b3.out
                obtain ⟨F1, F2, hF1, hF2, ⟨⟨f0, e0⟩, ⟨f1, e1⟩⟩, HF, HE, HC, HO⟩ := box_put2x (w := wB) (.slice a2 n c2) (.slice b2 mb d2) TB.out B2.out.size
                have BF : Hid (Below wB.heap.size wB F2) := (stepB B2.out b3.out).trans HE.out
                have HB9 : Hid (BoxH wB w2.heap.size a2 n c2 b2 mb d2 os eb F2) := ⟨BF.out, HF.out, (K2.out.1.below b3.out).put2 TB.out hF1 hF2⟩)))
    all_goals
      go_wp2_with fail
      go_meet
      case rel => exact ⟨_, _, _, _, _, rfl, HB9⟩
  case rest =>
  obtain ⟨QT, aT, cT, bT, dT, rfl, HBT⟩ := hcut
  obtain ⟨wT, hwT⟩ : ∃ v, v = wc := ⟨_, rfl⟩
  subst hwT
  obtain ⟨l21a, l21b⟩ := row_two (keepB (stepB (stepB (stepB (stepB (stepB (stepB (stepB (stepB (stepB (stepB (stepB (stepB (stepB (stepB (stepB (stepB S1.out S2.out) KP.out.2) Hb4.out) KW.out.2) Hb6.out) KQ.out.2) Hb8.out) KD.out) (Hb10.out.trans HLxD.out)) S11.out) S12.out) S13.out) S14.out) S15.out) HBB.out.below) HBT.out.below) HH.out)
  go_wp2_with (first
    | (go_at_call 17; (with_reducible refine (only29_h (HI.out.below (stepB (stepB (stepB (stepB (stepB (stepB (stepB (stepB (stepB (stepB (stepB (stepB (stepB (stepB (stepB (stepB S1.out S2.out) KP.out.2) Hb4.out) KW.out.2) Hb6.out) KQ.out.2) Hb8.out) KD.out) (Hb10.out.trans HLxD.out)) S11.out) S12.out) S13.out) S14.out) S15.out) HBB.out.below) HBT.out.below)) (keepB (stepB (stepB (stepB (stepB (stepB (stepB (stepB (stepB (stepB (stepB (stepB (stepB (stepB (stepB (stepB (stepB S1.out S2.out) KP.out.2) Hb4.out) KW.out.2) Hb6.out) KQ.out.2) Hb8.out) KD.out) (Hb10.out.trans HLxD.out)) S11.out) S12.out) S13.out) S14.out) S15.out) HBB.out.below) HBT.out.below) HX.out) (keepB (stepB (stepB (stepB (stepB (stepB (stepB (stepB (stepB (stepB (stepB (stepB (stepB (stepB (stepB (stepB (stepB S1.out S2.out) KP.out.2) Hb4.out) KW.out.2) Hb6.out) KQ.out.2) Hb8.out) KD.out) (Hb10.out.trans HLxD.out)) S11.out) S12.out) S13.out) S14.out) S15.out) HBB.out.below) HBT.out.below) HY.out) Her.out Hmb.out).mono ?_); rintro e w18 ⟨aR, cR, bR, dR, rfl, KR⟩
       obtain ⟨W19, hW19, Hb19, hs19, Hx19⟩ := cells_new w18 #[.slice aR n cR, .slice bR mb dR] 25
       obtain ⟨l22a, l22b⟩ := row_two (keepB (stepB (stepB HBT.out.below KR.out.2) Hb19.out) HBB.out.box)
       obtain ⟨l23a, l23b⟩ := row_two (keepB (stepB KR.out.2 Hb19.out) HBT.out.box))
    | (go_at_call 12; (with_reducible refine (same_h (HBB.out.inn.below (stepB (stepB HBT.out.below KR.out.2) Hb19.out)) (HBT.out.inn.below (stepB KR.out.2 Hb19.out)) R7.out).mono ?_); rintro e w20 ⟨rfl, S20⟩
       obtain ⟨l24a, l24b⟩ := row_two (keepB (stepB (stepB (stepB HBT.out.below KR.out.2) Hb19.out) S20.out) HBB.out.box)
       obtain ⟨l25a, l25b⟩ := row_two (keepB S20.out Hx19.out))
    | (go_at_call 12; (with_reducible refine (same_h (HBB.out.inn.below (stepB (stepB (stepB HBT.out.below KR.out.2) Hb19.out) S20.out)) (KR.out.1.below (stepB Hb19.out S20.out)) R7.out).mono ?_); rintro e w21 ⟨rfl, S21⟩
       obtain ⟨l26a, l26b⟩ := row_two (keepB (stepB (stepB (stepB (stepB (stepB (stepB (stepB (stepB (stepB (stepB (stepB (stepB (stepB (stepB KQ.out.2 Hb8.out) KD.out) (Hb10.out.trans HLxD.out)) S11.out) S12.out) S13.out) S14.out) S15.out) HBB.out.below) HBT.out.below) KR.out.2) Hb19.out) S20.out) S21.out) Hx6.out)
       obtain ⟨l27a, l27b⟩ := row_two (keepB (stepB (stepB (stepB (stepB (stepB (stepB (stepB (stepB (stepB (stepB (stepB (stepB (stepB (stepB (stepB (stepB KW.out.2 Hb6.out) KQ.out.2) Hb8.out) KD.out) (Hb10.out.trans HLxD.out)) S11.out) S12.out) S13.out) S14.out) S15.out) HBB.out.below) HBT.out.below) KR.out.2) Hb19.out) S20.out) S21.out) Hx4.out))
    | (go_at_call 21; (with_reducible refine (sub_h (KW.out.1.below (stepB (stepB (stepB (stepB (stepB (stepB (stepB (stepB (stepB (stepB (stepB (stepB (stepB (stepB (stepB Hb6.out KQ.out.2) Hb8.out) KD.out) (Hb10.out.trans HLxD.out)) S11.out) S12.out) S13.out) S14.out) S15.out) HBB.out.below) HBT.out.below) KR.out.2) Hb19.out) S20.out) S21.out)) (KP.out.1.below (stepB (stepB (stepB (stepB (stepB (stepB (stepB (stepB (stepB (stepB (stepB (stepB (stepB (stepB (stepB (stepB (stepB Hb4.out KW.out.2) Hb6.out) KQ.out.2) Hb8.out) KD.out) (Hb10.out.trans HLxD.out)) S11.out) S12.out) S13.out) S14.out) S15.out) HBB.out.below) HBT.out.below) KR.out.2) Hb19.out) S20.out) S21.out)) Q1.out).mono ?_); rintro e w22 ⟨rfl, S22⟩
       obtain ⟨l28a, l28b⟩ := row_two (keepB (stepB (stepB (stepB (stepB (stepB (stepB (stepB (stepB (stepB (stepB (stepB (stepB (stepB (stepB (stepB (stepB (stepB (stepB (stepB (stepB (stepB S1.out S2.out) KP.out.2) Hb4.out) KW.out.2) Hb6.out) KQ.out.2) Hb8.out) KD.out) (Hb10.out.trans HLxD.out)) S11.out) S12.out) S13.out) S14.out) S15.out) HBB.out.below) HBT.out.below) KR.out.2) Hb19.out) S20.out) S21.out) S22.out) HH.out))
    | (go_at_call 17; (with_reducible refine (only30_h (HI.out.below (stepB (stepB (stepB (stepB (stepB (stepB (stepB (stepB (stepB (stepB (stepB (stepB (stepB (stepB (stepB (stepB (stepB (stepB (stepB (stepB (stepB S1.out S2.out) KP.out.2) Hb4.out) KW.out.2) Hb6.out) KQ.out.2) Hb8.out) KD.out) (Hb10.out.trans HLxD.out)) S11.out) S12.out) S13.out) S14.out) S15.out) HBB.out.below) HBT.out.below) KR.out.2) Hb19.out) S20.out) S21.out) S22.out)) (keepB (stepB (stepB (stepB (stepB (stepB (stepB (stepB (stepB (stepB (stepB (stepB (stepB (stepB (stepB (stepB (stepB (stepB (stepB (stepB (stepB (stepB S1.out S2.out) KP.out.2) Hb4.out) KW.out.2) Hb6.out) KQ.out.2) Hb8.out) KD.out) (Hb10.out.trans HLxD.out)) S11.out) S12.out) S13.out) S14.out) S15.out) HBB.out.below) HBT.out.below) KR.out.2) Hb19.out) S20.out) S21.out) S22.out) HX.out) Heo.out Hmo.out).mono ?_); rintro e w23 ⟨aO, cO, bO, dO, rfl, KO⟩
       obtain ⟨W24, hW24, Hb24, hs24, Hx24⟩ := cells_new w23 #[.slice aO n cO, .slice bO mo dO] 25
       obtain ⟨l29a, l29b⟩ := row_two (keepB (stepB (stepB (stepB (stepB (stepB (stepB (stepB (stepB (stepB (stepB (stepB (stepB (stepB (stepB (stepB (stepB (stepB (stepB (stepB KW.out.2 Hb6.out) KQ.out.2) Hb8.out) KD.out) (Hb10.out.trans HLxD.out)) S11.out) S12.out) S13.out) S14.out) S15.out) HBB.out.below) HBT.out.below) KR.out.2) Hb19.out) S20.out) S21.out) S22.out) KO.out.2) Hb24.out) Hx4.out)
       have l30 := row_uno (keepB (stepB (stepB (stepB (stepB (stepB (stepB (stepB (stepB (stepB (stepB (stepB (stepB (stepB (stepB (stepB (stepB (stepB (stepB (stepB (stepB (stepB (stepB (stepB S1.out S2.out) KP.out.2) Hb4.out) KW.out.2) Hb6.out) KQ.out.2) Hb8.out) KD.out) (Hb10.out.trans HLxD.out)) S11.out) S12.out) S13.out) S14.out) S15.out) HBB.out.below) HBT.out.below) KR.out.2) Hb19.out) S20.out) S21.out) S22.out) KO.out.2) Hb24.out) HX.out)))
  have HPE := Lib.hid (KP.out.1.below (stepB (stepB (stepB (stepB (stepB (stepB (stepB (stepB (stepB (stepB (stepB (stepB (stepB (stepB (stepB (stepB (stepB (stepB (stepB (stepB Hb4.out KW.out.2) Hb6.out) KQ.out.2) Hb8.out) KD.out) (Hb10.out.trans HLxD.out)) S11.out) S12.out) S13.out) S14.out) S15.out) HBB.out.below) HBT.out.below) KR.out.2) Hb19.out) S20.out) S21.out) S22.out) KO.out.2) Hb24.out))
  have HPB : Hid (W24.heap[w3.heap.size]? = some (.cells #[.slice aP n cP, .slice bP mp dP] 25)) := (keepB (stepB (stepB (stepB (stepB (stepB (stepB (stepB (stepB (stepB (stepB (stepB (stepB (stepB (stepB (stepB (stepB (stepB (stepB (stepB KW.out.2 Hb6.out) KQ.out.2) Hb8.out) KD.out) (Hb10.out.trans HLxD.out)) S11.out) S12.out) S13.out) S14.out) S15.out) HBB.out.below) HBT.out.below) KR.out.2) Hb19.out) S20.out) S21.out) S22.out) KO.out.2) Hb24.out) Hx4.out)
  have HOB : Hid (W24.heap[w23.heap.size]? = some (.cells #[.slice aO n cO, .slice bO mo dO] 25)) := Hx24.out
  have HXB : Hid (W24.heap[W1.heap.size]? = some (.cells #[.int .i64 x] 3)) := (keepB (stepB (stepB (stepB (stepB (stepB (stepB (stepB (stepB (stepB (stepB (stepB (stepB (stepB (stepB (stepB (stepB (stepB (stepB (stepB (stepB (stepB (stepB (stepB S1.out S2.out) KP.out.2) Hb4.out) KW.out.2) Hb6.out) KQ.out.2) Hb8.out) KD.out) (Hb10.out.trans HLxD.out)) S11.out) S12.out) S13.out) S14.out) S15.out) HBB.out.below) HBT.out.below) KR.out.2) Hb19.out) S20.out) S21.out) S22.out) KO.out.2) Hb24.out) HX.out)
  have HOI := Lib.hid (KO.out.1.below Hb24.out)
  have BV : Hid (Below w.heap.size w W24) := stepB HB.out (stepB (stepB (stepB (stepB (stepB (stepB (stepB (stepB (stepB (stepB (stepB (stepB (stepB (stepB (stepB (stepB (stepB (stepB (stepB (stepB (stepB (stepB (stepB S1.out S2.out) KP.out.2) Hb4.out) KW.out.2) Hb6.out) KQ.out.2) Hb8.out) KD.out) (Hb10.out.trans HLxD.out)) S11.out) S12.out) S13.out) S14.out) S15.out) HBB.out.below) HBT.out.below) KR.out.2) Hb19.out) S20.out) S21.out) S22.out) KO.out.2) Hb24.out)
  go_loopw [22, 23] (fun cn i wr => ∃ j : Nat, j ≤ mp ∧ i = .int .i64 ((j : Nat) : Int) ∧ (∃ q : Nat, cn = .int .i64 ((q : Nat) : Int) ∧ q ≤ j ∧ Hid (((ep.take j).filter fun e => e.tx == x).length = q)) ∧ Hid (Below W24.heap.size W24 wr)) (fun _ i _ => mp - (intOf i).toNat)
  case atStart => exact ⟨0, Nat.zero_le _, rfl, ⟨0, rfl, Nat.le_refl _, rfl⟩, Below.refl _ _⟩
  case round =>
    obtain ⟨j, hj, rfl, ⟨q, rfl, hqj, HQ⟩, HBr⟩ := hrel
    obtain ⟨p0, p1⟩ := row_two (keepB HBr.out HPB.out)
    by_cases hlt : j < mp
    · obtain ⟨bb, o, e, rfl, he, hc⟩ := inEv HPE.out hlt
      have hltI : (j : Int) < (mp : Int) := by omega
      have hq6 : (q : Int) ≤ 100000 := by omega
      have BD : Hid (Below W24.heap.size W24 wr.drew) := HBr.out.drew
      have HSR : Hid ((wr.drew.cell? ⟨w3.heap.size, 1, none⟩ = some (.slice (some ⟨bb, o, none⟩) mp dP) ∧ wr.drew.cell? ⟨bb, o + j * 8 + 1, none⟩ = some (.int .i64 e.tx)) ∧ wr.drew.cell? ⟨W1.heap.size, 0, none⟩ = some (.int .i64 x)) := ⟨⟨(row_two (keepB BD.out HPB.out)).2, hc _ BD.out⟩, row_uno (keepB BD.out HXB.out)⟩
      have hcn := cnt_next x he
      rw [HQ.out] at hcn
      obtain ⟨u, hu⟩ : ∃ u, e.tx = u := ⟨_, rfl⟩
      rw [hu] at HSR hcn
      by_cases hx : u = x
      · rw [if_pos hx] at hcn
        have HN : Hid (((ep.take (j + 1)).filter fun e => e.tx == x).length = q + 1) := hcn
        have hx1 : (u == x) = true := beq_yes hx
        clear hc he hcn hu hx
        go_wp2_with fail
        go_region_held3 (fun w' => (w'.cell? ⟨w3.heap.size, 1, none⟩ = some (.slice (some ⟨bb, o, none⟩) mp dP) ∧ w'.cell? ⟨bb, o + j * 8 + 1, none⟩ = some (.int .i64 u)) ∧ w'.cell? ⟨W1.heap.size, 0, none⟩ = some (.int .i64 x))
          (first | (with_reducible exact HSR.out))
          (fail)
        go_wp2_with fail
        go_roundw
        case rel => exact ⟨j + 1, by omega, by go_num, ⟨q + 1, by go_num, by omega, HN.out⟩, BD.out⟩
        case measure => simp [intOf]; omega
      · rw [if_neg hx] at hcn
        have HN : Hid (((ep.take (j + 1)).filter fun e => e.tx == x).length = q) := hcn
        have hx1 : (u == x) = false := beq_no hx
        clear hc he hcn hu hx
        go_wp2_with fail
        go_region_held3 (fun w' => (w'.cell? ⟨w3.heap.size, 1, none⟩ = some (.slice (some ⟨bb, o, none⟩) mp dP) ∧ w'.cell? ⟨bb, o + j * 8 + 1, none⟩ = some (.int .i64 u)) ∧ w'.cell? ⟨W1.heap.size, 0, none⟩ = some (.int .i64 x))
          (first | (with_reducible exact HSR.out))
          (fail)
        go_wp2_with fail
        go_roundw
        case rel => exact ⟨j + 1, by omega, by go_num, ⟨q, by go_num, by omega, HN.out⟩, BD.out⟩
        case measure => simp [intOf]; omega
    · have hjm : j = mp := by omega
      have hqf : q = mf := by rw [← HQ.out, hjm, List.take_of_length_le (by have := Hmp.out; omega), Hef.out, Hmf.out]
      subst hqf
      clear hjm
      have BD : Hid (Below W24.heap.size W24 wr.drew) := HBr.out.drew
      have HSS : Hid (∀ U, Below W24.heap.size W24 U → (U.cell? ⟨w23.heap.size, 0, none⟩ = some (.slice aO n cO) ∧ U.cell? ⟨w23.heap.size, 1, none⟩ = some (.slice bO mo dO)) ∧ (U.cell? ⟨w3.heap.size, 0, none⟩ = some (.slice aP n cP) ∧ U.cell? ⟨w3.heap.size, 1, none⟩ = some (.slice bP mp dP))) := fun U hU => ⟨row_two (keepB hU HOB.out), row_two (keepB hU HPB.out)⟩
      go_wp2_with fail
      go_region_held3 (fun w' => (w'.cell? ⟨w23.heap.size, 0, none⟩ = some (.slice aO n cO) ∧ w'.cell? ⟨w23.heap.size, 1, none⟩ = some (.slice bO mo dO)) ∧ (w'.cell? ⟨w3.heap.size, 0, none⟩ = some (.slice aP n cP) ∧ w'.cell? ⟨w3.heap.size, 1, none⟩ = some (.slice bP mp dP)))
        (first | (with_reducible exact HSS.out _ BD.out) | (with_reducible exact HSS.out _ B8.out) | (with_reducible exact HSS.out _ B9.out) | (with_reducible exact HSS.out _ B10.out))
        (first
          | (go_at_call 13; (with_reducible refine (prefix_h (HOI.out.below BD.out) (q : Int) Hfin.out Hmf.out).mono ?_); rintro e w8 ⟨a8, c8, b8, d8, rfl, K8⟩
             have B8 : Hid (Below W24.heap.size W24 w8) := stepB BD.out K8.out.2)
          | (go_at_call 17; (with_reducible refine (only31_h (HPE.out.below B8.out) (keepB B8.out HXB.out) Hef.out Hmf.out).mono ?_); rintro e w9 ⟨a9, c9, b9, d9, rfl, K9⟩
             have B9 : Hid (Below W24.heap.size W24 w9) := stepB B8.out K9.out.2)
          | (go_at_call 12; (with_reducible refine (same_h (K8.out.1.below K9.out.2) K9.out.1 R9.out).mono ?_); rintro e w10 ⟨rfl, S10⟩
             have B10 : Hid (Below W24.heap.size W24 w10) := stepB B9.out S10.out))
      all_goals
        go_wp2_with fail
        go_ret
        exact ⟨rfl, stepB BV.out B10.out⟩
end Go.Proofs.YtfjjhjojcgacbaaDoor
