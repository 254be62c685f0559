/- GraphFinds: the walk. -/
import Derived.Test.YthgkloapnihpaaaQh
namespace Go.Proofs.Ythgkloapnihpaaa
open Go.RowKit Go.Maps Go.WideMaps Go.WideElems Go.ChangeShapes Go.WideShapes

theorem topoIs_same {r : Option (List Int)} {O P : List Int} {a b : Bool} (h : topoIs r O a) (k : topoIs r P b) : O = P ∧ a = b := by
  rcases h with ⟨h1, h2, h3⟩ | ⟨h1, h2⟩ <;> rcases k with ⟨k1, k2, k3⟩ | ⟨k1, k2⟩
  · exact ⟨h2.trans k2.symm, h3.trans k3.symm⟩
  · rw [h1] at k1; cases k1
  · rw [k1] at h1; cases h1
  · rw [h1] at k1
    cases k1
    exact ⟨rfl, h2.trans k2.symm⟩
theorem topoIs_len {N : List Int} {E : List Ed} {O : List Int} {a : Bool} (h : topoIs (topoZ N E N.length []) O a) : O.length ≤ N.length := by
  rcases h with ⟨-, rfl, -⟩ | ⟨h1, -⟩
  · simp
  · rw [(order_of h1).len]
    exact Nat.le_refl _
theorem cycIs_len {N : List Int} {E : List Ed} {l : List Int} (hE : EndsIn N E) (h : cycIs (EdR E) N (outsE N E) l) : l.length ≤ N.length := by
  rcases h with ⟨-, rfl⟩ | ⟨s, L, -, h2, rfl⟩
  · simp
  · rw [List.length_cons, wayZ_len]
    obtain ⟨⟨b, hb1, hb2⟩, -⟩ := h2
    exact dst_lt (N := N) hE (hE s b hb1).2 hb2
section
variable {g c : Nat} {N : List Int} {E : List Ed} {W : World}
theorem Gr.cyc (h : Gr g c N E W) (hc : c ≤ 100000) (hN : N.length ≤ 500) : Calls Try.prog 26 #[.pointer (some ⟨g, 0, none⟩)] W fun e w' => ∃ p c l, e = .returned (.slice p (l : List Int).length c) ∧ Hid (SlI w' p l ∧ cycIs (EdR E) N (outsE N E) l ∧ l.length ≤ 500 ∧ Below W.heap.size W w') := by
  have hf := h.facts
  obtain ⟨Z, B, h⟩ := h
  refine (cycle_p hc hN W h).mono ?_
  rintro e w' ⟨v, l, rfl, K⟩
  obtain ⟨k1, k2, k3⟩ := K.out
  obtain ⟨p, c, rfl, hs⟩ := k1.sl
  exact ⟨p, c, l, rfl, hs, k2, Nat.le_trans (cycIs_len hf.2.1 k2) hN, k3⟩
theorem Gr.top (h : Gr g c N E W) (hc : c ≤ 100000) (hN : N.length ≤ 500) : Calls Try.prog 28 #[.pointer (some ⟨g, 0, none⟩)] W fun e w' => ∃ p c O ok, e = .returned (.tuple #[.slice p (O : List Int).length c, .bool ok]) ∧ Hid (SlI w' p O ∧ topoIs (topoZ N E N.length []) O ok ∧ O.length ≤ 500 ∧ Below W.heap.size W w') := by
  obtain ⟨Z, B, h⟩ := h
  refine (topo_p hc hN W h).mono ?_
  rintro e w' ⟨v, O, ok, rfl, K⟩
  obtain ⟨k1, k2, k3⟩ := K.out
  obtain ⟨p, c, rfl, hs⟩ := k1.sl
  exact ⟨p, c, O, ok, rfl, hs, k2, Nat.le_trans (topoIs_len k2) hN, k3⟩
end
set_option maxHeartbeats 32000000 in
set_option maxRecDepth 100000 in
theorem finds_few (ea : Option Addr) (ce : Nat) (es : List Ed) (na : Option Addr) (cn : Nat) (ns : List Int) (A : Int) (hA : fit64 A) (hes : es.length ≤ 40) (hns : ns.length ≤ 40) (hef : ∀ e ∈ es, fit64 e.1 ∧ fit64 e.2.1 ∧ fit64 e.2.2) (hnf : ∀ x ∈ ns, fit64 x) (w : World) (hE : SlE w ea es) (hN : SlI w na ns) :
    Calls Try.prog 4 #[.slice ea es.length ce, .slice na ns.length cn, iv A] w fun e w' => e = .returned (.bool true) ∧ Hid (Below w.heap.size w w') := by
  have HF := Lib.hid (first_any w)
  have HM := Lib.hid fun (W : World) (hb : Below w.heap.size w W) => made_any ea ce es na cn ns (by omega) (by omega) hef hnf W (hE.gro hb (Nat.le_refl _)) (hN.gro hb (Nat.le_refl _))
  obtain ⟨ne, hne⟩ : ∃ ne, es.length = ne := ⟨_, rfl⟩
  obtain ⟨nn, hnn⟩ : ∃ nn, ns.length = nn := ⟨_, rfl⟩
  obtain ⟨N, hNe⟩ : ∃ N, nodesOf es ns = N := ⟨_, rfl⟩
  obtain ⟨E, hEe⟩ : ∃ E, edgesUp es = E := ⟨_, rfl⟩
  have hNl : N.length ≤ 120 := by rw [← hNe]; exact Nat.le_trans (nodesOf_len _ _) (by omega)
  have hEl : E.length ≤ 40 := by rw [← hEe]; exact Nat.le_trans (edgesUp_len _) (by omega)
  rw [hNe, hEe] at HM
  rw [hne, hnn] at HM ⊢
  rw [hne] at hes
  rw [hnn] at hns
  have HNl := Lib.hid hNl
  have HEl := Lib.hid hEl
  have hg1 : ¬ (40 : Int) < (ne : Int) := by omega
  have hg2 : ¬ (40 : Int) < (nn : Int) := by omega
  obtain ⟨n, hn⟩ : ∃ n, N.length = n := ⟨_, rfl⟩
  obtain ⟨m, hm⟩ : ∃ m, E.length = m := ⟨_, rfl⟩
  have Hn := Lib.hid hn
  rw [hn, hm] at HM
  have Hm := Lib.hid hm
  have hn5 : n ≤ 120 := by omega
  have hm5 : m ≤ 40 := by omega
  have HfA := Lib.hid hA
  clear hA hE hN hef hnf hnn hne hNe hEe hNl hEl hn hm
  go_enter Try.func4, Try.ntmps4
  go_wp2_with (first
    | (go_at_call 8; (with_reducible refine HF.out.mono ?_); rintro e w1 ⟨rfl, K1⟩
       have HM1 := Lib.hid (HM.out w1 K1.out))
    | (go_at_call 23; (with_reducible refine HM1.out.mono ?_); rintro e w2 ⟨g, c, a, k, a', k', rfl, K2⟩
       obtain ⟨W3, hW3, Hb3, hs3, Hx3⟩ := obj_any w2 (.cells #[.slice a n k, .slice a' m k'] 29)
       have hc : c ≤ 100000 := by have := K2.out.1; omega
       have HG := Lib.hid (show Gr g c N E W3 from gat_below K2.out.2.1.at0 Hb3.out)
       have HDg : Hid (DgAt W3 a a' N E) := K2.out.2.1.dg.below Hb3.out
       have HW3 : Hid (Below w.heap.size w W3) := K1.out.trans ((K2.out.2.2.trans (Hb3.out.mono K2.out.2.2.size)).mono K1.out.size)
       have HBox : Hid (∀ W, Below W3.heap.size W3 W → W.cell? ⟨w2.heap.size, 0, none⟩ = some (.slice a n k) ∧ W.cell? ⟨w2.heap.size, 1, none⟩ = some (.slice a' m k')) := fun W hb => two_at ((hb.block _ hs3.out).trans Hx3.out)
       clear Hb3 hs3 Hx3)
    | go_in)
  have HN5 : Hid (N.length ≤ 500) := by show _ ≤ _; have := HNl.out; omega
  have HR1 := Lib.hid ((HG.out.below (Below.refl _ W3).drew).reach hc HN5.out A HfA.out)
  obtain ⟨b0, b1⟩ := HBox.out W3 (Below.refl _ _)
  go_region_held3 (fun w' => w'.cell? ⟨w2.heap.size, 0, none⟩ = some (.slice a n k) ∧ w'.cell? ⟨w2.heap.size, 1, none⟩ = some (.slice a' m k')) (first | (with_reducible exact HBox.out _ HB6.out) | (with_reducible exact HBox.out _ HB5.out) | (with_reducible exact HBox.out _ HB4.out) | go_keep)
    (first
      | (go_at_call 24; refine HR1.out.mono ?_; rintro e w4 ⟨p4, c4, r, rfl, K4⟩
         have HB4 : Hid (Below W3.heap.size W3 w4) := (Below.refl _ W3).drew.trans K4.out.2.2.2.2
         have HR2 := Lib.hid (dreach_any a a' k k' n m E A Hm.out (by omega) w4 (HDg.out.edges.gro HB4.out (Nat.le_refl _))))
      | (go_at_call 25; (with_reducible refine HR2.out.mono ?_); rintro e w5 ⟨p5, c5, r2, rfl, K5⟩
         have hr2 : r2 = r := riseI_ext K5.out.2.1 K4.out.2.2.1 fun z => (K5.out.2.2.2.1 z).trans (K4.out.2.2.2.1 z).symm
         subst hr2
         have HB5 : Hid (Below W3.heap.size W3 w5) := HB4.out.trans (K5.out.2.2.2.2.mono HB4.out.size)
         have HS1 := Lib.hid (same_n p4 p5 c4 c5 _ (l := r2) rfl (by have := K4.out.2.1; omega) w5 (K4.out.1.gro K5.out.2.2.2.2 (Nat.le_refl _)) K5.out.1))
      | (go_at_call 17; (with_reducible refine HS1.out.mono ?_); rintro e w6 ⟨rfl, K6⟩
         have HB6 : Hid (Below W3.heap.size W3 w6) := HB5.out.trans (K6.out.mono HB5.out.size)))
  have HC1 := Lib.hid ((HG.out.below HB6.out.drew).cyc hc HN5.out)
  obtain ⟨d0, d1⟩ := HBox.out w6 HB6.out
  clear HR1 HR2 HS1
  go_wp2
  go_region_held3 (fun w' => w'.cell? ⟨w2.heap.size, 0, none⟩ = some (.slice a n k) ∧ w'.cell? ⟨w2.heap.size, 1, none⟩ = some (.slice a' m k')) (first | (with_reducible exact HBox.out _ HB9.out) | (with_reducible exact HBox.out _ HB8.out) | (with_reducible exact HBox.out _ HB7.out) | go_keep)
    (first
      | (go_at_call 26; refine HC1.out.mono ?_; rintro e w7 ⟨p7, c7, cl, rfl, K7⟩
         have HB7 : Hid (Below W3.heap.size W3 w7) := HB6.out.drew.trans (K7.out.2.2.2.mono HB6.out.drew.size)
         have HC2 := Lib.hid (dcycle_any a a' k k' n m N E HG.out.facts.1 HG.out.facts.2.1 Hn.out Hm.out (by omega) (by omega) w7 (HDg.out.nodes.gro HB7.out (Nat.le_refl _)) (HDg.out.edges.gro HB7.out (Nat.le_refl _))))
      | (go_at_call 27; (with_reducible refine HC2.out.mono ?_); rintro e w8 ⟨v8, cl2, rfl, K8⟩
         have hcl : cl2 = cl := cycIs_same K8.out.2.1 K7.out.2.1
         subst hcl
         obtain ⟨p8, c8, rfl, hs8⟩ := K8.out.1.sl
         have HB8 : Hid (Below W3.heap.size W3 w8) := HB7.out.trans (K8.out.2.2.mono HB7.out.size)
         have HS2 := Lib.hid (same_n p7 p8 c7 c8 _ (l := cl2) rfl (by have := K7.out.2.2.1; omega) w8 (K7.out.1.gro K8.out.2.2 (Nat.le_refl _)) hs8)
         clear hs8)
      | (go_at_call 17; (with_reducible refine HS2.out.mono ?_); rintro e w9 ⟨rfl, K9⟩
         have HB9 : Hid (Below W3.heap.size W3 w9) := HB8.out.trans (K9.out.mono HB8.out.size)))
  have HT1 := Lib.hid ((HG.out.below HB9.out).top hc HN5.out)
  clear HC1 HC2 HS2
  go_wp2_with (first
    | (go_at_call 28; (with_reducible refine HT1.out.mono ?_); rintro e w10 ⟨p10, c10, O, ok, rfl, K10⟩
       have HB10 : Hid (Below W3.heap.size W3 w10) := HB9.out.trans (K10.out.2.2.2.mono HB9.out.size)
       obtain ⟨e0, e1⟩ := HBox.out w10 HB10.out
       have HT2 := Lib.hid (dtopo_any a a' k k' n m N E HG.out.facts.2.1 Hn.out Hm.out (by omega) (by omega) w10 (HDg.out.nodes.gro HB10.out (Nat.le_refl _)) (HDg.out.edges.gro HB10.out (Nat.le_refl _))))
    | (go_at_call 29; (with_reducible refine HT2.out.mono ?_); rintro e w11 ⟨v11, O2, ok2, rfl, K11⟩
       obtain ⟨rfl, rfl⟩ := topoIs_same K11.out.2.1 K10.out.2.1
       obtain ⟨p11, c11, rfl, hs11⟩ := K11.out.1.sl
       have HB11 : Hid (Below W3.heap.size W3 w11) := HB10.out.trans (K11.out.2.2.mono HB10.out.size)
       have HS3 := Lib.hid (same_n p10 p11 c10 c11 _ (l := O2) rfl (by have := K10.out.2.2.1; omega) w11 (K10.out.1.gro K11.out.2.2 (Nat.le_refl _)) hs11)
       clear hs11)
    | (go_at_call 17; (with_reducible refine HS3.out.mono ?_); rintro e w12 ⟨rfl, K12⟩
       have HB12 : Hid (Below W3.heap.size W3 w12) := HB11.out.trans (K12.out.mono HB11.out.size)
       have HP1 := Lib.hid ((HG.out.below HB12.out).parts hc HN5.out))
    | (go_at_call 30; (with_reducible refine HP1.out.mono ?_); rintro e w13 ⟨p13, np, c13, ps, rfl, K13⟩
       have HB13 : Hid (Below W3.heap.size W3 w13) := HB12.out.trans (K13.out.2.2.2.2.mono HB12.out.size)
       obtain ⟨f0, f1⟩ := HBox.out w13 HB13.out
       have HP2 := Lib.hid (dparts_any a a' k k' n m N E HG.out.facts.1 Hn.out Hm.out (by omega) (by omega) w13 (HDg.out.nodes.gro HB13.out (Nat.le_refl _)) (HDg.out.edges.gro HB13.out (Nat.le_refl _))))
    | (go_at_call 31; (with_reducible refine HP2.out.mono ?_); rintro e V ⟨v14, ps2, rfl, K14⟩
       obtain ⟨p14, c14, rfl⟩ := row_sl K14.out.1.row
       have hps2 : ps2.length = np := by
         have h1 := congrArg List.length K14.out.2.1
         have h2 := congrArg List.length K13.out.2.2.2.1
         rw [List.length_map] at h1 h2
         rw [h1, ← h2]
         exact K13.out.2.1
       have HPt := Lib.hid K14.out.1
       rw [hps2] at HPt ⊢
       have Hps2 := Lib.hid hps2
       have HBV : Hid (Below W3.heap.size W3 V) := HB13.out.trans (K14.out.2.2.mono HB13.out.size)
       clear hps2)
    | go_in)
  have hnp : np ≤ 500 := K13.out.2.2.1
  have HPs : Hid (PtsAt w12.heap.size (.slice p13 np c13) ps V) := K13.out.1.kept (grown_below K14.out.2.2)
  try go_frame
  go_loopw [19, 20] (fun i _ wr => ∃ q : Nat, q ≤ np ∧ i = .int .i64 ((q : Nat) : Int) ∧ Hid (Below V.heap.size V wr)) (fun i _ _ => np - (intOf i).toNat)
  case atStart => exact ⟨0, Nat.zero_le _, rfl, Below.refl _ _⟩
  case round =>
    obtain ⟨q, hq, rfl, HR⟩ := hrel
    obtain ⟨wb, hwb⟩ : ∃ wb, wb = wr := ⟨_, rfl⟩
    subst hwb
    by_cases hlt : q < np
    · obtain ⟨g1, x1, o1, cx1, y1, l1, rfl, hp1, -, hl1, -, hc1⟩ := pts_cells HPs.out K13.out.2.2.2.1 K13.out.2.1 hlt
      obtain ⟨g2, x2, o2, cx2, y2, l2, rfl, hp2, -, -, -, hc2⟩ := pts_cells HPt.out K14.out.2.1 Hps2.out hlt
      have hll : y2 :: l2 = y1 :: l1 := hp2.symm.trans hp1
      simp only [List.cons.injEq] at hll
      obtain ⟨rfl, rfl⟩ := hll
      have HS := Lib.hid (same_n (some ⟨x1, o1, none⟩) (some ⟨x2, o2, none⟩) cx1 cx2 (l2.length + 1) (l := y2 :: l2) (by simp) (by have := HNl.out; simp at hl1; omega) wb.drew (hc1 wb.drew HR.out.drew).2.2 (hc2 wb.drew HR.out.drew).2.2)
      obtain ⟨z0, -, -⟩ := hc1 wb HR.out
      obtain ⟨z1, -, -⟩ := hc2 wb HR.out
      have hqI : (q : Int) < (np : Int) := by omega
      have hq0 : (0 : Int) ≤ (q : Int) := by omega
      have Hlt := Lib.hid hlt
      have HRd : Hid (Below V.heap.size V wb.drew) := HR.out.drew
      clear hp1 hp2 hl1 hc1 hc2
      go_wp2
      go_still_tail 8, (by kernel_rfl)
      change wpList _ _ _ _ _ wb.drew
      generalize wb.drew = wd at *
      go_wp2_with (first
        | (go_at_call 17; (with_reducible refine HS.out.mono ?_); rintro e w15 ⟨rfl, K15⟩)
        | go_in)
      go_roundw
      case rel => exact ⟨q + 1, Hlt.out, by go_num, HRd.out.trans (K15.out.mono HRd.out.size)⟩
      case measure => simp [intOf]; omega
    · have hqn : np = q := by omega
      subst hqn
      have HBb : Hid (Below W3.heap.size W3 wb) := HBV.out.trans (HR.out.mono HBV.out.size)
      obtain ⟨f0, f1⟩ := HBox.out wb HBb.out
      have HI := Lib.hid (is_any a a' k k' n m Hn.out Hm.out hc (by omega) (by omega) wb (HG.out.below HBb.out) (HDg.out.below HBb.out))
      go_wp2_with (first
        | (go_at_call 22; (with_reducible refine HI.out.mono ?_); rintro e w16 ⟨rfl, K16⟩)
        | go_in)
      go_ret
      exact ⟨rfl, HW3.out.trans ((HBb.out.trans (K16.out.mono HBb.out.size)).mono HW3.out.size)⟩
end Go.Proofs.Ythgkloapnihpaaa
