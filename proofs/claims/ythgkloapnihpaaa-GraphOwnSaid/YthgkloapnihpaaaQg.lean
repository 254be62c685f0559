/- The document's Cycle: a contract. -/
import Derived.Test.YthgkloapnihpaaaQf
namespace Go.Proofs.Ythgkloapnihpaaa
open Go.RowKit Go.Maps Go.WideMaps Go.WideElems Go.ChangeShapes Go.WideShapes

theorem best_or {R : Int → Int → Prop} {s : Int} {N : List Int} {a : Int} {k : Nat} {best : Int} (h : BestOk R s N a k best) : best = -1 ∨ ∃ j : Nat, best = (j : Int) := by
  rcases h with ⟨h1, -⟩ | ⟨j, m, h1, -⟩
  · exact .inl h1
  · exact .inr ⟨j, h1⟩
theorem in_quiet (p : Option Addr) (c n : Nat) {l : List Int} (x : Int) (hl : l.length = n) (hn : n ≤ 100000) (w : World) (nq : Nat) (h : SlI w p l) :
    Calls Try.prog 55 #[.slice p n c, iv x] (w.drewN nq) fun e w' => e = .returned (.bool (decide (x ∈ l))) ∧ ∃ m, w' = w.drewN m := by
  refine (in_same p c n x hl hn (w.drewN nq) (h.gro (drewN_below w nq) (Nat.le_refl _))).mono ?_
  rintro e w' ⟨rfl, rfl⟩
  exact ⟨rfl, nq, rfl⟩
set_option maxHeartbeats 32000000 in
set_option maxRecDepth 100000 in
theorem dcycle_any (a a' : Option Addr) (k k' n m : Nat) (N : List Int) (E : List Ed) (hNr : RiseI N) (hE : EndsIn N E) (hn : N.length = n) (hm : E.length = m) (hn5 : n ≤ 500) (hm5 : m ≤ 500) (w : World) (h : SlI w a N) (h' : SlE w a' E) :
    Calls Try.prog 27 #[gval a n k a' m k'] w fun e w' => ∃ v l, e = .returned v ∧ Hid (IntsO w' w.heap.size v l ∧ cycIs (EdR E) N (outsE N E) l ∧ Below w.heap.size w w') := by
  obtain ⟨W1, hW1, Hb1, hs1, Hx1⟩ := two_any w (.slice a n k) (.slice a' m k') 29
  have HN := Lib.hid (h.gro Hb1.out (Nat.le_refl _))
  have HE := Lib.hid (h'.gro Hb1.out (Nat.le_refl _))
  have HSt := Lib.hid (dstart_any a a' k k' n m N E hn hm hn5 hm5 W1 HN.out HE.out)
  have Hn := Lib.hid hn
  have Hm := Lib.hid hm
  have Hends := Lib.hid hE
  have HNr := Lib.hid hNr
  have HBox : Hid (∀ W, Below W1.heap.size W1 W → W.cell? ⟨w.heap.size, 0, none⟩ = some (.slice a n k) ∧ W.cell? ⟨w.heap.size, 1, none⟩ = some (.slice a' m k')) := fun W hb => two_at ((hb.block _ hs1.out).trans Hx1.out)
  obtain ⟨x0, x1⟩ := HBox.out W1 (Below.refl _ _)
  have Hbw : Hid (Below w.heap.size w W1) := Hb1.out
  clear h h' hn hm hE hNr
  cases hz : startZ (EdR E) N with
  | none =>
    have HSt0 : Hid (Calls Try.prog 53 #[gval a n k a' m k'] W1 fun e w' => ∃ s, e = .returned (.tuple #[iv s, .bool false]) ∧ Hid (Below W1.heap.size W1 w')) := by
      refine HSt.out.mono ?_
      rintro e w' ⟨s, ok, rfl, K⟩
      have h1 := K.out.1
      rw [hz] at h1
      cases ok with
      | false => exact ⟨s, rfl, K.out.2⟩
      | true => simp at h1
    have Hz := Lib.hid hz
    clear hz
    go_enter Try.func27, Try.ntmps27
    go_wp2_with (first
      | (go_at_call 53; (with_reducible refine HSt0.out.mono ?_); rintro e w2 ⟨s, rfl, K2⟩)
      | go_in)
    go_ret
    exact ⟨_, [], rfl, intsO_nil _ _, .inl ⟨Hz.out, rfl⟩, Hbw.out.trans (K2.out.mono Hbw.out.size)⟩
  | some s =>
    have HSt0 : Hid (Calls Try.prog 53 #[gval a n k a' m k'] W1 fun e w' => e = .returned (.tuple #[iv s, .bool true]) ∧ Hid (Below W1.heap.size W1 w')) := by
      refine HSt.out.mono ?_
      rintro e w' ⟨t, ok, rfl, K⟩
      have h1 := K.out.1
      rw [hz] at h1
      cases ok with
      | false => simp at h1
      | true =>
        simp at h1
        rw [h1]
        exact ⟨rfl, K.out.2⟩
    have Hz := Lib.hid hz
    obtain ⟨hsN, hsc, -⟩ := (startZ_is HNr.out).1 hz
    obtain ⟨T, hT⟩ := near_ex hsc
    have HsN := Lib.hid hsN
    have HT := Lib.hid hT
    have Hcyc0 := Lib.hid (CycSt.start (N := N) (O := outsE N E) hT)
    clear hz hsN hsc hT
    go_enter Try.func27, Try.ntmps27
    go_wp2_with (first
      | (go_at_call 53; (with_reducible refine HSt0.out.mono ?_); rintro e w2 ⟨rfl, K2⟩
         obtain ⟨y0, y1⟩ := HBox.out w2 K2.out
         have HFa := Lib.hid (dfar_any a a' k k' n m N E s HNr.out Hends.out Hn.out Hm.out hn5 hm5 w2 (HN.out.gro K2.out (Nat.le_refl _)) (HE.out.gro K2.out (Nat.le_refl _))))
      | (go_at_call 54; (with_reducible refine HFa.out.mono ?_); rintro e V ⟨G, rfl, KF⟩
         obtain ⟨V1, hV1, HbV, hsV, HxV⟩ := obj_any V (.cells #[iv s] 3))
      | go_in)
    have HV1 : Hid (Below W1.heap.size W1 V1) := K2.out.trans ((KF.out.2.2.trans (HbV.out.mono KF.out.2.2.size)).mono K2.out.size)
    have HRf : Hid (RowF V1 G n (fun j => dst (EdR E) s (N.getD j 0))) := KF.out.1.below HbV.out
    have HR1 : Hid (IntsO V1 V.heap.size (.slice (some ⟨V.heap.size, 0, none⟩) 1 1) [s]) := by
      show IntsO _ _ _ _
      rw [← hV1]
      exact intsO_one V _ (Nat.le_refl _) s
    have HGV : Hid (G < V.heap.size) := (Array.getElem?_eq_some_iff.1 KF.out.1).1
    have HV0 : Hid (W1.heap.size ≤ V.heap.size) := Nat.le_trans K2.out.size KF.out.2.2.size
    have HbV1 : Hid (Below V.heap.size V V1) := HbV.out
    have HRV := Lib.hid KF.out.1
    have HBV : Hid (Below W1.heap.size W1 V) := K2.out.trans (KF.out.2.2.mono K2.out.size)
    clear HSt HSt0 HFa
    try go_frame
    go_loopw [6, 7, 8, 9, 10] (fun v6 v7 _ _ _ wr => ∃ (l : List Int) (at_ : Int) (kq : Nat), v7 = iv at_ ∧ Hid (CycSt (EdR E) s N (outsE N E) T l at_ kq ∧ IntsO wr V.heap.size v6 (s :: l) ∧ Below V.heap.size V wr)) (fun v6 _ _ _ _ _ => n + 1 - lenOf v6)
    case atStart => exact ⟨[], s, T, rfl, Hcyc0.out, HR1.out, HbV1.out⟩
    case round =>
      obtain ⟨l, at_, kq, rfl, HA⟩ := hrel
      obtain ⟨wa, hwa⟩ : ∃ wa, wa = wr := ⟨_, rfl⟩
      subst hwa
      obtain ⟨p6, c6, rfl, -⟩ := HA.out.2.1.sl
      obtain ⟨ol, hol⟩ : ∃ ol, (s :: l).length = ol := ⟨_, rfl⟩
      have Hol := Lib.hid hol
      have holn : ol ≤ n := by
        have := HA.out.1.bound HsN.out
        rw [hol, Hn.out] at this
        exact this
      have holI : (ol : Int) ≤ (n : Int) := by omega
      have Hwa : Hid (Below W1.heap.size W1 wa) := HBV.out.trans (HA.out.2.2.mono HBV.out.size)
      obtain ⟨y0, y1⟩ := HBox.out wa Hwa.out
      have HO := Lib.hid (dout_any a a' k k' n m N E at_ HNr.out Hends.out Hm.out (by omega) wa (HE.out.gro Hwa.out (Nat.le_refl _)))
      obtain ⟨tl, htl⟩ : ∃ tl, (outsE N E at_).length = tl := ⟨_, rfl⟩
      have Htl := Lib.hid htl
      have htl5 : tl ≤ 500 := by
        have h1 : (outsE N E at_).length ≤ N.length := List.length_filter_le _ _
        have := Hn.out
        omega
      rw [htl] at HO
      rw [hol]
      clear hol htl
      go_wp2_with (first
        | (go_at_call 21; (with_reducible refine HO.out.mono ?_); rintro e wq ⟨p8, c8, rfl, K8⟩)
        | go_in)
      have HBq : Hid (Below V.heap.size V wq) := HA.out.2.2.trans (K8.out.2.mono HA.out.2.2.size)
      have Hb0 := Lib.hid (BestOk.zero (R := EdR E) (s := s) (N := N) at_)
      have Hmem : Hid (∀ y, y ∈ outsE N E at_ ↔ EdR E at_ y) := fun y => mem_outsE Hends.out
      try go_frame
      go_loopw [9, 10] (fun v9 i wr => ∃ (q : Nat) (best : Int), q ≤ n ∧ i = .int .i64 ((q : Nat) : Int) ∧ v9 = iv best ∧ Hid (BestOk (EdR E) s N at_ q best ∧ Below wq.heap.size wq wr)) (fun _ i _ => n - (intOf i).toNat)
      case atStart => exact ⟨0, -1, Nat.zero_le _, rfl, rfl, Hb0.out, Below.refl _ _⟩
      case round =>
        obtain ⟨q, best, hq, rfl, rfl, HB⟩ := hrel
        obtain ⟨wb, hwb⟩ : ∃ wb, wb = wr := ⟨_, rfl⟩
        subst hwb
        have HVb : Hid (Below V.heap.size V wb) := HBq.out.trans (HB.out.2.mono HBq.out.size)
        have HWb : Hid (Below W1.heap.size W1 wb) := HBV.out.trans (HVb.out.mono HBV.out.size)
        obtain ⟨z0, z1⟩ := HBox.out wb HWb.out
        by_cases hlt : q < n
        · have hqo : q < N.length := by rw [Hn.out]; exact hlt
          obtain ⟨b7, o7, rfl, c0⟩ := (HN.out.gro HWb.out (Nat.le_refl _)).at hqo
          have HS0 : Hid (∀ W, Below V.heap.size V W → W.cell? ⟨w.heap.size, 0, none⟩ = some (.slice (some ⟨b7, o7, none⟩) n k) ∧ W.cell? ⟨b7, o7 + q, none⟩ = some (iv (N.getD q 0)) ∧ W.cell? ⟨G, q, none⟩ = some (iv (dst (EdR E) s (N.getD q 0)))) := fun W hb => by
            have h1 := HBV.out.trans (hb.mono HBV.out.size)
            exact ⟨(HBox.out W h1).1, (HN.out.gro h1 (Nat.le_refl _)).cell1 hqo rfl, (HRV.out.below hb).cell hlt⟩
          obtain ⟨-, -, c1⟩ := HS0.out wb HVb.out
          have HIn := Lib.hid fun (nq : Nat) => (in_quiet p8 c8 tl (N.getD q 0) Htl.out (by omega) wb nq (K8.out.1.gro HB.out.2 (Nat.le_refl _)))
          have Hskip : Hid ((∀ d, ¬ (EdR E at_ (N.getD q 0) ∧ Dst (EdR E) s (N.getD q 0) d)) → BestOk (EdR E) s N at_ (q + 1) best) := fun h => HB.out.1.skip hqo h
          have Hfirst : Hid (∀ d, best = -1 → EdR E at_ (N.getD q 0) → Dst (EdR E) s (N.getD q 0) d → BestOk (EdR E) s N at_ (q + 1) (q : Int)) := fun d e h1 h2 => by
            have := HB.out.1
            rw [e] at this
            exact this.first hqo h1 h2
          have Hmq := Lib.hid (Hmem.out (N.getD q 0))
          obtain ⟨x, hx⟩ : ∃ x, N.getD q 0 = x := ⟨_, rfl⟩
          have Hx := Lib.hid hx
          rw [hx] at c0 c1 HS0 HIn Hskip Hfirst Hmq
          have Hqo := Lib.hid hqo
          have hqI : (q : Int) < (n : Int) := by omega
          have hq0 : (0 : Int) ≤ (q : Int) := by omega
          have Hlt := Lib.hid hlt
          clear hqo hx
          by_cases hin : x ∈ outsE N E at_
          · have hRx := Hmq.out.1 hin
            have HInQ : Hid (∀ nq, Calls Try.prog 55 #[.slice p8 tl c8, iv x] (wb.drewN nq) fun e w' => e = .returned (.bool true) ∧ ∃ m, w' = wb.drewN m) := fun nq => by
              have h1 := HIn.out nq
              rw [decide_eq_true hin] at h1
              exact h1
            rcases dst_cases (EdR E) s x with ⟨hd, hdn⟩ | ⟨d, hd, hdd⟩
            · have HB9' := Lib.hid (Hskip.out fun d h => hdn d h.2)
              rw [hd] at c1 HS0
              clear hin hRx hdn hd
              go_wp2
              go_quiet (with_reducible exact HInQ.out _)
              go_wp2
              go_roundw
              case rel => exact ⟨q + 1, best, Hlt.out, by go_num, rfl, HB9'.out, HB.out.2.trans ((drewN_below wb nq).mono HB.out.2.size)⟩
              case measure => simp [intOf]; omega
            · rw [hd] at c1 HS0
              have hd0 : (0 : Int) ≤ (d : Int) := by omega
              have e0 : decide ((0 : Int) ≤ (d : Int)) = true := decide_eq_true hd0
              rcases best_or HB.out.1 with rfl | ⟨j, rfl⟩
              · have HB9' := Lib.hid (Hfirst.out d rfl hRx hdd)
                clear hin hRx hdd hd
                go_wp2
                go_quiet (with_reducible exact HInQ.out _)
                go_wp2
                go_roundw
                case rel => exact ⟨q + 1, (q : Int), Hlt.out, by go_num, rfl, HB9'.out, HB.out.2.trans ((drewN_below wb nq).mono HB.out.2.size)⟩
                case measure => simp [intOf]; omega
              · obtain ⟨hjN, d2, hd2⟩ := HB.out.1.known
                have hjn : j < n := by rw [← Hn.out]; exact hjN
                have hdj : dst (EdR E) s (N.getD j 0) = (d2 : Int) := dst_is.2 hd2
                have HSj : Hid (∀ W, Below V.heap.size V W → W.cell? ⟨w.heap.size, 0, none⟩ = some (.slice (some ⟨b7, o7, none⟩) n k) ∧ W.cell? ⟨b7, o7 + q, none⟩ = some (iv x) ∧ W.cell? ⟨G, q, none⟩ = some (iv (d : Int)) ∧ W.cell? ⟨G, j, none⟩ = some (iv (d2 : Int))) := fun W hb => by
                  obtain ⟨h1, h2, h3⟩ := HS0.out W hb
                  have h4 := (HRV.out.below hb).cell hjn
                  rw [hdj] at h4
                  exact ⟨h1, h2, h3, h4⟩
                obtain ⟨-, -, -, c2⟩ := HSj.out wb HVb.out
                have hjI : (j : Int) < (n : Int) := by omega
                have hj0 : (0 : Int) ≤ (j : Int) := by omega
                have ej : decide ((j : Int) < 0) = false := decide_eq_false (by omega)
                have hjneg : ¬ (j : Int) < 0 := by omega
                by_cases hdl : d < d2
                · have HB9' := Lib.hid (HB.out.1.less Hqo.out hd2 (by rw [Hx.out]; exact hRx) (by rw [Hx.out]; exact hdd) hdl)
                  have hdI : (d : Int) < (d2 : Int) := by omega
                  have ed : decide ((d : Int) < (d2 : Int)) = true := decide_eq_true hdI
                  have ed2 : decide (d < d2) = true := decide_eq_true hdl
                  clear hin hRx hdd hd hjN hd2 hdj
                  go_wp2
                  go_quiet (with_reducible exact HInQ.out _)
                  go_wp2
                  go_roundw
                  case rel => exact ⟨q + 1, (q : Int), Hlt.out, by go_num, rfl, HB9'.out, HB.out.2.trans ((drewN_below wb nq).mono HB.out.2.size)⟩
                  case measure => simp [intOf]; omega
                · have HB9' := Lib.hid (HB.out.1.keep Hqo.out hd2 (by rw [Hx.out]; exact hdd) (by omega))
                  have hdI : ¬ (d : Int) < (d2 : Int) := by omega
                  have ed : decide ((d : Int) < (d2 : Int)) = false := decide_eq_false hdI
                  have ed2 : decide (d < d2) = false := decide_eq_false hdl
                  clear hin hRx hdd hd hjN hd2 hdj
                  go_wp2
                  go_quiet (with_reducible exact HInQ.out _)
                  go_wp2
                  go_roundw
                  case rel => exact ⟨q + 1, (j : Int), Hlt.out, by go_num, rfl, HB9'.out, HB.out.2.trans ((drewN_below wb nq).mono HB.out.2.size)⟩
                  case measure => simp [intOf]; omega
          · have HB9' := Lib.hid (Hskip.out fun d h => hin (Hmq.out.2 h.1))
            have HInQ : Hid (∀ nq, Calls Try.prog 55 #[.slice p8 tl c8, iv x] (wb.drewN nq) fun e w' => e = .returned (.bool false) ∧ ∃ m, w' = wb.drewN m) := fun nq => by
              have h1 := HIn.out nq
              rw [decide_eq_false hin] at h1
              exact h1
            clear hin
            go_wp2
            go_quiet (with_reducible exact HInQ.out _)
            go_wp2
            go_roundw
            case rel => exact ⟨q + 1, best, Hlt.out, by go_num, rfl, HB9'.out, HB.out.2.trans ((drewN_below wb nq).mono HB.out.2.size)⟩
            case measure => simp [intOf]; omega
        · have hqn : n = q := by omega
          subst hqn
          have hB2 := HB.out.1
          rw [← Hn.out] at hB2
          obtain ⟨j, rfl, hjN, hjd, hjp⟩ := hB2.pick HNr.out Hends.out (fun a b => mem_outsE Hends.out) (fun a => HNr.out.filter _) HA.out.1.near
          have hjn : j < n := by rw [← Hn.out]; exact hjN
          obtain ⟨b7, o7, rfl, c0⟩ := (HN.out.gro HWb.out (Nat.le_refl _)).at hjN
          have hyN := getD_in (d := 0) hjN
          obtain ⟨y, hy⟩ : ∃ y, N.getD j 0 = y := ⟨_, rfl⟩
          rw [hy] at c0 hjd hjp hyN
          have hjI : (j : Int) < (n : Int) := by omega
          have hj0 : (0 : Int) ≤ (j : Int) := by omega
          have hjneg : ¬ (j : Int) < 0 := by omega
          have HRow : Hid (IntsO wb V.heap.size (.slice p6 ol c6) (s :: l)) := by
            have h1 := HA.out.2.1.below (K8.out.2.trans (HB.out.2.mono K8.out.2.size))
            rw [Hol.out] at h1
            exact h1
          cases kq with
          | zero =>
            have hys : y = s := dst_zero.1 hjd
            have e1 : (y == s) = true := by simpa using hys
            have HQ := Lib.hid (show IntsO wb w.heap.size (.slice p6 ol c6) (s :: l) ∧ cycIs (EdR E) N (outsE N E) (s :: l) ∧ Below w.heap.size w wb from ⟨HRow.out.low (Nat.le_trans Hbw.out.size HV0.out), .inr ⟨s, T, Hz.out, HT.out, by rw [HA.out.1.stop]⟩, Hbw.out.trans (HWb.out.mono Hbw.out.size)⟩)
            clear hjd hjp hyN hy hjN hB2 hys
            go_wp2
            go_ret
            exact ⟨_, rfl, _, HQ.out⟩
          | succ kq =>
            have hys : y ≠ s := fun e => by
              have := (dst_zero (R := EdR E)).2 e
              have := this.same hjd
              omega
            have e1 : (y == s) = false := by simpa using hys
            have Hnx := Lib.hid (HA.out.1.next hjd hyN hjp)
            have hlo : (s :: l).length ≤ 1000000 := by have := Hol.out; omega
            clear hjd hjp hyN hy hjN hB2 hys
            go_wp2_with (first
              | (at_builtin; refine wpList_append_o rfl _ _ rfl V.heap.size (.slice p6 ol c6) (s :: l) y rfl (HRow.out.alloc _) ⟨wb.heap.size, 0, none⟩ 1 rfl (news_new wb #[iv y] 3) hlo (by have := HVb.out.size; simp; omega) ?_
                 intro v6 w6 hf6 hg6 hl6
                 have HA9 : Hid (CycSt (EdR E) s N (outsE N E) T (l ++ [y]) y kq ∧ IntsO w6 V.heap.size v6 (s :: (l ++ [y])) ∧ Below V.heap.size V w6) := ⟨Hnx.out, hf6, (HVb.out.alloc HVb.out.size _).grown hg6 (by have := HVb.out.size; simp; omega) (fun r e => (HRow.out.lt e).1)⟩
                 clear hf6 hg6 hl6)
              | go_in)
            obtain ⟨p9, c9, rfl, -⟩ := HA9.out.2.1.sl
            go_roundw
            case rel => exact ⟨l ++ [y], y, kq, rfl, HA9.out⟩
            case measure =>
              have h1 := Hol.out
              simp at h1
              simp [lenOf]
              omega
end Go.Proofs.Ythgkloapnihpaaa
