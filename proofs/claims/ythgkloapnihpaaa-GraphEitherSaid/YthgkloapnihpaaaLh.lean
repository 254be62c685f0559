/- GraphEither: the walk. -/
import Derived.Test.YthgkloapnihpaaaM11
namespace Go.Proofs.Ythgkloapnihpaaa
open Go.RowKit Go.Maps Go.WideMaps Go.WideElems Go.ChangeShapes Go.WideShapes

theorem place_n (p : Option Addr) (c n : Nat) {l : List Int} (x : Int) (hl : l.length = n) (hn : n ≤ 100000) (w : World) (h : SlI w p l) :
    Calls Try.prog 33 #[.slice p n c, iv x] w fun e w' => e = .returned (iv (placeZ l x)) ∧ Hid (Below w.heap.size w w') := by
  subst hl
  exact place_any p c l x hn w h
theorem held_n {g c : Nat} {N : List Int} {E : List Ed} (p : Option Addr) (cl n : Nat) {l : List Int} (k i : Nat) (hl : l.length = n) (hn : n ≤ 100000) (hf : ∀ x ∈ l, fit64 x) (hE : E.length ≤ 100000) (hi : i < n) (hh : ∃ j, k ≤ j ∧ j < i ∧ EdR E (l.getD j 0) (l.getD i 0)) (w : World) (h : SlI w p l) (hg : Gr g c N E w) :
    Calls Try.prog 34 #[.pointer (some ⟨g, 0, none⟩), .slice p n cl, .int .i64 (k : Int), .int .i64 (i : Int)] w fun e w' => e = .returned (.bool true) ∧ Hid (Below w.heap.size w w') := by
  subst hl
  obtain ⟨Z, B, hg⟩ := hg
  obtain ⟨j, h1, h2, h3⟩ := hh
  exact held_any p cl l k i hn hf hE hi j h1 h2 h3 w h hg
set_option maxHeartbeats 32000000 in
set_option maxRecDepth 100000 in
theorem either_few (ea : Option Addr) (ce : Nat) (es : List Ed) (na : Option Addr) (cn : Nat) (ns : List Int) (hes : es.length ≤ 40) (hns : ns.length ≤ 40) (hef : ∀ e ∈ es, fit64 e.1 ∧ fit64 e.2.1 ∧ fit64 e.2.2) (hnf : ∀ x ∈ ns, fit64 x) (w : World) (hE : SlE w ea es) (hN : SlI w na ns) :
    Calls Try.prog 5 #[.slice ea es.length ce, .slice na ns.length cn] w fun e w' => e = .returned (.bool true) ∧ Hid (Below w.heap.size w w') := by
  have HF := Lib.hid (first_any w)
  have HM := Lib.hid fun (W : World) (hb : Below w.heap.size w W) => made_any ea ce es na cn ns (by omega) (by omega) hef hnf W (hE.gro hb (Nat.le_refl _)) (hN.gro hb (Nat.le_refl _))
  have HE := Lib.hid hE
  obtain ⟨ne, hne⟩ : ∃ ne, es.length = ne := ⟨_, rfl⟩
  obtain ⟨nn, hnn⟩ : ∃ nn, ns.length = nn := ⟨_, rfl⟩
  obtain ⟨N, hNe⟩ : ∃ N, nodesOf es ns = N := ⟨_, rfl⟩
  obtain ⟨E, hEe⟩ : ∃ E, edgesUp es = E := ⟨_, rfl⟩
  have hNl : N.length ≤ 120 := by rw [← hNe]; exact Nat.le_trans (nodesOf_len _ _) (by omega)
  have hEl : E.length ≤ 40 := by rw [← hEe]; exact Nat.le_trans (edgesUp_len _) (by omega)
  have HEin : Hid (∀ p ∈ es, p ∈ E) := fun p hp => by rw [← hEe]; exact mem_edgesUp.2 hp
  rw [hNe, hEe] at HM
  have Hne := Lib.hid hne
  rw [hne, hnn] at HM ⊢
  rw [hne] at hes
  rw [hnn] at hns
  have HNl := Lib.hid hNl
  have HEl := Lib.hid hEl
  have Hef := Lib.hid hef
  have hg1 : ¬ (40 : Int) < (ne : Int) := by omega
  have hg2 : ¬ (40 : Int) < (nn : Int) := by omega
  obtain ⟨n, hn⟩ : ∃ n, N.length = n := ⟨_, rfl⟩
  obtain ⟨m, hm⟩ : ∃ m, E.length = m := ⟨_, rfl⟩
  have Hn := Lib.hid hn
  rw [hn, hm] at HM
  clear hE hN hef hnf hnn hne hNe hEe hNl hEl hn hm
  cases ht : topoZ N E N.length [] with
  | none =>
    have Ht := Lib.hid ht
    clear ht
    go_enter Try.func5, Try.ntmps5
    go_wp2_with (first
      | (go_at_call 8; (with_reducible refine HF.out.mono ?_); rintro e w1 ⟨rfl, K1⟩
         have HM1 := Lib.hid (HM.out w1 K1.out))
      | (go_at_call 23; (with_reducible refine HM1.out.mono ?_); rintro e w2 ⟨g, c, a, k, a', k', rfl, K2⟩
         obtain ⟨W3, hW3, Hb3, hs3, Hx3⟩ := obj_any w2 (.cells #[.slice a n k, .slice a' m k'] 29)
         have hc : c ≤ 100000 := by have := K2.out.1; omega
         have HG := Lib.hid (show Gr g c N E W3 from gat_below K2.out.2.1.at0 Hb3.out)
         have HW3 : Hid (Below w.heap.size w W3) := K1.out.trans ((K2.out.2.2.trans (Hb3.out.mono K2.out.2.2.size)).mono K1.out.size)
         have HN5 : Hid (N.length ≤ 500) := by show _ ≤ _; have := HNl.out; omega
         have HT := Lib.hid (HG.out.topN hc HN5.out Ht.out)
         have hst : startZ (EdR E) N ≠ none := topo_none_start (HG.out.facts.1.imp fun h => by omega) HG.out.facts.2.1 Ht.out
         have Hst := Lib.hid hst
         clear hst
         clear Hb3 hs3 Hx3)
      | (go_at_call 28; (with_reducible refine HT.out.mono ?_); rintro e w4 ⟨p4, c4, rfl, K4⟩
         have HC := Lib.hid ((HG.out.below K4.out).cycS hc HN5.out Hst.out))
      | (go_at_call 26; (with_reducible refine HC.out.mono ?_); rintro e w5 ⟨p5, n5, c5, rfl, K5⟩
         have HB5 : Hid (Below W3.heap.size W3 w5) := K4.out.trans (K5.out.mono K4.out.size)
         have HP : Hid (Calls Try.prog 30 #[.pointer (some ⟨g, 0, none⟩)] w5 fun e w' => ∃ v ps, e = .returned v ∧ Hid (PtsAt w5.heap.size v ps w' ∧ ps.map (·.2) = partsOf (EdR E) N ∧ Below w5.heap.size w5 w')) := by
           obtain ⟨Z, B, h⟩ := HG.out.below HB5.out
           exact parts_p hc HN5.out w5 h)
      | (go_at_call 30; (with_reducible refine HP.out.mono ?_); rintro e V ⟨pv, ps, rfl, KP⟩
         obtain ⟨p10, c10, rfl⟩ := row_sl KP.out.1.row
         obtain ⟨np, hnp⟩ : ∃ n, ps.length = n := ⟨_, rfl⟩
         have Hnp := Lib.hid hnp
         have HPt := Lib.hid KP.out.1
         rw [hnp] at HPt ⊢
         have HBV : Hid (Below W3.heap.size W3 V) := HB5.out.trans (KP.out.2.2.mono HB5.out.size)
         have HGV := Lib.hid (HG.out.below HBV.out)
         clear hnp)
      | go_in)
    have HnP : Hid ((partsOf (EdR E) N).length = np) := by
      show _ = _
      rw [← KP.out.2.1, List.length_map]
      exact Hnp.out
    have hnp5 : np ≤ 500 := by
      have h2 : (reps (EdR E) N).length ≤ N.length := List.length_filter_le _ _
      have h1 := HnP.out
      have := HNl.out
      unfold partsOf at h1
      rw [List.length_map] at h1
      omega
    have Hall := Lib.hid (sgl_all HGV.out.facts.1 HGV.out.facts.2.1 HnP.out)
    try go_frame
    go_loopw [12, 13] (fun v12 i wr => ∃ q : Nat, q ≤ np ∧ i = .int .i64 ((q : Nat) : Int) ∧ v12 = .bool (sgl E (partsOf (EdR E) N) q) ∧ Hid (Below V.heap.size V wr)) (fun _ i _ => np - (intOf i).toNat)
    case atStart => exact ⟨0, Nat.zero_le _, rfl, rfl, Below.refl _ _⟩
    case round =>
      obtain ⟨q, hq, rfl, rfl, HR⟩ := hrel
      obtain ⟨wa, hwa⟩ : ∃ wa, wa = wr := ⟨_, rfl⟩
      subst hwa
      by_cases hlt : q < np
      · obtain ⟨g10, gx, ox, cx, x, r, rfl, hpe, hxN, -, -, hcells⟩ := pts_cells HPt.out KP.out.2.1 Hnp.out hlt
        have HSn := Lib.hid (sgl_next (E := E) (by rw [HnP.out]; exact hlt) hpe)
        obtain ⟨rl, hrl⟩ : ∃ rl, r.length = rl := ⟨_, rfl⟩
        rw [hrl] at hcells
        rw [List.length_cons, hrl] at HSn
        have hfx := HGV.out.facts.2.2.1 x hxN
        have HSall := Lib.hid fun W hb => (show _ ∧ _ from ⟨(hcells W hb).1, (hcells W hb).2.1⟩)
        obtain ⟨s0, s1⟩ := HSall.out wa HR.out
        have hltI : (q : Int) < (np : Int) := by omega
        have hq0 : (0 : Int) ≤ (q : Int) := by omega
        have Hlt := Lib.hid hlt
        clear hpe hxN hcells hrl
        cases hS : sgl E (partsOf (EdR E) N) q with
        | false =>
          have HSn2 : Hid (sgl E (partsOf (EdR E) N) (q + 1) = false) := by
            show _ = _
            rw [HSn.out, hS]
            rfl
          clear hS
          go_wp2
          go_quiet (fail)
          go_wp2
          go_roundw
          case rel => exact ⟨q + 1, Hlt.out, by go_num, by rw [HSn2.out], HR.out.trans ((drewN_below wa nq).mono HR.out.size)⟩
          case measure => simp [intOf]; omega
        | true =>
          have HS := Lib.hid hS
          clear hS
          rcases Nat.eq_zero_or_pos rl with h0 | h0
          · subst h0
            obtain ⟨kl, hkl⟩ : ∃ kl, (kindsE E x x).length = kl := ⟨_, rfl⟩
            have HK := Lib.hid ((HGV.out.below (HR.out.trans ((Below.refl _ wa).drew.mono HR.out.size))).kinds x x hfx hfx (by have := HEl.out; omega))
            rw [hkl] at HK HSn
            have HSn2 : Hid (sgl E (partsOf (EdR E) N) (q + 1) = (kl == 0)) := by
              show _ = _
              rw [HSn.out, HS.out]
              rfl
            clear hkl
            rcases Nat.eq_zero_or_pos kl with k0 | k0
            · subst k0
              go_wp2
              go_region_held3 (fun w' => w'.cell? ⟨g10, q, none⟩ = some (.slice (some ⟨gx, ox, none⟩) (0 + 1) cx) ∧ w'.cell? ⟨gx, ox, none⟩ = some (iv x)) (first | (with_reducible exact HSall.out _ HB9.out) | go_keep)
                (first | (go_at_call 18; refine HK.out.mono ?_; rintro e w9 ⟨p9, c9, rfl, K9⟩
                          have HB9 : Hid (Below V.heap.size V w9) := HR.out.trans (((Below.refl _ wa).drew.trans K9.out.2).mono HR.out.size)))
              go_wp2
              go_roundw
              case rel => exact ⟨q + 1, Hlt.out, by go_num, by rw [HSn2.out]; rfl, HB9.out⟩
              case measure => simp [intOf]; omega
            · have e1 : ((kl : Int) == 0) = false := by simp; omega
              have e2 : (kl == 0) = false := by simp; omega
              have HSn3 : Hid (sgl E (partsOf (EdR E) N) (q + 1) = false) := HSn2.out.trans e2
              clear e2
              go_wp2
              go_region_held3 (fun w' => w'.cell? ⟨g10, q, none⟩ = some (.slice (some ⟨gx, ox, none⟩) (0 + 1) cx) ∧ w'.cell? ⟨gx, ox, none⟩ = some (iv x)) (first | (with_reducible exact HSall.out _ HB9.out) | go_keep)
                (first | (go_at_call 18; refine HK.out.mono ?_; rintro e w9 ⟨p9, c9, rfl, K9⟩
                          have HB9 : Hid (Below V.heap.size V w9) := HR.out.trans (((Below.refl _ wa).drew.trans K9.out.2).mono HR.out.size)))
              go_wp2
              go_roundw
              case rel => exact ⟨q + 1, Hlt.out, by go_num, by rw [HSn3.out], HB9.out⟩
              case measure => simp [intOf]; omega
          · have e1 : ((rl : Int) + 1 == 1) = false := by simp; omega
            have e2 : (rl + 1 == 1) = false := by simp; omega
            have HSn2 : Hid (sgl E (partsOf (EdR E) N) (q + 1) = false) := by
              show _ = _
              rw [HSn.out, HS.out, e2]
              rfl
            go_wp2
            go_quiet (fail)
            go_wp2
            go_roundw
            case rel => exact ⟨q + 1, Hlt.out, by go_num, by rw [HSn2.out], HR.out.trans ((drewN_below wa nq).mono HR.out.size)⟩
            case measure => simp [intOf]; omega
      · have hqn : q = np := by omega
        subst hqn
        have HS : Hid (sgl E (partsOf (EdR E) N) q = false) := by
          cases h : sgl E (partsOf (EdR E) N) q with
          | false => rfl
          | true => exact absurd (Hall.out.1 h) Hst.out
        rw [HS.out]
        go_wp2
        go_ret
        exact ⟨rfl, HW3.out.trans ((HBV.out.trans (HR.out.mono HBV.out.size)).mono HW3.out.size)⟩
  | some l =>
    have hln : l.length = n := (order_of ht).len.trans Hn.out
    have Hln := Lib.hid hln
    clear hln
    have Ht := Lib.hid ht
    clear ht
    go_enter Try.func5, Try.ntmps5
    go_wp2_with (first
      | (go_at_call 8; (with_reducible refine HF.out.mono ?_); rintro e w1 ⟨rfl, K1⟩
         have HM1 := Lib.hid (HM.out w1 K1.out))
      | (go_at_call 23; (with_reducible refine HM1.out.mono ?_); rintro e w2 ⟨g, c, a, k, a', k', rfl, K2⟩
         obtain ⟨W3, hW3, Hb3, hs3, Hx3⟩ := obj_any w2 (.cells #[.slice a n k, .slice a' m k'] 29)
         have hc : c ≤ 100000 := by have := K2.out.1; omega
         have HG := Lib.hid (show Gr g c N E W3 from gat_below K2.out.2.1.at0 Hb3.out)
         have HW3 : Hid (Below w.heap.size w W3) := K1.out.trans ((K2.out.2.2.trans (Hb3.out.mono K2.out.2.2.size)).mono K1.out.size)
         have HN5 : Hid (N.length ≤ 500) := by show _ ≤ _; have := HNl.out; omega
         have HT := Lib.hid (HG.out.topS hc HN5.out Ht.out)
         rw [Hln.out] at HT
         have hst : startZ (EdR E) N = none := (order_of Ht.out).none HG.out.facts.2.1
         have Hst := Lib.hid hst
         clear hst
         clear Hb3 hs3 Hx3)
      | (go_at_call 28; (with_reducible refine HT.out.mono ?_); rintro e w4 ⟨p4, c4, rfl, K4⟩
         have HC := Lib.hid ((HG.out.below K4.out.2).cycN hc HN5.out Hst.out))
      | (go_at_call 26; (with_reducible refine HC.out.mono ?_); rintro e w5 ⟨p5, c5, rfl, K5⟩
         have HB5 : Hid (Below W3.heap.size W3 w5) := K4.out.2.trans (K5.out.mono K4.out.2.size)
         have HP : Hid (Calls Try.prog 30 #[.pointer (some ⟨g, 0, none⟩)] w5 fun e w' => ∃ v ps, e = .returned v ∧ Hid (PtsAt w5.heap.size v ps w' ∧ ps.map (·.2) = partsOf (EdR E) N ∧ Below w5.heap.size w5 w')) := by
           obtain ⟨Z, B, h⟩ := HG.out.below HB5.out
           exact parts_p hc HN5.out w5 h)
      | (go_at_call 30; (with_reducible refine HP.out.mono ?_); rintro e V ⟨pv, ps, rfl, KP⟩
         obtain ⟨p10, c10, rfl⟩ := row_sl KP.out.1.row
         obtain ⟨np, hnp⟩ : ∃ n, ps.length = n := ⟨_, rfl⟩
         have Hnp := Lib.hid hnp
         have HPt := Lib.hid KP.out.1
         rw [hnp] at HPt ⊢
         have HBV : Hid (Below W3.heap.size W3 V) := HB5.out.trans (KP.out.2.2.mono HB5.out.size)
         have HGV := Lib.hid (HG.out.below HBV.out)
         clear hnp)
      | go_in)
    have HnP : Hid ((partsOf (EdR E) N).length = np) := by
      show _ = _
      rw [← KP.out.2.1, List.length_map]
      exact Hnp.out
    have hnp5 : np ≤ 500 := by
      have h2 : (reps (EdR E) N).length ≤ N.length := List.length_filter_le _ _
      have h1 := HnP.out
      have := HNl.out
      unfold partsOf at h1
      rw [List.length_map] at h1
      omega
    have Hall := Lib.hid (sgl_all HGV.out.facts.1 HGV.out.facts.2.1 HnP.out)
    try go_frame
    go_loopw [12, 13] (fun v12 i wr => ∃ q : Nat, q ≤ np ∧ i = .int .i64 ((q : Nat) : Int) ∧ v12 = .bool (sgl E (partsOf (EdR E) N) q) ∧ Hid (Below V.heap.size V wr)) (fun _ i _ => np - (intOf i).toNat)
    case atStart => exact ⟨0, Nat.zero_le _, rfl, rfl, Below.refl _ _⟩
    case round =>
      obtain ⟨q, hq, rfl, rfl, HR⟩ := hrel
      obtain ⟨wa, hwa⟩ : ∃ wa, wa = wr := ⟨_, rfl⟩
      subst hwa
      by_cases hlt : q < np
      · obtain ⟨g10, gx, ox, cx, x, r, rfl, hpe, hxN, -, -, hcells⟩ := pts_cells HPt.out KP.out.2.1 Hnp.out hlt
        have HSn := Lib.hid (sgl_next (E := E) (by rw [HnP.out]; exact hlt) hpe)
        obtain ⟨rl, hrl⟩ : ∃ rl, r.length = rl := ⟨_, rfl⟩
        rw [hrl] at hcells
        rw [List.length_cons, hrl] at HSn
        have hfx := HGV.out.facts.2.2.1 x hxN
        have HSall := Lib.hid fun W hb => (show _ ∧ _ from ⟨(hcells W hb).1, (hcells W hb).2.1⟩)
        obtain ⟨s0, s1⟩ := HSall.out wa HR.out
        have hltI : (q : Int) < (np : Int) := by omega
        have hq0 : (0 : Int) ≤ (q : Int) := by omega
        have Hlt := Lib.hid hlt
        clear hpe hxN hcells hrl
        cases hS : sgl E (partsOf (EdR E) N) q with
        | false =>
          have HSn2 : Hid (sgl E (partsOf (EdR E) N) (q + 1) = false) := by
            show _ = _
            rw [HSn.out, hS]
            rfl
          clear hS
          go_wp2
          go_quiet (fail)
          go_wp2
          go_roundw
          case rel => exact ⟨q + 1, Hlt.out, by go_num, by rw [HSn2.out], HR.out.trans ((drewN_below wa nq).mono HR.out.size)⟩
          case measure => simp [intOf]; omega
        | true =>
          have HS := Lib.hid hS
          clear hS
          rcases Nat.eq_zero_or_pos rl with h0 | h0
          · subst h0
            obtain ⟨kl, hkl⟩ : ∃ kl, (kindsE E x x).length = kl := ⟨_, rfl⟩
            have HK := Lib.hid ((HGV.out.below (HR.out.trans ((Below.refl _ wa).drew.mono HR.out.size))).kinds x x hfx hfx (by have := HEl.out; omega))
            rw [hkl] at HK HSn
            have HSn2 : Hid (sgl E (partsOf (EdR E) N) (q + 1) = (kl == 0)) := by
              show _ = _
              rw [HSn.out, HS.out]
              rfl
            clear hkl
            rcases Nat.eq_zero_or_pos kl with k0 | k0
            · subst k0
              go_wp2
              go_region_held3 (fun w' => w'.cell? ⟨g10, q, none⟩ = some (.slice (some ⟨gx, ox, none⟩) (0 + 1) cx) ∧ w'.cell? ⟨gx, ox, none⟩ = some (iv x)) (first | (with_reducible exact HSall.out _ HB9.out) | go_keep)
                (first | (go_at_call 18; refine HK.out.mono ?_; rintro e w9 ⟨p9, c9, rfl, K9⟩
                          have HB9 : Hid (Below V.heap.size V w9) := HR.out.trans (((Below.refl _ wa).drew.trans K9.out.2).mono HR.out.size)))
              go_wp2
              go_roundw
              case rel => exact ⟨q + 1, Hlt.out, by go_num, by rw [HSn2.out]; rfl, HB9.out⟩
              case measure => simp [intOf]; omega
            · have e1 : ((kl : Int) == 0) = false := by simp; omega
              have e2 : (kl == 0) = false := by simp; omega
              have HSn3 : Hid (sgl E (partsOf (EdR E) N) (q + 1) = false) := HSn2.out.trans e2
              clear e2
              go_wp2
              go_region_held3 (fun w' => w'.cell? ⟨g10, q, none⟩ = some (.slice (some ⟨gx, ox, none⟩) (0 + 1) cx) ∧ w'.cell? ⟨gx, ox, none⟩ = some (iv x)) (first | (with_reducible exact HSall.out _ HB9.out) | go_keep)
                (first | (go_at_call 18; refine HK.out.mono ?_; rintro e w9 ⟨p9, c9, rfl, K9⟩
                          have HB9 : Hid (Below V.heap.size V w9) := HR.out.trans (((Below.refl _ wa).drew.trans K9.out.2).mono HR.out.size)))
              go_wp2
              go_roundw
              case rel => exact ⟨q + 1, Hlt.out, by go_num, by rw [HSn3.out], HB9.out⟩
              case measure => simp [intOf]; omega
          · have e1 : ((rl : Int) + 1 == 1) = false := by simp; omega
            have e2 : (rl + 1 == 1) = false := by simp; omega
            have HSn2 : Hid (sgl E (partsOf (EdR E) N) (q + 1) = false) := by
              show _ = _
              rw [HSn.out, HS.out, e2]
              rfl
            go_wp2
            go_quiet (fail)
            go_wp2
            go_roundw
            case rel => exact ⟨q + 1, Hlt.out, by go_num, by rw [HSn2.out], HR.out.trans ((drewN_below wa nq).mono HR.out.size)⟩
            case measure => simp [intOf]; omega
      · have hqn : q = np := by omega
        subst hqn
        have HS : Hid (sgl E (partsOf (EdR E) N) q = true) := Hall.out.2 Hst.out
        rw [HS.out]
        have HNd := Lib.hid ((HGV.out.below HR.out).nodes hc)
        rw [Hn.out] at HNd
        have hn5 : n ≤ 500 := by have := HNl.out; have := Hn.out; omega
        go_wp2_with (first
          | (go_at_call 32; (with_reducible refine HNd.out.mono ?_); rintro e w7 ⟨p7, c7, rfl, K7⟩)
          | go_in)
        have HB7 : Hid (Below w4.heap.size w4 w7) := K5.out.trans ((KP.out.2.2.trans ((HR.out.trans (K7.out.2.mono HR.out.size)).mono KP.out.2.2.size)).mono K5.out.size)
        have HL : Hid (SlI w7 p4 l) := K4.out.1.gro HB7.out (Nat.le_refl _)
        have HNs : Hid (SlI w7 p7 N) := K7.out.1
        have HG7 : Hid (Gr g c N E w7) := (HGV.out.below HR.out).below K7.out.2
        have HO := Lib.hid (order_of Ht.out)
        have HW7 : Hid (Below w.heap.size w w7) := HW3.out.trans ((K4.out.2.trans (HB7.out.mono K4.out.2.size)).mono HW3.out.size)
        try go_frame
        go_loopw [15, 16] (fun i _ wr => ∃ q2 : Nat, q2 ≤ n ∧ i = .int .i64 ((q2 : Nat) : Int) ∧ Hid (Below w7.heap.size w7 wr)) (fun i _ _ => n - (intOf i).toNat)
        case atStart => exact ⟨0, Nat.zero_le _, rfl, Below.refl _ _⟩
        case round =>
          obtain ⟨q2, hq2, rfl, HR2⟩ := hrel
          obtain ⟨wb, hwb⟩ : ∃ wb, wb = wr := ⟨_, rfl⟩
          subst hwb
          by_cases hlt2 : q2 < n
          · have hqo : q2 < N.length := by rw [Hn.out]; exact hlt2
            obtain ⟨b7, o7, rfl, c0⟩ := (HNs.out.gro HR2.out (Nat.le_refl _)).at hqo
            have hxN := getD_in (d := 0) hqo
            obtain ⟨x, hx⟩ : ∃ x, N.getD q2 0 = x := ⟨_, rfl⟩
            rw [hx] at c0 hxN
            have HPl := Lib.hid (place_n p4 c4 n x Hln.out (by omega) wb (HL.out.gro HR2.out (Nat.le_refl _)))
            obtain ⟨z, hz⟩ : ∃ z, placeZ l x = z := ⟨_, rfl⟩
            have hz0 : ¬ z < 0 := by
              rw [← hz, placeZ, if_pos (HO.out.all x hxN)]
              omega
            rw [hz] at HPl
            have hlI : (q2 : Int) < (n : Int) := by omega
            have Hlt2 := Lib.hid hlt2
            clear hqo hxN hx hz
            go_wp2_with (first
              | (go_at_call 33; (with_reducible refine HPl.out.mono ?_); rintro e w8 ⟨rfl, K8⟩)
              | go_in)
            have HB8 : Hid (Below w7.heap.size w7 w8) := HR2.out.trans (K8.out.mono HR2.out.size)
            try go_frame
            go_loopw [16] (fun i wr => ∃ k : Nat, k ≤ q2 ∧ i = .int .i64 ((k : Nat) : Int) ∧ Hid (Below w7.heap.size w7 wr)) (fun i _ => q2 - (intOf i).toNat)
            case atStart => exact ⟨0, Nat.zero_le _, rfl, HB8.out⟩
            case round =>
              obtain ⟨k3, hk3, rfl, HR3⟩ := hrel
              obtain ⟨wc, hwc⟩ : ∃ wc, wc = wr := ⟨_, rfl⟩
              subst hwc
              by_cases hlt3 : k3 < q2
              · have hko : k3 < l.length := by rw [Hln.out]; omega
                have hio : q2 < l.length := by rw [Hln.out]; omega
                obtain ⟨b4, o4, rfl, d0⟩ := (HL.out.gro HR3.out (Nat.le_refl _)).at hko
                have d1 := (HL.out.gro HR3.out (Nat.le_refl _)).cell1 hio rfl
                have HSall : Hid (∀ W, Below w7.heap.size w7 W → W.cell? ⟨b4, o4 + k3, none⟩ = some (iv (l.getD k3 0)) ∧ W.cell? ⟨b4, o4 + q2, none⟩ = some (iv (l.getD q2 0))) := fun W hb => ⟨(HL.out.gro hb (Nat.le_refl _)).cell1 hko rfl, (HL.out.gro hb (Nat.le_refl _)).cell1 hio rfl⟩
                have Hea := Lib.hid fun hl => HO.out.early (k := k3) (i := q2) HG7.out.facts.1 HG7.out.facts.2.1 hlt3 hio hl
                have hf5 := HNl.out
                have HHd := Lib.hid fun hh => held_n (g := g) (c := c) (N := N) (E := E) (some ⟨b4, o4, none⟩) c4 n k3 q2 Hln.out (by omega) (fun y hy => HG7.out.facts.2.2.1 y (HO.out.sub y hy)) (by have := HEl.out; omega) Hlt2.out hh wc.drew (HL.out.gro HR3.out.drew (Nat.le_refl _)) (HG7.out.below HR3.out.drew)
                obtain ⟨y1, hy1⟩ : ∃ y1, l.getD k3 0 = y1 := ⟨_, rfl⟩
                obtain ⟨y2, hy2⟩ : ∃ y2, l.getD q2 0 = y2 := ⟨_, rfl⟩
                rw [hy1] at d0 HSall
                rw [hy2] at d1 HSall
                have hkI : (k3 : Int) < (q2 : Int) := by omega
                have hkn : (k3 : Int) < (n : Int) := by omega
                have hk0 : (0 : Int) ≤ (k3 : Int) := by omega
                have hq0 : (0 : Int) ≤ (q2 : Int) := by omega
                have Hlt3 := Lib.hid hlt3
                clear hko hio hf5
                by_cases hgt : y2 < y1
                · have HH := Lib.hid (HHd.out (Hea.out (by rw [hy1, hy2]; exact hgt)))
                  clear HHd Hea hy1 hy2
                  go_wp2
                  go_region_held3 (fun w' => w'.cell? ⟨b4, o4 + k3, none⟩ = some (iv y1) ∧ w'.cell? ⟨b4, o4 + q2, none⟩ = some (iv y2)) (first | (with_reducible exact HSall.out _ HB9.out) | go_keep)
                    (first | (go_at_call 34; refine HH.out.mono ?_; rintro e w9 ⟨rfl, K9⟩
                              have HB9 : Hid (Below w7.heap.size w7 w9) := HR3.out.trans (((Below.refl _ wc).drew.trans K9.out).mono HR3.out.size)))
                  go_wp2
                  go_roundw
                  case rel => exact ⟨k3 + 1, Hlt3.out, by go_num, HB9.out⟩
                  case measure => simp [intOf]; omega
                · have e1 : decide (y2 < y1) = false := decide_eq_false hgt
                  have hle : y1 ≤ y2 := by omega
                  clear HHd Hea hy1 hy2 hgt
                  go_wp2
                  go_quiet (fail)
                  go_wp2
                  go_roundw
                  case rel => exact ⟨k3 + 1, Hlt3.out, by go_num, HR3.out.trans ((drewN_below wc nq).mono HR3.out.size)⟩
                  case measure => simp [intOf]; omega
              · have hkq : k3 = q2 := by omega
                subst hkq
                go_wp2
                go_roundw
                case rel => exact ⟨k3 + 1, Hlt2.out, by go_num, HR3.out⟩
                case measure => simp [intOf]; omega
          · have hqn : q2 = n := by omega
            subst hqn
            go_wp2
            try go_frame
            go_loopw [17] (fun i wr => ∃ q3 : Nat, q3 ≤ ne ∧ i = .int .i64 ((q3 : Nat) : Int) ∧ Hid (Below w7.heap.size w7 wr)) (fun i _ => ne - (intOf i).toNat)
            case atStart => exact ⟨0, Nat.zero_le _, rfl, HR2.out⟩
            case round =>
              obtain ⟨q3, hq3, rfl, HR4⟩ := hrel
              obtain ⟨wd, hwd⟩ : ∃ wd, wd = wr := ⟨_, rfl⟩
              subst hwd
              by_cases hlt4 : q3 < ne
              · have hqo : q3 < es.length := by rw [Hne.out]; exact hlt4
                have hbw := HW7.out.trans (HR4.out.mono HW7.out.size)
                obtain ⟨be, oe, rfl, d0, d1, -⟩ := (HE.out.gro hbw (Nat.le_refl _)).at hqo
                have hin := HEin.out _ (getD_in (d := e0) hqo)
                obtain ⟨p, hp⟩ : ∃ p, es.getD q3 e0 = p := ⟨_, rfl⟩
                obtain ⟨f1, f2, f3⟩ := p
                rw [hp] at d0 d1 hin
                have hed := (HO.out.edge HG7.out.facts.2.1 (a := f1) (b := f2) ⟨f3, hin⟩).2
                have HSall : Hid (∀ W, Below w7.heap.size w7 W → W.cell? ⟨be, oe + q3 * 3, none⟩ = some (iv f1) ∧ W.cell? ⟨be, oe + q3 * 3 + 1, none⟩ = some (iv f2)) := fun W hb => by
                  obtain ⟨h1, h2, -⟩ := (HE.out.gro (HW7.out.trans (hb.mono HW7.out.size)) (Nat.le_refl _)).cells hqo hp
                  exact ⟨h1, h2⟩
                have HP1 := Lib.hid fun (W : World) (hb : Below w7.heap.size w7 W) => place_n p4 c4 q2 f1 Hln.out (by omega) W (HL.out.gro hb (Nat.le_refl _))
                have HP2 := Lib.hid fun (W : World) (hb : Below w7.heap.size w7 W) => place_n p4 c4 q2 f2 Hln.out (by omega) W (HL.out.gro hb (Nat.le_refl _))
                obtain ⟨z1, hz1⟩ : ∃ z1, placeZ l f1 = z1 := ⟨_, rfl⟩
                obtain ⟨z2, hz2⟩ : ∃ z2, placeZ l f2 = z2 := ⟨_, rfl⟩
                rw [hz1] at HP1 hed
                rw [hz2] at HP2 hed
                have hnz : ¬ z2 ≤ z1 := by omega
                have hq3I : (q3 : Int) < (ne : Int) := by omega
                have hq30 : (0 : Int) ≤ (q3 : Int) := by omega
                have Hlt4 := Lib.hid hlt4
                clear hqo hbw hin hp hz1 hz2
                go_wp2
                go_region_held3 (fun w' => w'.cell? ⟨be, oe + q3 * 3, none⟩ = some (iv f1) ∧ w'.cell? ⟨be, oe + q3 * 3 + 1, none⟩ = some (iv f2)) (first | (with_reducible exact HSall.out _ HB10.out) | (with_reducible exact HSall.out _ HB9.out) | go_keep)
                  (first
                    | (go_at_call 33; (with_reducible refine (HP1.out _ HR4.out.drew).mono ?_); rintro e w9 ⟨rfl, K9⟩
                       have HB9 : Hid (Below w7.heap.size w7 w9) := HR4.out.drew.trans (K9.out.mono HR4.out.drew.size))
                    | (go_at_call 33; (with_reducible refine (HP2.out _ HB9.out).mono ?_); rintro e w10 ⟨rfl, K10⟩
                       have HB10 : Hid (Below w7.heap.size w7 w10) := HB9.out.trans (K10.out.mono HB9.out.size)))
                go_wp2
                go_roundw
                case rel => exact ⟨q3 + 1, Hlt4.out, by go_num, HB10.out⟩
                case measure => simp [intOf]; omega
              · have hqe : q3 = ne := by omega
                subst hqe
                go_wp2
                go_ret
                exact ⟨rfl, HW7.out.trans (HR4.out.mono HW7.out.size)⟩
end Go.Proofs.Ythgkloapnihpaaa
