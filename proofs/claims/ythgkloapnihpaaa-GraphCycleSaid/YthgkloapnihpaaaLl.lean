/- GraphCycle: the walk. -/
import Derived.Test.YthgkloapnihpaaaLk
namespace Go.Proofs.Ythgkloapnihpaaa
open Go.RowKit Go.Maps Go.WideMaps Go.WideElems Go.ChangeShapes Go.WideShapes

theorem plc_n (p : Option Addr) (c n : Nat) {l : List Int} (x : Int) (hl : l.length = n) (hn : n ≤ 100000) (w : World) (h : SlI w p l) :
    Calls Try.prog 33 #[.slice p n c, iv x] w fun e w' => e = .returned (iv (placeZ l x)) ∧ Hid (Below w.heap.size w w') := by
  subst hl
  exact place_any p c l x hn w h
/-- Those so many steps on, in a list. -/
structure AtSt (R : Int → Int → Prop) (s : Int) (N : List Int) (V : World) (B : Nat) (v : Value) (A : List Int) (k : Nat) (W : World) : Prop where
  row : IntsO W B v A
  once : A.Nodup
  sub : ∀ x ∈ A, x ∈ N
  mem : ∀ x, x ∈ A ↔ Fwd R s k x
  gro : Below V.heap.size V W
/-- The next ones, while they are gathered. -/
structure GatSt (R : Int → Int → Prop) (N A : List Int) (q : Nat) (wk : World) (v : Value) (G : List Int) (W : World) : Prop where
  row : IntsO W wk.heap.size v G
  once : G.Nodup
  sub : ∀ x ∈ G, x ∈ N
  mem : ∀ x, x ∈ G ↔ ∃ i, i < q ∧ R (A.getD i 0) x
  gro : Below wk.heap.size wk W
/-- .. of one of them. -/
structure GatIn (R : Int → Int → Prop) (N A Os : List Int) (q j : Nat) (wk : World) (vo : Value) (B : Nat) (v : Value) (G : List Int) (W : World) : Prop where
  row : IntsO W wk.heap.size v G
  once : G.Nodup
  sub : ∀ x ∈ G, x ∈ N
  mem : ∀ x, x ∈ G ↔ (∃ i, i < q ∧ R (A.getD i 0) x) ∨ x ∈ Os.take j
  gro : Below wk.heap.size wk W
  out : IntsO W B vo Os
  apart : ∀ z, v.ownBlock = some z → vo.ownBlock ≠ some z
theorem len500 {l N : List Int} (h1 : l.Nodup) (h2 : ∀ x ∈ l, x ∈ N) (h3 : N.length ≤ 500) : l.length ≤ 500 := Nat.le_trans (len_le h1 h2) h3
theorem IntsO.slv {W : World} {B n c : Nat} {p : Option Addr} {zs : List Int} (h : IntsO W B (.slice p n c) zs) : n = zs.length ∧ SlI W p zs := by
  obtain ⟨p', c', e, hs⟩ := h.sl
  simp only [Value.slice.injEq] at e
  obtain ⟨rfl, rfl, rfl⟩ := e
  exact ⟨rfl, hs⟩
theorem mem_upto {R : Int → Int → Prop} {A : List Int} {x : Int} : (∃ i, i < A.length ∧ R (A.getD i 0) x) ↔ ∃ a ∈ A, R a x := by
  constructor
  · rintro ⟨i, hi, h⟩
    exact ⟨_, getD_in hi, h⟩
  · rintro ⟨a, ha, h⟩
    obtain ⟨i, hi, rfl⟩ := List.mem_iff_getElem.1 ha
    exact ⟨i, hi, by rw [List.getD_eq_getElem?_getD, List.getElem?_eq_getElem hi]; exact h⟩
set_option maxHeartbeats 32000000 in
set_option maxRecDepth 100000 in
theorem cycle_few (ea : Option Addr) (ce : Nat) (es : List Ed) (na : Option Addr) (cn : Nat) (ns : List Int) (hes : es.length ≤ 40) (hns : ns.length ≤ 40) (hef : ∀ e ∈ es, fit64 e.1 ∧ fit64 e.2.1 ∧ fit64 e.2.2) (hnf : ∀ x ∈ ns, fit64 x) (w : World) (hE : SlE w ea es) (hN : SlI w na ns) :
    Calls Try.prog 6 #[.slice ea es.length ce, .slice na ns.length cn] w fun e w' => e = .returned (.bool true) ∧ Hid (Below w.heap.size w w') := by
  have HF := Lib.hid (first_any w)
  have HM := Lib.hid fun (W : World) (hb : Below w.heap.size w W) => made_any ea ce es na cn ns (by omega) (by omega) hef hnf W (hE.gro hb (Nat.le_refl _)) (hN.gro hb (Nat.le_refl _))
  have HE := Lib.hid hE
  obtain ⟨ne, hne⟩ : ∃ ne, es.length = ne := ⟨_, rfl⟩
  obtain ⟨nn, hnn⟩ : ∃ nn, ns.length = nn := ⟨_, rfl⟩
  obtain ⟨N, hNe⟩ : ∃ N, nodesOf es ns = N := ⟨_, rfl⟩
  obtain ⟨E, hEe⟩ : ∃ E, edgesUp es = E := ⟨_, rfl⟩
  have hNl : N.length ≤ 120 := by rw [← hNe]; exact Nat.le_trans (nodesOf_len _ _) (by omega)
  have hEl : E.length ≤ 40 := by rw [← hEe]; exact Nat.le_trans (edgesUp_len _) (by omega)
  have HEin : Hid (∀ p ∈ es, p ∈ E) := fun p hp => by rw [← hEe]; exact mem_edgesUp.2 hp
  rw [hNe, hEe] at HM
  have Hne := Lib.hid hne
  rw [hne, hnn] at HM ⊢
  rw [hne] at hes
  rw [hnn] at hns
  have HNl := Lib.hid hNl
  have HEl := Lib.hid hEl
  have Hef := Lib.hid hef
  have hN5 : N.length ≤ 500 := by omega
  have HN5 := Lib.hid hN5
  have hg1 : ¬ (40 : Int) < (ne : Int) := by omega
  have hg2 : ¬ (40 : Int) < (nn : Int) := by omega
  obtain ⟨n, hn⟩ : ∃ n, N.length = n := ⟨_, rfl⟩
  obtain ⟨m, hm⟩ : ∃ m, E.length = m := ⟨_, rfl⟩
  have Hn := Lib.hid hn
  rw [hn, hm] at HM
  clear hE hN hef hnf hnn hne hNe hEe hNl hEl hn hm hN5
  cases ht : startZ (EdR E) N with
  | none =>
    have Ht := Lib.hid ht
    clear ht
    go_enter Try.func6, Try.ntmps6
    go_wp2_with (first
      | (go_at_call 8; (with_reducible refine HF.out.mono ?_); rintro e w1 ⟨rfl, K1⟩
         have HM1 := Lib.hid (HM.out w1 K1.out))
      | (go_at_call 23; (with_reducible refine HM1.out.mono ?_); rintro e w2 ⟨g, c, a, k, a', k', rfl, K2⟩
         obtain ⟨W3, hW3, Hb3, hs3, Hx3⟩ := obj_any w2 (.cells #[.slice a n k, .slice a' m k'] 29)
         have hc : c ≤ 100000 := by have := K2.out.1; omega
         have HG := Lib.hid (show Gr g c N E W3 from gat_below K2.out.2.1.at0 Hb3.out)
         have HW3 : Hid (Below w.heap.size w W3) := K1.out.trans ((K2.out.2.2.trans (Hb3.out.mono K2.out.2.2.size)).mono K1.out.size)
         have HC := Lib.hid (HG.out.cycN hc HN5.out Ht.out)
         clear Hb3 hs3 Hx3)
      | (go_at_call 26; (with_reducible refine HC.out.mono ?_); rintro e w5 ⟨p5, c5, rfl, K5⟩
         have HB5 : Hid (Below W3.heap.size W3 w5) := K5.out
         have HNd := Lib.hid ((HG.out.below HB5.out).nodes hc)
         rw [Hn.out] at HNd)
      | (go_at_call 32; (with_reducible refine HNd.out.mono ?_); rintro e V ⟨p7, c7, rfl, K7⟩)
      | go_in)
    have HGV : Hid (Gr g c N E V) := (HG.out.below HB5.out).below K7.out.2
    have HNs : Hid (SlI V p7 N) := K7.out.1
    have HWV : Hid (Below w.heap.size w V) := HW3.out.trans ((HB5.out.trans (K7.out.2.mono HB5.out.size)).mono HW3.out.size)
    have hn5 : n ≤ 500 := by have := HN5.out; have := Hn.out; omega
    have Hfit : Hid (∀ x ∈ N, fit64 x) := HGV.out.facts.2.2.1
    have Hin : Hid (EndsIn N E) := HGV.out.facts.2.1
    try go_frame
    go_loopw [10, 11] (fun i _ wr => ∃ q : Nat, q ≤ n ∧ i = .int .i64 ((q : Nat) : Int) ∧ Hid (Below V.heap.size V wr)) (fun i _ _ => n - (intOf i).toNat)
    case atStart => exact ⟨0, Nat.zero_le _, rfl, Below.refl _ _⟩
    case round =>
      obtain ⟨q, hq, rfl, HR⟩ := hrel
      obtain ⟨wa, hwa⟩ : ∃ wa, wa = wr := ⟨_, rfl⟩
      subst hwa
      by_cases hlt : q < n
      · have hqo : q < N.length := by rw [Hn.out]; exact hlt
        have hTC : ¬ TCR (EdR E) (N.getD q 0) (N.getD q 0) := startZ_no.1 Ht.out _ (getD_in hqo)
        obtain ⟨b7, o7, rfl, c0⟩ := (HNs.out.gro HR.out (Nat.le_refl _)).at hqo
        have hfx := Hfit.out _ (getD_in (d := 0) hqo)
        have Hqo := Lib.hid hqo
        have HSall : Hid (∀ W, Below V.heap.size V W → W.cell? ⟨b7, o7 + q, none⟩ = some (iv (N.getD q 0))) := fun W hb => (HNs.out.gro hb (Nat.le_refl _)).cell1 Hqo.out rfl
        have HRe := Lib.hid ((HGV.out.below HR.out.drew).reach hc HN5.out _ hfx)
        obtain ⟨x, hx⟩ : ∃ x, N.getD q 0 = x := ⟨_, rfl⟩
        rw [hx] at c0 HSall HRe hTC
        have HTC := Lib.hid hTC
        have hltI : (q : Int) < (n : Int) := by omega
        have hq0 : (0 : Int) ≤ (q : Int) := by omega
        clear hfx hqo hTC
        go_wp2
        go_region_held3 (fun w' => w'.cell? ⟨b7, o7 + q, none⟩ = some (iv x)) (first | (with_reducible exact HSall.out _ HB9.out) | (with_reducible exact HSall.out _ HB8.out) | go_keep)
          (first
            | (go_at_call 24; refine HRe.out.mono ?_; rintro e w8 ⟨p8, c8, r8, rfl, K8⟩
               have HB8 : Hid (Below V.heap.size V w8) := HR.out.drew.trans (K8.out.2.2.2.2.mono HR.out.drew.size)
               have HPl := Lib.hid (plc_n p8 c8 _ x rfl (by have := K8.out.2.1; omega) w8 K8.out.1)
               have hpz : placeZ r8 x = -1 := by rw [placeZ, if_neg fun h => HTC.out ((K8.out.2.2.2.1 x).1 h)]
               rw [hpz] at HPl
               clear hpz)
            | (go_at_call 33; (with_reducible refine HPl.out.mono ?_); rintro e w9 ⟨rfl, K9⟩
               have HB9 : Hid (Below V.heap.size V w9) := HB8.out.trans (K9.out.mono HB8.out.size)))
        have Hlt := Lib.hid hlt
        by_cases hlast : q + 1 = n
        · have e1 : ((q : Int) + 1 == (n : Int)) = true := by simp; omega
          go_wp2
          go_roundw
          case rel => exact ⟨q + 1, Hlt.out, by go_num, HB9.out⟩
          case measure => simp [intOf]; omega
        · have e1 : ((q : Int) + 1 == (n : Int)) = false := by simp; omega
          go_wp2
          go_roundw
          case rel => exact ⟨q + 1, Hlt.out, by go_num, HB9.out⟩
          case measure => simp [intOf]; omega
      · have hqn : q = n := by omega
        subst hqn
        have HE9 : Hid (Below w.heap.size w wa) := HWV.out.trans (HR.out.mono HWV.out.size)
        go_wp2
        try go_frame
        go_loopw [12, 13] (fun i _ wr => i = .int .i64 0 ∧ wr = wa) (fun _ _ _ => 0)
        case atStart => exact ⟨rfl, rfl⟩
        case round =>
          obtain ⟨rfl, rfl⟩ := hrel
          go_wp2
          go_ret
          exact ⟨rfl, HE9.out⟩
  | some s =>
    have Ht := Lib.hid ht
    clear ht
    go_enter Try.func6, Try.ntmps6
    go_wp2_with (first
      | (go_at_call 8; (with_reducible refine HF.out.mono ?_); rintro e w1 ⟨rfl, K1⟩
         have HM1 := Lib.hid (HM.out w1 K1.out))
      | (go_at_call 23; (with_reducible refine HM1.out.mono ?_); rintro e w2 ⟨g, c, a, k, a', k', rfl, K2⟩
         obtain ⟨W3, hW3, Hb3, hs3, Hx3⟩ := obj_any w2 (.cells #[.slice a n k, .slice a' m k'] 29)
         have hc : c ≤ 100000 := by have := K2.out.1; omega
         have HG := Lib.hid (show Gr g c N E W3 from gat_below K2.out.2.1.at0 Hb3.out)
         have HW3 : Hid (Below w.heap.size w W3) := K1.out.trans ((K2.out.2.2.trans (Hb3.out.mono K2.out.2.2.size)).mono K1.out.size)
         have HC := Lib.hid (HG.out.cycR hc HN5.out Ht.out)
         clear Hb3 hs3 Hx3)
      | (go_at_call 26; (with_reducible refine HC.out.mono ?_); rintro e w5 ⟨p5, T, cl, c5, rfl, K5⟩
         have HB5 : Hid (Below W3.heap.size W3 w5) := K5.out.2.2.2
         have HNd := Lib.hid ((HG.out.below HB5.out).nodes hc)
         rw [Hn.out] at HNd)
      | (go_at_call 32; (with_reducible refine HNd.out.mono ?_); rintro e V ⟨p7, c7, rfl, K7⟩)
      | go_in)
    have HGV : Hid (Gr g c N E V) := (HG.out.below HB5.out).below K7.out.2
    have HNs : Hid (SlI V p7 N) := K7.out.1
    have HWV : Hid (Below w.heap.size w V) := HW3.out.trans ((HB5.out.trans (K7.out.2.mono HB5.out.size)).mono HW3.out.size)
    have hn5 : n ≤ 500 := by have := HN5.out; have := Hn.out; omega
    have Hfit : Hid (∀ x ∈ N, fit64 x) := HGV.out.facts.2.2.1
    have Hin : Hid (EndsIn N E) := HGV.out.facts.2.1
    obtain ⟨L, hL⟩ : ∃ L, T + 1 = L := ⟨_, rfl⟩
    have HT : Hid (T + 1 = L) := hL
    have HRd : Hid (Round (EdR E) s T cl) := K5.out.2.1
    have HCl : Hid (SlI V p5 cl) := K5.out.1.gro K7.out.2 (Nat.le_refl _)
    have hL1 : 0 < L := by omega
    have hL5 : L ≤ 501 := by have := K5.out.2.2.1; omega
    have hclo : 0 < cl.length := by rw [HRd.out.len]; omega
    obtain ⟨b5, o5, rfl, s0⟩ := HCl.out.at hclo
    rw [HRd.out.head] at s0
    have HCall : Hid (∀ W, Below V.heap.size V W → W.cell? ⟨b5, o5, none⟩ = some (iv s)) := fun W hb => by
      have := (HCl.out.gro hb (Nat.le_refl _)).cell1 (k := 0) (by rw [HRd.out.len]; omega) HRd.out.head
      rwa [Nat.add_zero] at this
    obtain ⟨ps, hps, hpe, hpt, hpn⟩ := startZ_at Ht.out
    have HTs := Lib.hid hpt
    have Hpe := Lib.hid hpe
    have Hpn := Lib.hid hpn
    rw [Hn.out] at hps
    rw [hL]
    clear s0 hclo hpe hpt hpn hL
    try go_frame
    go_loopw [10, 11] (fun i _ wr => ∃ q : Nat, q ≤ ps ∧ i = .int .i64 ((q : Nat) : Int) ∧ Hid (Below V.heap.size V wr)) (fun i _ _ => n - (intOf i).toNat)
    case atStart => exact ⟨0, Nat.zero_le _, rfl, Below.refl _ _⟩
    case round =>
      obtain ⟨q, hq, rfl, HR⟩ := hrel
      obtain ⟨wa, hwa⟩ : ∃ wa, wa = wr := ⟨_, rfl⟩
      subst hwa
      have hqo : q < N.length := by rw [Hn.out]; omega
      by_cases hlt : q < ps
      · have hTC : ¬ TCR (EdR E) (N.getD q 0) (N.getD q 0) := Hpn.out q hlt
        obtain ⟨b7, o7, rfl, c0⟩ := (HNs.out.gro HR.out (Nat.le_refl _)).at hqo
        have hfx := Hfit.out _ (getD_in (d := 0) hqo)
        have Hqo := Lib.hid hqo
        have HSall : Hid (∀ W, Below V.heap.size V W → W.cell? ⟨b7, o7 + q, none⟩ = some (iv (N.getD q 0))) := fun W hb => (HNs.out.gro hb (Nat.le_refl _)).cell1 Hqo.out rfl
        have HRe := Lib.hid ((HGV.out.below HR.out.drew).reach hc HN5.out _ hfx)
        obtain ⟨x, hx⟩ : ∃ x, N.getD q 0 = x := ⟨_, rfl⟩
        rw [hx] at c0 HSall HRe hTC
        have HTC := Lib.hid hTC
        have hltI : (q : Int) < (n : Int) := by omega
        have hq0 : (0 : Int) ≤ (q : Int) := by omega
        clear hfx hqo hTC
        go_wp2
        go_region_held3 (fun w' => w'.cell? ⟨b7, o7 + q, none⟩ = some (iv x)) (first | (with_reducible exact HSall.out _ HB9.out) | (with_reducible exact HSall.out _ HB8.out) | go_keep)
          (first
            | (go_at_call 24; refine HRe.out.mono ?_; rintro e w8 ⟨p8, c8, r8, rfl, K8⟩
               have HB8 : Hid (Below V.heap.size V w8) := HR.out.drew.trans (K8.out.2.2.2.2.mono HR.out.drew.size)
               have HPl := Lib.hid (plc_n p8 c8 _ x rfl (by have := K8.out.2.1; omega) w8 K8.out.1)
               have hpz : placeZ r8 x = -1 := by rw [placeZ, if_neg fun h => HTC.out ((K8.out.2.2.2.1 x).1 h)]
               rw [hpz] at HPl
               clear hpz)
            | (go_at_call 33; (with_reducible refine HPl.out.mono ?_); rintro e w9 ⟨rfl, K9⟩
               have HB9 : Hid (Below V.heap.size V w9) := HB8.out.trans (K9.out.mono HB8.out.size)))
        have Hlt := Lib.hid hlt
        have e1 : ((q : Int) + 1 == (n : Int)) = false := by simp; omega
        go_wp2
        go_roundw
        case rel => exact ⟨q + 1, Hlt.out, by go_num, HB9.out⟩
        case measure => simp [intOf]; omega
      · have hqn : q = ps := by omega
        subst hqn
        have hTC : TCR (EdR E) (N.getD q 0) (N.getD q 0) := by rw [Hpe.out]; exact HTs.out
        obtain ⟨b7, o7, rfl, c0⟩ := (HNs.out.gro HR.out (Nat.le_refl _)).at hqo
        have hfx := Hfit.out _ (getD_in (d := 0) hqo)
        have Hqo := Lib.hid hqo
        have HSall : Hid (∀ W, Below V.heap.size V W → W.cell? ⟨b7, o7 + q, none⟩ = some (iv (N.getD q 0))) := fun W hb => (HNs.out.gro hb (Nat.le_refl _)).cell1 Hqo.out rfl
        have HRe := Lib.hid ((HGV.out.below HR.out.drew).reach hc HN5.out _ hfx)
        obtain ⟨x, hx⟩ : ∃ x, N.getD q 0 = x := ⟨_, rfl⟩
        rw [hx] at c0 HSall HRe hTC
        have HTC := Lib.hid hTC
        have hltI : (q : Int) < (n : Int) := by omega
        have hq0 : (0 : Int) ≤ (q : Int) := by omega
        clear hfx hqo hTC
        go_wp2
        go_region_held3 (fun w' => w'.cell? ⟨b7, o7 + q, none⟩ = some (iv x)) (first | (with_reducible exact HSall.out _ HB9.out) | (with_reducible exact HSall.out _ HB8.out) | go_keep)
          (first
            | (go_at_call 24; refine HRe.out.mono ?_; rintro e w8 ⟨p8, c8, r8, rfl, K8⟩
               have HB8 : Hid (Below V.heap.size V w8) := HR.out.drew.trans (K8.out.2.2.2.2.mono HR.out.drew.size)
               have HPl := Lib.hid (plc_n p8 c8 _ x rfl (by have := K8.out.2.1; omega) w8 K8.out.1)
               obtain ⟨z8, hz8⟩ : ∃ z, placeZ r8 x = z := ⟨_, rfl⟩
               have hz0 : 0 ≤ z8 := by rw [← hz8, placeZ, if_pos ((K8.out.2.2.2.1 x).2 HTC.out)]; omega
               rw [hz8] at HPl
               clear hz8)
            | (go_at_call 33; (with_reducible refine HPl.out.mono ?_); rintro e w9 ⟨rfl, K9⟩
               have HB9 : Hid (Below V.heap.size V w9) := HB8.out.trans (K9.out.mono HB8.out.size)))
        have hxs : s = x := Hpe.out.symm.trans hx
        subst hxs
        have u0 := HSall.out w9 HB9.out
        have u1 := HCall.out w9 HB9.out
        have e0 : ((L : Int) == 0) = false := by simp; omega
        have hLI : (0 : Int) < (L : Int) := by omega
        go_wp2
        go_quiet (fail)
        go_wp2
        have HBa : Hid (Below V.heap.size V (w9.drewN nq)) := HB9.out.trans ((drewN_below w9 nq).mono HB9.out.size)
        clear u0 u1 HSall HRe
        generalize w9.drewN nq = wA at *
        try go_frame
        go_loopw [12, 13] (fun i _ wr => ∃ j : Nat, j ≤ L ∧ i = .int .i64 ((j : Nat) : Int) ∧ Hid (Below V.heap.size V wr)) (fun i _ _ => L - (intOf i).toNat)
        case atStart => exact ⟨0, Nat.zero_le _, rfl, HBa.out⟩
        case round =>
          obtain ⟨j, hj, rfl, HR2⟩ := hrel
          obtain ⟨wb, hwb⟩ : ∃ wb, wb = wr := ⟨_, rfl⟩
          subst hwb
          by_cases hlt2 : j < L
          · have hjo : j < T + 1 := by rw [HT.out]; exact hlt2
            have hR := HRd.out.step hjo
            have hPl := HRd.out.place hjo
            have hxN := HRd.out.inN Hin.out hjo
            obtain ⟨nx, hnx⟩ : ∃ nx, (j + 1) % (T + 1) = nx := ⟨_, rfl⟩
            rw [hnx] at hR
            have hyN := (Hin.out _ _ hR).2
            have hnl : nx < L := by rw [← hnx, ← HT.out]; exact Nat.mod_lt _ (by omega)
            have hmod : ((j : Int) + 1).tmod (L : Int) = (nx : Int) := by
              show Int.tmod ((j + 1 : Nat) : Int) (L : Int) = _
              rw [← hnx, HT.out]
              exact (Int.ofNat_tmod (j + 1) L).symm
            have c0 := (HCl.out.gro HR2.out (Nat.le_refl _)).cell1 (k := j) (by rw [HRd.out.len]; exact hjo) rfl
            have c1 := (HCl.out.gro HR2.out (Nat.le_refl _)).cell1 (k := nx) (by rw [HRd.out.len, HT.out]; exact hnl) rfl
            obtain ⟨x, hx⟩ : ∃ x, cl.getD j 0 = x := ⟨_, rfl⟩
            obtain ⟨y, hy⟩ : ∃ y, cl.getD nx 0 = y := ⟨_, rfl⟩
            rw [hx] at hR hPl hxN c0
            rw [hy] at hR hyN c1
            have HK := Lib.hid ((HGV.out.below HR2.out).kinds x y (Hfit.out x hxN) (Hfit.out y hyN) (by have := HEl.out; omega))
            have hkl := kinds_some.2 hR
            obtain ⟨kl, hkle⟩ : ∃ kl, (kindsE E x y).length = kl := ⟨_, rfl⟩
            rw [hkle] at HK hkl
            have e1 : ((kl : Int) == 0) = false := by simp; omega
            have HPl := Lib.hid hPl
            have hjI : (j : Int) < (L : Int) := by omega
            have hj0 : (0 : Int) ≤ (j : Int) := by omega
            have hnI : (nx : Int) < (L : Int) := by omega
            have hn0 : (0 : Int) ≤ (nx : Int) := by omega
            have hLn : (L : Int) ≠ 0 := by omega
            have Hlt2 := Lib.hid hlt2
            have HXj : Hid (∀ W, Below V.heap.size V W → W.cell? ⟨b5, o5 + j, none⟩ = some (iv x)) := fun W hb => (HCl.out.gro hb (Nat.le_refl _)).cell1 (by rw [HRd.out.len]; exact hjo) hx
            clear hR hPl hxN hyN hnx hx hy hkle hkl hjo
            go_wp2_with (first
              | (go_at_call 18; (with_reducible refine HK.out.mono ?_); rintro e w10 ⟨p10, c10, rfl, K10⟩
                 have HB10 : Hid (Below V.heap.size V w10) := HR2.out.trans (K10.out.2.mono HR2.out.size)
                 have HPc := Lib.hid (plc_n (some ⟨b5, o5, none⟩) c5 L x (HRd.out.len.trans HT.out) (by omega) w10 (HCl.out.gro HB10.out (Nat.le_refl _)))
                 rw [HPl.out] at HPc
                 have d0 := HXj.out w10 HB10.out)
              | (go_at_call 33; (with_reducible refine HPc.out.mono ?_); rintro e w11 ⟨rfl, K11⟩
                 have HB11 : Hid (Below V.heap.size V w11) := HB10.out.trans (K11.out.mono HB10.out.size))
              | go_in)
            go_roundw
            case rel => exact ⟨j + 1, Hlt2.out, by go_num, HB11.out⟩
            case measure => simp [intOf]; omega
          · have hjL : L = j := by omega
            subst hjL
            obtain ⟨WA, hWA, HbA, hsA, HxA⟩ := obj_any wb (.cells #[iv s] 3)
            have u1 := HCall.out wb HR2.out
            have HBA : Hid (Below V.heap.size V WA) := HR2.out.trans (HbA.out.mono HR2.out.size)
            have HIA : Hid (IntsO WA wb.heap.size (.slice (some ⟨wb.heap.size, 0, none⟩) 1 1) [s]) := by
              show IntsO _ _ _ _
              rw [← hWA]
              exact intsO_one wb _ (Nat.le_refl _) s
            go_wp2
            have HsN : Hid (s ∈ N) := by
              have := HRd.out.inN Hin.out (i := 0) (by omega)
              rwa [HRd.out.head] at this
            have H0 : Hid (AtSt (EdR E) s N V V.heap.size (.slice (some ⟨wb.heap.size, 0, none⟩) 1 1) [s] 0 WA) := ⟨HIA.out.low HR2.out.size, by simp, fun x hx => by rw [List.mem_singleton.1 hx]; exact HsN.out, fun x => by rw [List.mem_singleton]; rfl, HBA.out⟩
            try go_frame
            go_loopw [14, 15, 16, 17, 18, 19] (fun v14 i _ _ _ _ wr => ∃ (k : Nat) (A : List Int), k ≤ L ∧ i = .int .i64 ((k : Nat) + 1 : Int) ∧ Hid (AtSt (EdR E) s N V V.heap.size v14 A k wr)) (fun _ i _ _ _ _ _ => L + 1 - (intOf i).toNat)
            case atStart => exact ⟨0, [s], Nat.zero_le _, rfl, H0.out⟩
            case round =>
              obtain ⟨k, A, hk, rfl, HA⟩ := hrel
              obtain ⟨wk, hwk⟩ : ∃ wk, wk = wr := ⟨_, rfl⟩
              subst hwk
              by_cases hlt3 : k < L
              · obtain ⟨pA, cA, rfl, hAs⟩ := HA.out.row.sl
                have HAs := Lib.hid hAs
                have hAl := len500 HA.out.once HA.out.sub HN5.out
                obtain ⟨na, hna⟩ : ∃ na, A.length = na := ⟨_, rfl⟩
                have Hna := Lib.hid hna
                rw [hna] at hAl ⊢
                have hkI : (k : Int) + 1 ≤ (L : Int) := by omega
                have Hlt3 := Lib.hid hlt3
                have HG0 : Hid (GatSt (EdR E) N A 0 wk (.slice none 0 0) [] wk) := ⟨intsO_nil _ _, List.nodup_nil, by simp, fun x => by simp, Below.refl _ _⟩
                clear hAs hna
                go_wp2
                try go_frame
                go_loopw [16, 17, 18, 19] (fun v16 i _ _ wr => ∃ (q : Nat) (G : List Int), q ≤ na ∧ i = .int .i64 ((q : Nat) : Int) ∧ Hid (GatSt (EdR E) N A q wk v16 G wr)) (fun _ i _ _ _ => na - (intOf i).toNat)
                case atStart => exact ⟨0, [], Nat.zero_le _, rfl, HG0.out⟩
                case round =>
                  obtain ⟨q4, G, hq4, rfl, HG⟩ := hrel
                  obtain ⟨we, hwe⟩ : ∃ we, we = wr := ⟨_, rfl⟩
                  subst hwe
                  by_cases hlt4 : q4 < na
                  · have hqo : q4 < A.length := by rw [Hna.out]; exact hlt4
                    obtain ⟨bA, oA, rfl, c0⟩ := (HAs.out.gro HG.out.gro (Nat.le_refl _)).at hqo
                    have haN := HA.out.sub _ (getD_in (d := 0) hqo)
                    obtain ⟨x, hx⟩ : ∃ x, A.getD q4 0 = x := ⟨_, rfl⟩
                    rw [hx] at c0 haN
                    have Hx := Lib.hid hx
                    have HVe : Hid (Below V.heap.size V we) := HA.out.gro.trans (HG.out.gro.mono HA.out.gro.size)
                    have HO := Lib.hid ((HGV.out.below HVe.out).out hc x (Hfit.out x haN))
                    obtain ⟨mo, hmo⟩ : ∃ mo, (outsE N E x).length = mo := ⟨_, rfl⟩
                    have Hmo := Lib.hid hmo
                    have hmo5 : mo ≤ 500 := by
                      have h1 : (outsE N E x).length ≤ N.length := List.length_filter_le _ _
                      have := HN5.out
                      omega
                    rw [hmo] at HO
                    have hqI : (q4 : Int) < (na : Int) := by omega
                    have hq0 : (0 : Int) ≤ (q4 : Int) := by omega
                    have Hlt4 := Lib.hid hlt4
                    clear hqo haN hx hmo
                    go_wp2_with (first
                      | (go_at_call 20; (with_reducible refine HO.out.mono ?_); rintro e w13 ⟨p18, c18, rfl, K13⟩)
                      | go_in)
                    have HI0 : Hid (GatIn (EdR E) N A (outsE N E x) q4 0 wk (.slice p18 mo c18) we.heap.size u16 G w13) := by
                      refine ⟨HG.out.row.below K13.out.2, HG.out.once, HG.out.sub, fun z => ?_, HG.out.gro.trans (K13.out.2.mono HG.out.gro.size), K13.out.1, fun z h1 h2 => ?_⟩
                      · rw [List.take_zero, HG.out.mem z]
                        simp
                      · have h3 := (HG.out.row.lt h1).2
                        have h4 := (K13.out.1.lt h2).1
                        omega
                    try go_frame
                    go_loopw [16, 19] (fun v16 i wr => ∃ (j : Nat) (G : List Int), j ≤ mo ∧ i = .int .i64 ((j : Nat) : Int) ∧ Hid (GatIn (EdR E) N A (outsE N E x) q4 j wk (.slice p18 mo c18) we.heap.size v16 G wr)) (fun _ i _ => mo - (intOf i).toNat)
                    case atStart => exact ⟨0, G, Nat.zero_le _, rfl, HI0.out⟩
                    case round =>
                      obtain ⟨j5, G5, hj5, rfl, HI⟩ := hrel
                      obtain ⟨wf, hwf⟩ : ∃ wf, wf = wr := ⟨_, rfl⟩
                      subst hwf
                      by_cases hlt5 : j5 < mo
                      · have hjo : j5 < (outsE N E x).length := by rw [Hmo.out]; exact hlt5
                        have HOs := Lib.hid HI.out.out.slv.2
                        obtain ⟨b18, o18, rfl, d0⟩ := HOs.out.at hjo
                        obtain ⟨pG, cG, rfl, hGs⟩ := HI.out.row.sl
                        have hGl := len500 HI.out.once HI.out.sub HN5.out
                        have hyO := getD_in (d := 0) hjo
                        have htk := take_more (N := outsE N E x) hjo
                        obtain ⟨y, hy⟩ : ∃ y, (outsE N E x).getD j5 0 = y := ⟨_, rfl⟩
                        rw [hy] at d0 hyO htk
                        have HyN : Hid (y ∈ N) := (List.mem_filter.1 hyO).1
                        have Htk := Lib.hid htk
                        have HPl := Lib.hid (plc_n pG cG _ y rfl (by omega) wf hGs)
                        have HOj : Hid (∀ W, Below wf.heap.size wf W → W.cell? ⟨b18, o18 + j5, none⟩ = some (iv y)) := fun W hb => (HOs.out.gro hb (Nat.le_refl _)).cell1 hjo hy
                        have hjI : (j5 : Int) < (mo : Int) := by omega
                        have hj0 : (0 : Int) ≤ (j5 : Int) := by omega
                        have Hlt5 := Lib.hid hlt5
                        by_cases hyG : y ∈ G5
                        · obtain ⟨z, hz⟩ : ∃ z, placeZ G5 y = z := ⟨_, rfl⟩
                          have hz0 : ¬ z < 0 := by rw [← hz, placeZ, if_pos hyG]; omega
                          rw [hz] at HPl
                          have HyG := Lib.hid hyG
                          clear hjo hyO htk hy hz hGs hyG
                          go_wp2_with (first
                            | (go_at_call 33; (with_reducible refine HPl.out.mono ?_); rintro e w14 ⟨rfl, K14⟩)
                            | go_in)
                          have HI9 : Hid (GatIn (EdR E) N A (outsE N E x) q4 (j5 + 1) wk (.slice (some ⟨b18, o18, none⟩) mo c18) we.heap.size (.slice pG G5.length cG) G5 w14) := by
                            refine ⟨HI.out.row.below K14.out, HI.out.once, HI.out.sub, fun z => ?_, HI.out.gro.trans (K14.out.mono HI.out.gro.size), HI.out.out.below K14.out, HI.out.apart⟩
                            rw [Htk.out, List.mem_append, ← or_assoc, ← HI.out.mem z, List.mem_singleton]
                            exact ⟨.inl, fun h => h.elim id fun e => by rw [e]; exact HyG.out⟩
                          go_roundw
                          case rel => exact ⟨j5 + 1, G5, Hlt5.out, by go_num, HI9.out⟩
                          case measure => simp [intOf]; omega
                        · have hpz : placeZ G5 y = -1 := by rw [placeZ, if_neg hyG]
                          rw [hpz] at HPl
                          have HyG := Lib.hid hyG
                          have hGl2 : G5.length ≤ 1000000 := by omega
                          clear hjo hyO htk hy hGs hyG hpz
                          go_wp2_with (first
                            | (go_at_call 33; (with_reducible refine HPl.out.mono ?_); rintro e w14 ⟨rfl, K14⟩
                               have d1 := HOj.out w14 K14.out
                               have HR14 := Lib.hid (HI.out.row.below K14.out)
                               have Hk14 : Hid (Below wk.heap.size wk w14) := HI.out.gro.trans (K14.out.mono HI.out.gro.size))
                            | (at_builtin; refine wpList_append_o rfl _ _ rfl wk.heap.size (.slice pG G5.length cG) G5 y rfl (HR14.out.alloc _) ⟨w14.heap.size, 0, none⟩ 1 rfl (news_new w14 #[iv y] 3) hGl2 (by have := Hk14.out.size; simp; omega) ?_
                               intro v6 w6 hf6 hg6 hl6
                               have HI9 : Hid (GatIn (EdR E) N A (outsE N E x) q4 (j5 + 1) wk (.slice (some ⟨b18, o18, none⟩) mo c18) we.heap.size v6 (G5 ++ [y]) w6) := by
                                 have ho := (HI.out.out.below K14.out).alloc (.cells #[iv y] 3)
                                 refine ⟨hf6, ?_, fun z hz => ?_, fun z => ?_, ((Hk14.out.alloc Hk14.out.size _).grown hg6 (by have := Hk14.out.size; simp; omega) (fun r e => (HR14.out.lt e).1)), ho.beside hg6 (fun z h1 h2 => HI.out.apart z h1 h2), fun z h1 h2 => ?_⟩
                                 · exact List.nodup_append.2 ⟨HI.out.once, by simp, fun a ha b hb e => by rw [List.mem_singleton] at hb; subst hb e; exact HyG.out ha⟩
                                 · rcases List.mem_append.1 hz with h1 | h1
                                   · exact HI.out.sub z h1
                                   · rw [List.mem_singleton.1 h1]; exact HyN.out
                                 · rw [Htk.out, List.mem_append, List.mem_append, ← or_assoc, ← HI.out.mem z]
                                 · rcases hl6 z h1 with h3 | h3
                                   · exact HI.out.apart z h3 h2
                                   · have h4 := (ho.lt h2).2
                                     omega
                               clear hf6 hg6 hl6)
                            | go_in)
                          go_roundw
                          case rel => exact ⟨j5 + 1, _, Hlt5.out, by go_num, HI9.out⟩
                          case measure => simp [intOf]; omega
                      · have hjm : mo = j5 := by omega
                        subst hjm
                        have HG9 : Hid (GatSt (EdR E) N A (q4 + 1) wk u16 G5 wf) := by
                          refine ⟨HI.out.row, HI.out.once, HI.out.sub, fun z => ?_, HI.out.gro⟩
                          rw [HI.out.mem z, List.take_of_length_le (by rw [Hmo.out]; exact Nat.le_refl _), mem_outsE Hin.out]
                          constructor
                          · rintro (⟨i, h1, h2⟩ | h)
                            · exact ⟨i, by omega, h2⟩
                            · exact ⟨q4, by omega, by rw [Hx.out]; exact h⟩
                          · rintro ⟨i, h1, h2⟩
                            rcases Nat.lt_succ_iff_lt_or_eq.1 h1 with h3 | h3
                            · exact .inl ⟨i, h3, h2⟩
                            · rw [h3, Hx.out] at h2
                              exact .inr h2
                        go_wp2
                        go_roundw
                        case rel => exact ⟨q4 + 1, G5, Hlt4.out, by go_num, HG9.out⟩
                        case measure => simp [intOf]; omega
                  · have hqa : na = q4 := by omega
                    subst hqa
                    have HVe : Hid (Below V.heap.size V we) := HA.out.gro.trans (HG.out.gro.mono HA.out.gro.size)
                    have HA9 : Hid (AtSt (EdR E) s N V V.heap.size u16 G (k + 1) we) := by
                      refine ⟨HG.out.row.low HA.out.gro.size, HG.out.once, HG.out.sub, fun z => ?_, HVe.out⟩
                      have h1 := HG.out.mem z
                      rw [← Hna.out, mem_upto] at h1
                      rw [h1]
                      constructor
                      · rintro ⟨a, h2, h3⟩
                        exact ⟨a, (HA.out.mem a).1 h2, h3⟩
                      · rintro ⟨a, h2, h3⟩
                        exact ⟨a, (HA.out.mem a).2 h2, h3⟩
                    have hmet := HRd.out.met (k := k + 1) (by omega) (by rw [HT.out]; exact Hlt3.out)
                    rw [HT.out, ← HA9.out.mem s] at hmet
                    obtain ⟨pG, cG, rfl, hGs⟩ := HA9.out.row.sl
                    have hGl := len500 HA9.out.once HA9.out.sub HN5.out
                    have HPl := Lib.hid (plc_n pG cG _ s rfl (by omega) we hGs)
                    have u1 := HCall.out we HVe.out
                    have hLI : (0 : Int) < (L : Int) := by omega
                    clear hGs
                    by_cases hkl : k + 1 = L
                    · have hsG := hmet.2 hkl
                      obtain ⟨z, hz⟩ : ∃ z, placeZ G s = z := ⟨_, rfl⟩
                      have hz0 : 0 ≤ z := by rw [← hz, placeZ, if_pos hsG]; omega
                      rw [hz] at HPl
                      have e1 : ((k : Int) + 1 == (L : Int)) = true := by simp; omega
                      have e2 : decide (0 ≤ z) = true := decide_eq_true hz0
                      clear hmet hsG hz hkl
                      go_wp2_with (first
                        | (go_at_call 33; (with_reducible refine HPl.out.mono ?_); rintro e w14 ⟨rfl, K14⟩)
                        | go_in)
                      have HA8 : Hid (AtSt (EdR E) s N V V.heap.size (.slice pG G.length cG) G (k + 1) w14) := ⟨HA9.out.row.below K14.out, HA9.out.once, HA9.out.sub, HA9.out.mem, HVe.out.trans (K14.out.mono HVe.out.size)⟩
                      go_roundw
                      case rel => exact ⟨k + 1, G, Hlt3.out, by go_num, HA8.out⟩
                      case measure => simp [intOf]; omega
                    · have hsG : s ∉ G := fun h => hkl (hmet.1 h)
                      have hpz : placeZ G s = -1 := by rw [placeZ, if_neg hsG]
                      rw [hpz] at HPl
                      have e1 : ((k : Int) + 1 == (L : Int)) = false := by simp; omega
                      clear hmet hsG hpz hkl
                      go_wp2_with (first
                        | (go_at_call 33; (with_reducible refine HPl.out.mono ?_); rintro e w14 ⟨rfl, K14⟩)
                        | go_in)
                      have HA8 : Hid (AtSt (EdR E) s N V V.heap.size (.slice pG G.length cG) G (k + 1) w14) := ⟨HA9.out.row.below K14.out, HA9.out.once, HA9.out.sub, HA9.out.mem, HVe.out.trans (K14.out.mono HVe.out.size)⟩
                      go_roundw
                      case rel => exact ⟨k + 1, G, Hlt3.out, by go_num, HA8.out⟩
                      case measure => simp [intOf]; omega
              · have hkL : L = k := by omega
                subst hkL
                have HVk : Hid (Below V.heap.size V wk) := HA.out.gro
                have HPa := Lib.hid ((HGV.out.below HVk.out).parts hc HN5.out)
                have hkI : ¬ (L : Int) + 1 ≤ (L : Int) := by omega
                go_wp2_with (first
                  | (go_at_call 30; (with_reducible refine HPa.out.mono ?_); rintro e VP ⟨p20, np, c20, pts, rfl, K20⟩
                     have HVP : Hid (Below V.heap.size V VP) := HVk.out.trans (K20.out.2.2.2.2.mono HVk.out.size)
                     have hnp : np ≤ 500 := K20.out.2.2.1)
                  | go_in)
                have HClP : Hid (SlI VP (some ⟨b5, o5, none⟩) cl) := HCl.out.gro HVP.out (Nat.le_refl _)
                try go_frame
                go_loopw [21, 22] (fun i _ wr => ∃ q : Nat, q ≤ np ∧ i = .int .i64 ((q : Nat) : Int) ∧ Hid (Below VP.heap.size VP wr)) (fun i _ _ => np - (intOf i).toNat)
                case atStart => exact ⟨0, Nat.zero_le _, rfl, Below.refl _ _⟩
                case round =>
                  obtain ⟨q6, hq6, rfl, HR6⟩ := hrel
                  obtain ⟨wg, hwg⟩ : ∃ wg, wg = wr := ⟨_, rfl⟩
                  subst hwg
                  by_cases hlt6 : q6 < np
                  · obtain ⟨g20, gx, ox, cx, x, r, rfl, hpe, -, hxl, -, hcells⟩ := pts_cells K20.out.1 K20.out.2.2.2.1 K20.out.2.1 hlt6
                    have HPe := Lib.hid hpe
                    obtain ⟨rl, hrl⟩ : ∃ rl, r.length + 1 = rl := ⟨_, rfl⟩
                    have Hrl : Hid ((x :: r).length = rl) := hrl
                    have hrl5 : rl ≤ 500 := by rw [← Hrl.out]; have := HN5.out; omega
                    rw [hrl] at hcells
                    have HS0 : Hid (∀ W, Below VP.heap.size VP W → W.cell? ⟨g20, q6, none⟩ = some (.slice (some ⟨gx, ox, none⟩) rl cx) ∧ W.cell? ⟨b5, o5, none⟩ = some (iv s)) := fun W hb => ⟨(hcells W hb).1, HCall.out W (HVP.out.trans (hb.mono HVP.out.size))⟩
                    have HPp : Hid (∀ (W : World) (y : Int), Below VP.heap.size VP W → Calls Try.prog 33 #[.slice (some ⟨gx, ox, none⟩) rl cx, iv y] W fun e w' => e = .returned (iv (placeZ (x :: r) y)) ∧ Hid (Below W.heap.size W w')) := fun W y hb => plc_n (some ⟨gx, ox, none⟩) cx rl y Hrl.out (by omega) W (hcells W hb).2.2
                    obtain ⟨v0, v1⟩ := HS0.out wg HR6.out
                    have hqI : (q6 : Int) < (np : Int) := by omega
                    have hq0 : (0 : Int) ≤ (q6 : Int) := by omega
                    have hLI : (0 : Int) < (L : Int) := by omega
                    have Hlt6 := Lib.hid hlt6
                    have HP1 := Lib.hid (HPp.out wg.drew s HR6.out.drew)
                    clear hpe hcells hrl hxl
                    by_cases hsp : s ∈ x :: r
                    · obtain ⟨z, hz⟩ : ∃ z, placeZ (x :: r) s = z := ⟨_, rfl⟩
                      have hz0 : ¬ z < 0 := by rw [← hz, placeZ, if_pos hsp]; omega
                      rw [hz] at HP1
                      have HAll : Hid (∀ j, j < L → cl.getD j 0 ∈ x :: r) := fun j hj => by
                        have hqP : q6 < (partsOf (EdR E) N).length := by
                          rw [← K20.out.2.2.2.1, List.length_map, K20.out.2.1]
                          exact Hlt6.out
                        obtain ⟨h, -, he, -⟩ := parts_ne (p := x :: r) (by rw [← HPe.out]; exact getD_in hqP)
                        have h1 := hsp
                        rw [he] at h1 ⊢
                        have hjT : j < T + 1 := by rw [HT.out]; exact hj
                        exact mem_cls.2 ⟨HRd.out.inN Hin.out hjT, (mem_cls.1 h1).2.trans (HRd.out.mutual hjT)⟩
                      clear hz hsp
                      go_wp2
                      go_region_held3 (fun w' => w'.cell? ⟨g20, q6, none⟩ = some (.slice (some ⟨gx, ox, none⟩) rl cx) ∧ w'.cell? ⟨b5, o5, none⟩ = some (iv s)) (first | (with_reducible exact HS0.out _ HB9.out) | go_keep)
                        (first | (go_at_call 33; refine HP1.out.mono ?_; rintro e w9 ⟨rfl, K9⟩
                                  have HB9 : Hid (Below VP.heap.size VP w9) := HR6.out.drew.trans (K9.out.mono HR6.out.drew.size)))
                      go_wp2
                      try go_frame
                      go_loopw [22] (fun i wr => ∃ j : Nat, j ≤ L ∧ i = .int .i64 ((j : Nat) : Int) ∧ Hid (Below VP.heap.size VP wr)) (fun i _ => L - (intOf i).toNat)
                      case atStart => exact ⟨0, Nat.zero_le _, rfl, HB9.out⟩
                      case round =>
                        obtain ⟨j7, hj7, rfl, HR7⟩ := hrel
                        obtain ⟨wh, hwh⟩ : ∃ wh, wh = wr := ⟨_, rfl⟩
                        subst hwh
                        by_cases hlt7 : j7 < L
                        · have hjo : j7 < cl.length := by rw [HRd.out.len, HT.out]; exact hlt7
                          have hyp := HAll.out j7 hlt7
                          have HS7 : Hid (∀ W, Below VP.heap.size VP W → W.cell? ⟨g20, q6, none⟩ = some (.slice (some ⟨gx, ox, none⟩) rl cx) ∧ W.cell? ⟨b5, o5 + j7, none⟩ = some (iv (cl.getD j7 0))) := fun W hb => ⟨(HS0.out W hb).1, (HClP.out.gro hb (Nat.le_refl _)).cell1 hjo rfl⟩
                          obtain ⟨y, hy⟩ : ∃ y, cl.getD j7 0 = y := ⟨_, rfl⟩
                          rw [hy] at hyp HS7
                          have HP7 := Lib.hid (HPp.out wh.drew y HR7.out.drew)
                          obtain ⟨z7, hz7⟩ : ∃ z, placeZ (x :: r) y = z := ⟨_, rfl⟩
                          have hz70 : ¬ z7 < 0 := by rw [← hz7, placeZ, if_pos hyp]; omega
                          rw [hz7] at HP7
                          obtain ⟨t0, t1⟩ := HS7.out wh HR7.out
                          have hjI : (j7 : Int) < (L : Int) := by omega
                          have hj0 : (0 : Int) ≤ (j7 : Int) := by omega
                          have Hlt7 := Lib.hid hlt7
                          clear hjo hyp hy hz7
                          go_wp2
                          go_region_held3 (fun w' => w'.cell? ⟨g20, q6, none⟩ = some (.slice (some ⟨gx, ox, none⟩) rl cx) ∧ w'.cell? ⟨b5, o5 + j7, none⟩ = some (iv y)) (first | (with_reducible exact HS7.out _ HB10.out) | go_keep)
                            (first | (go_at_call 33; refine HP7.out.mono ?_; rintro e w10 ⟨rfl, K10⟩
                                      have HB10 : Hid (Below VP.heap.size VP w10) := HR7.out.drew.trans (K10.out.mono HR7.out.drew.size)))
                          go_wp2
                          go_roundw
                          case rel => exact ⟨j7 + 1, Hlt7.out, by go_num, HB10.out⟩
                          case measure => simp [intOf]; omega
                        · have hjL : L = j7 := by omega
                          subst hjL
                          go_wp2
                          go_roundw
                          case rel => exact ⟨q6 + 1, Hlt6.out, by go_num, HR7.out⟩
                          case measure => simp [intOf]; omega
                    · have hpz : placeZ (x :: r) s = -1 := by rw [placeZ, if_neg hsp]
                      rw [hpz] at HP1
                      clear hpz hsp
                      go_wp2
                      go_region_held3 (fun w' => w'.cell? ⟨g20, q6, none⟩ = some (.slice (some ⟨gx, ox, none⟩) rl cx) ∧ w'.cell? ⟨b5, o5, none⟩ = some (iv s)) (first | (with_reducible exact HS0.out _ HB9.out) | go_keep)
                        (first | (go_at_call 33; refine HP1.out.mono ?_; rintro e w9 ⟨rfl, K9⟩
                                  have HB9 : Hid (Below VP.heap.size VP w9) := HR6.out.drew.trans (K9.out.mono HR6.out.drew.size)))
                      go_wp2
                      go_roundw
                      case rel => exact ⟨q6 + 1, Hlt6.out, by go_num, HB9.out⟩
                      case measure => simp [intOf]; omega
                  · have hqn : np = q6 := by omega
                    subst hqn
                    go_wp2
                    go_ret
                    exact ⟨rfl, HWV.out.trans ((HVP.out.trans (HR6.out.mono HVP.out.size)).mono HWV.out.size)⟩
end Go.Proofs.Ythgkloapnihpaaa
