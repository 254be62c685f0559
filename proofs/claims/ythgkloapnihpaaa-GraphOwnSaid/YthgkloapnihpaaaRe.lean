/- GraphOwn: the walk. -/
import Derived.Test.YthgkloapnihpaaaRd
import Derived.Test.YthgkloapnihpaaaQi
namespace Go.Proofs.Ythgkloapnihpaaa
open Go.RowKit Go.Maps Go.WideMaps Go.WideElems Go.ChangeShapes Go.WideShapes

theorem same_36 (x : Int) (V : World) : Calls Try.prog 36 #[iv x] V fun e w' => e = .returned (iv x) ∧ Hid (Below V.heap.size V w') := by
  go_enter Try.func36, Try.ntmps36
  go_wp2
  go_ret
  exact ⟨rfl, Below.refl _ _⟩
/-- What is answered in a round. -/
structure OwnSt (B K n m o r c t p : Nat) (vn ve vo vr vc vt vp : Value) (W : World) : Prop where
  nodes : IntsW B n vn W
  edges : RowE B m ve W
  out : IntsW B o vo W
  reach : IntsW B r vr W
  cyc : IntsW B c vc W
  top : IntsW B t vt W
  parts : PartW B K p vp W
theorem OwnSt.wr {B C K n m o r c t p : Nat} {vn ve vo vr vc vt vp : Value} {V U : World} (h : OwnSt B K n m o r c t p vn ve vo vr vc vt vp V) (k : Wr C V U) : OwnSt B K n m o r c t p vn ve vo vr vc vt vp U :=
  ⟨h.nodes.wr k, h.edges.wr k, h.out.wr k, h.reach.wr k, h.cyc.wr k, h.top.wr k, h.parts.wr k⟩
theorem RowE.low {B C n : Nat} {v : Value} {W : World} (h : RowE C n v W) (hb : B ≤ C) : RowE B n v W := by
  obtain ⟨xs, hl, hr⟩ := h
  refine ⟨xs, hl, hr.imp id ?_⟩
  rintro ⟨g, cap, cur, rfl, h1, r⟩
  exact ⟨g, cap, cur, rfl, Nat.le_trans hb h1, r⟩
section
variable {g c : Nat} {N : List Int} {E : List Ed} {W : World} {B : Nat}
theorem Gr.nodesW (h : Gr g c N E W) (hc : c ≤ 100000) (hB : B ≤ W.heap.size) : Calls Try.prog 32 #[.pointer (some ⟨g, 0, none⟩)] W fun e w' => ∃ p c, e = .returned (.slice p N.length c) ∧ Hid (IntsW B N.length (.slice p N.length c) w' ∧ Below W.heap.size W w') := by
  obtain ⟨Z, B, h⟩ := h
  refine (nodes_any hc W h).mono ?_
  rintro e w' ⟨v, rfl, K⟩
  have h1 := intsO_row K.out.1
  obtain ⟨p, c, rfl, -⟩ := h1.sl
  exact ⟨p, c, rfl, h1.w.low hB, K.out.2⟩
theorem Gr.outW (h : Gr g c N E W) (hc : c ≤ 100000) (hB : B ≤ W.heap.size) (a : Int) (ha : fit64 a) (hN : N.length ≤ 500) : Calls Try.prog 20 #[.pointer (some ⟨g, 0, none⟩), iv a] W fun e w' => ∃ p k c, e = .returned (.slice p k c) ∧ Hid (IntsW B k (.slice p k c) w' ∧ k ≤ 500 ∧ Below W.heap.size W w') := by
  obtain ⟨Z, B, h⟩ := h
  refine (out_any a ha hc W h).mono ?_
  rintro e w' ⟨v, rfl, K⟩
  have h1 := intsO_row K.out.1
  obtain ⟨p, c, rfl, -⟩ := h1.sl
  exact ⟨p, _, c, rfl, h1.w.low hB, Nat.le_trans (List.length_filter_le _ _) hN, K.out.2⟩
theorem Gr.reachW (h : Gr g c N E W) (hc : c ≤ 100000) (hB : B ≤ W.heap.size) (a : Int) (ha : fit64 a) (hN : N.length ≤ 500) : Calls Try.prog 24 #[.pointer (some ⟨g, 0, none⟩), iv a] W fun e w' => ∃ p k c, e = .returned (.slice p k c) ∧ Hid (IntsW B k (.slice p k c) w' ∧ k ≤ 500 ∧ Below W.heap.size W w') := by
  have hf := h.facts
  obtain ⟨Z, B, h⟩ := h
  refine (reach_p a ha hc hN W h).mono ?_
  rintro e w' ⟨v, r, rfl, K⟩
  obtain ⟨p, c, rfl, -⟩ := K.out.1.sl
  refine ⟨p, _, c, rfl, K.out.1.w.low hB, ?_, K.out.2.2.2⟩
  refine Nat.le_trans (len_le (K.out.2.1.imp fun h => by omega) fun z hz => ?_) hN
  obtain ⟨y, hy⟩ := tcr_last ((K.out.2.2.1 z).1 hz)
  exact (hf.2.1 _ _ hy).2
theorem Gr.cycW (h : Gr g c N E W) (hc : c ≤ 100000) (hB : B ≤ W.heap.size) (hN : N.length ≤ 500) : Calls Try.prog 26 #[.pointer (some ⟨g, 0, none⟩)] W fun e w' => ∃ p k c, e = .returned (.slice p k c) ∧ Hid (IntsW B k (.slice p k c) w' ∧ k ≤ 500 ∧ Below W.heap.size W w') := by
  have hf := h.facts
  obtain ⟨Z, B, h⟩ := h
  refine (cycle_p hc hN W h).mono ?_
  rintro e w' ⟨v, l, rfl, K⟩
  obtain ⟨p, c, rfl, -⟩ := K.out.1.sl
  exact ⟨p, _, c, rfl, K.out.1.w.low hB, Nat.le_trans (cycIs_len hf.2.1 K.out.2.1) hN, K.out.2.2⟩
theorem Gr.topW (h : Gr g c N E W) (hc : c ≤ 100000) (hB : B ≤ W.heap.size) (hN : N.length ≤ 500) : Calls Try.prog 28 #[.pointer (some ⟨g, 0, none⟩)] W fun e w' => ∃ p k c ok, e = .returned (.tuple #[.slice p k c, .bool ok]) ∧ Hid (IntsW B k (.slice p k c) w' ∧ k ≤ 500 ∧ Below W.heap.size W w') := by
  obtain ⟨Z, B, h⟩ := h
  refine (topo_p hc hN W h).mono ?_
  rintro e w' ⟨v, O, ok, rfl, K⟩
  obtain ⟨p, c, rfl, -⟩ := K.out.1.sl
  exact ⟨p, _, c, ok, rfl, K.out.1.w.low hB, Nat.le_trans (topoIs_len K.out.2.1) hN, K.out.2.2⟩
theorem Gr.edgesW (h : Gr g c N E W) (hc : c ≤ 100000) (hB : B ≤ W.heap.size) (hE : E.length ≤ 1000) (hN : N.length ≤ 1000) : Calls Try.prog 37 #[.pointer (some ⟨g, 0, none⟩)] W fun e w' => ∃ p c, e = .returned (.slice p E.length c) ∧ Hid (RowE B E.length (.slice p E.length c) w' ∧ Below W.heap.size W w') := by
  obtain ⟨Z, B, h⟩ := h
  refine (edges_at hc hE hN W h).mono ?_
  rintro e w' ⟨v, rfl, K⟩
  obtain ⟨p, c, rfl, -, -⟩ := row_slE K.out.1
  exact ⟨p, c, rfl, RowE.low ⟨_, K.out.1⟩ hB, K.out.2⟩
theorem row_low {W : World} {B C e s n : Nat} {v : Value} {xs : List Value} (h : W.ownsRow C e s v n xs) (hb : B ≤ C) : W.ownsRow B e s v n xs := by
  refine ⟨h.1, h.2.imp id ?_⟩
  rintro ⟨g, cap, cur, rfl, h1, r⟩
  exact ⟨g, cap, cur, rfl, Nat.le_trans hb h1, r⟩
theorem Gr.partsW (h : Gr g c N E W) (hc : c ≤ 100000) (hB : B ≤ W.heap.size) (hN : N.length ≤ 500) : Calls Try.prog 30 #[.pointer (some ⟨g, 0, none⟩)] W fun e w' => ∃ p k c, e = .returned (.slice p k c) ∧ Hid (PartW B 500 k (.slice p k c) w' ∧ k ≤ 500 ∧ Below W.heap.size W w') := by
  refine (h.parts hc hN).mono ?_
  rintro e w' ⟨p, n, c, ps, rfl, K⟩
  obtain ⟨k1, rfl, k3, k4, k5⟩ := K.out
  refine ⟨p, _, c, rfl, ⟨_, row_low k1.row hB, fun x hx => ?_⟩, k3, k5⟩
  obtain ⟨y, hy, rfl⟩ := List.mem_map.1 hx
  refine ⟨_, ?_, (k1.each y hy).w.low hB⟩
  have h1 : y.2 ∈ partsOf (EdR E) N := by rw [← k4]; exact List.mem_map.2 ⟨y, hy, rfl⟩
  obtain ⟨z, -, e1, -⟩ := parts_ne h1
  rw [e1]
  exact Nat.le_trans (List.length_filter_le _ _) hN
end
/-- A kind written over. -/
theorem put_kind {B n c : Nat} {a : Option Addr} {V0 V : World} (hw : Wr B V0 V) (h : RowE B n (.slice a n c) V) {k : Nat} (hk : k < n) (y : Int) :
    ∃ g u V1, a = some ⟨g, 0, none⟩ ∧ V.cell? ⟨g, k * 3 + 2, none⟩ = some u ∧ V.frozen? ⟨g, k * 3 + 2, none⟩ = false ∧ V.setCell ⟨g, k * 3 + 2, none⟩ (iv y) = V1 ∧ Hid (Wr B V0 V1) := by
  obtain ⟨g, cur, e, hb, hg, hs⟩ := h.at (by omega)
  exact ⟨g, _, _, e, (cell_of_row _ _ _ _ _ _ hg).trans (Array.getElem?_eq_getElem (by omega)), frozen_of_row _ g _ _ 57 hg, rfl, hw.set hg (.inl rfl) hb _⟩
set_option maxHeartbeats 32000000 in
set_option maxRecDepth 100000 in
theorem own_few (ea : Option Addr) (ce : Nat) (es : List Ed) (na : Option Addr) (cn : Nat) (ns : List Int) (A B : Int) (hA : fit64 A) (hB : fit64 B) (hes : es.length ≤ 40) (hns : ns.length ≤ 40) (hef : ∀ e ∈ es, fit64 e.1 ∧ fit64 e.2.1 ∧ fit64 e.2.2) (hnf : ∀ x ∈ ns, fit64 x) (w : World) (hE : SlE w ea es) (hN : SlI w na ns) :
    Calls Try.prog 7 #[.slice ea es.length ce, .slice na ns.length cn, iv A, iv B] w fun e w' => e = .returned (.bool true) ∧ Hid (Below w.heap.size w w') := by
  obtain ⟨i0, hi, hz0, hz1, hz2⟩ := info_parts elem57
  have HF := Lib.hid (first_any w)
  have HM := Lib.hid fun (W : World) (hb : Below w.heap.size w W) => made_any ea ce es na cn ns (by omega) (by omega) hef hnf W (hE.gro hb (Nat.le_refl _)) (hN.gro hb (Nat.le_refl _))
  obtain ⟨ne, hne⟩ : ∃ ne, es.length = ne := ⟨_, rfl⟩
  obtain ⟨nn, hnn⟩ : ∃ nn, ns.length = nn := ⟨_, rfl⟩
  have hkk : ∀ e ∈ edgesUp es, fit64 e.2.2 := fun e he => (hef e (mem_edgesUp.1 he)).2.2
  obtain ⟨N, hNe⟩ : ∃ N, nodesOf es ns = N := ⟨_, rfl⟩
  obtain ⟨E, hEe⟩ : ∃ E, edgesUp es = E := ⟨_, rfl⟩
  have hNl : N.length ≤ 120 := by rw [← hNe]; exact Nat.le_trans (nodesOf_len _ _) (by omega)
  have hEl : E.length ≤ 40 := by rw [← hEe]; exact Nat.le_trans (edgesUp_len _) (by omega)
  rw [hNe, hEe] at HM
  rw [hEe] at hkk
  rw [hne, hnn] at HM ⊢
  rw [hne] at hes
  rw [hnn] at hns
  have HNl := Lib.hid hNl
  have HEl := Lib.hid hEl
  have Hkk := Lib.hid hkk
  have hg1 : ¬ (40 : Int) < (ne : Int) := by omega
  have hg2 : ¬ (40 : Int) < (nn : Int) := by omega
  obtain ⟨n, hn⟩ : ∃ n, N.length = n := ⟨_, rfl⟩
  obtain ⟨m, hm⟩ : ∃ m, E.length = m := ⟨_, rfl⟩
  have Hn := Lib.hid hn
  rw [hn, hm] at HM
  have Hm := Lib.hid hm
  have hn5 : n ≤ 120 := by omega
  have hm5 : m ≤ 40 := by omega
  have HfA := Lib.hid hA
  have HfB := Lib.hid hB
  clear hA hB hE hN hef hnf hnn hne hNe hEe hNl hEl hn hm hkk
  go_enter Try.func7, Try.ntmps7
  go_wp2_with (first
    | (go_at_call 8; (with_reducible refine HF.out.mono ?_); rintro e w1 ⟨rfl, K1⟩
       have HM1 := Lib.hid (HM.out w1 K1.out))
    | (go_at_call 23; (with_reducible refine HM1.out.mono ?_); rintro e w2 ⟨g, c, a, k, a', k', rfl, K2⟩
       obtain ⟨W3, hW3, Hb3, hs3, Hx3⟩ := obj_any w2 (.cells #[.slice a n k, .slice a' m k'] 29)
       have hc : c ≤ 100000 := by have := K2.out.1; omega
       have HG := Lib.hid (show Gr g c N E W3 from gat_below K2.out.2.1.at0 Hb3.out)
       have HDg : Hid (DgAt W3 a a' N E) := K2.out.2.1.dg.below Hb3.out
       have HW3 : Hid (Below w.heap.size w W3) := K1.out.trans ((K2.out.2.2.trans (Hb3.out.mono K2.out.2.2.size)).mono K1.out.size)
       have HBox : Hid (∀ W, Below W3.heap.size W3 W → W.cell? ⟨w2.heap.size, 0, none⟩ = some (.slice a n k) ∧ W.cell? ⟨w2.heap.size, 1, none⟩ = some (.slice a' m k')) := fun W hb => two_at ((hb.block _ hs3.out).trans Hx3.out)
       have HMp : Hid (∃ R : Ending → World → Prop, Calls Try.prog 35 #[.pointer (some ⟨g, 0, none⟩), .func (.func 36) #[] #[]] W3 R ∧ ∀ e w', R e w' → ∃ g2 Z2 B2 c2, e = .returned (.pointer (some ⟨g2, 0, none⟩)) ∧ Hid (c2 ≤ 240 ∧ B2 ≤ w'.heap.size ∧ GrAt Z2 B2 g2 c2 (mapN (fun x => x) N) (mapE (fun x => x) E) w' ∧ (∀ q, Z2 q → W3.heap.size ≤ q ∧ q < w'.heap.size) ∧ Below W3.heap.size W3 w')) := by
         obtain ⟨Z0, B0, hg0⟩ := HG.out
         refine ⟨_, map_any (fun x => x) hc (by have := HNl.out; omega) (by have := HEl.out; omega) HG.out.facts.2.2.1 Hkk.out W3 hg0 (fun V _ x _ => same_36 x V), ?_⟩
         rintro e w' ⟨g2, Z2, B2, c2, rfl, K⟩
         exact ⟨g2, Z2, B2, c2, rfl, by have := K.out.1; have := HNl.out; have := HEl.out; omega, K.out.2⟩
       clear Hb3 hs3 Hx3)
    | (go_at_call 35; obtain ⟨R, hR1, hR2⟩ := HMp.out; (with_reducible refine hR1.mono ?_); intro e w4 hR; obtain ⟨g2, Z2, B2, c2, rfl, K4⟩ := hR2 e w4 hR
       have HEg := Lib.hid (edge_any A B 99 HfA.out HfB.out (by decide) (by have := K4.out.1; omega) (Nat.le_trans (mapE_len _ _) (by have := HEl.out; omega)) w4 K4.out.2.1 K4.out.2.2.1)
       clear hR1 hR2 hR)
    | (go_at_call 12; (with_reducible refine HEg.out.mono ?_); rintro e w5 ⟨rfl, K5⟩)
    | go_in)
  have HB5 : Hid (Below W3.heap.size W3 w5) := by
    obtain ⟨-, -, -, k4, k5⟩ := K4.out
    have k6 := K5.out.2
    exact ⟨k6.os.trans k5.os, k6.tape.trans k5.tape, k6.output.trans k5.output, Nat.le_trans k5.size k6.size, fun q hq => (k6.block q (Nat.lt_of_lt_of_le hq k5.size) (fun hz => by have := (k4 q hz).1; omega)).trans (k5.block q hq)⟩
  clear K4 K5 HEg HMp
  have HN5 : Hid (N.length ≤ 500) := by show _ ≤ _; have := HNl.out; omega
  have Hc : Hid (c ≤ 100000) := hc
  try go_frame
  go_loopw [13] (fun i wr => ∃ k : Nat, k ≤ 2 ∧ i = .int .i64 ((k : Nat) : Int) ∧ Hid (Below W3.heap.size W3 wr)) (fun i _ => 2 - (intOf i).toNat)
  case atStart => exact ⟨0, by omega, rfl, HB5.out⟩
  case round =>
    obtain ⟨rd, hrd, rfl, HR⟩ := hrel
    obtain ⟨wa, hwa⟩ : ∃ wa, wa = wr := ⟨_, rfl⟩
    subst hwa
    by_cases hlt : rd < 2
    · have hltI : (rd : Int) < 2 := by omega
      have Hlt : Hid (rd < 2) := hlt
      have HNd := Lib.hid ((HG.out.below HR.out).nodesW Hc.out HR.out.size)
      rw [Hn.out] at HNd
      go_wp2_with (first
        | (go_at_call 32; (with_reducible refine HNd.out.mono ?_); rintro e w6 ⟨p6, c6, rfl, K6⟩
           have HB6 : Hid (Below W3.heap.size W3 w6) := HR.out.trans (K6.out.2.mono HR.out.size)
           have HEd := Lib.hid ((HG.out.below HB6.out).edgesW Hc.out HB6.out.size (by have := HEl.out; omega) (by have := HNl.out; omega))
           rw [Hm.out] at HEd
           clear HNd)
        | (go_at_call 37; (with_reducible refine HEd.out.mono ?_); rintro e w7 ⟨p7, c7, rfl, K7⟩
           have HB7 : Hid (Below W3.heap.size W3 w7) := HB6.out.trans (K7.out.2.mono HB6.out.size)
           have HOu := Lib.hid ((HG.out.below HB7.out).outW Hc.out HB7.out.size A HfA.out HN5.out)
           clear HEd)
        | (go_at_call 20; (with_reducible refine HOu.out.mono ?_); rintro e w8 ⟨p8, o8, c8, rfl, K8⟩
           have HB8 : Hid (Below W3.heap.size W3 w8) := HB7.out.trans (K8.out.2.2.mono HB7.out.size)
           have HRe := Lib.hid ((HG.out.below HB8.out).reachW Hc.out HB8.out.size A HfA.out HN5.out)
           clear HOu)
        | (go_at_call 24; (with_reducible refine HRe.out.mono ?_); rintro e w9 ⟨p9, o9, c9, rfl, K9⟩
           have HB9 : Hid (Below W3.heap.size W3 w9) := HB8.out.trans (K9.out.2.2.mono HB8.out.size)
           have HCy := Lib.hid ((HG.out.below HB9.out).cycW Hc.out HB9.out.size HN5.out)
           clear HRe)
        | (go_at_call 26; (with_reducible refine HCy.out.mono ?_); rintro e w10 ⟨p10, o10, c10, rfl, K10⟩
           have HB10 : Hid (Below W3.heap.size W3 w10) := HB9.out.trans (K10.out.2.2.mono HB9.out.size)
           have HTo := Lib.hid ((HG.out.below HB10.out).topW Hc.out HB10.out.size HN5.out)
           clear HCy)
        | (go_at_call 28; (with_reducible refine HTo.out.mono ?_); rintro e w11 ⟨p11, o11, c11, ok11, rfl, K11⟩
           have HB11 : Hid (Below W3.heap.size W3 w11) := HB10.out.trans (K11.out.2.2.mono HB10.out.size)
           have HPa := Lib.hid ((HG.out.below HB11.out).partsW Hc.out HB11.out.size HN5.out)
           clear HTo)
        | (go_at_call 30; (with_reducible refine HPa.out.mono ?_); rintro e w12 ⟨p12, o12, c12, rfl, K12⟩
           have HB12 : Hid (Below W3.heap.size W3 w12) := HB11.out.trans (K12.out.2.2.mono HB11.out.size)
           have L11 := K12.out.2.2
           have L10 := stepB K11.out.2.2 L11
           have L9 := stepB K10.out.2.2 L10
           have L8 := stepB K9.out.2.2 L9
           have L7 := stepB K8.out.2.2 L8
           have L6 := stepB K7.out.2 L7
           have HO12 : Hid (OwnSt W3.heap.size 500 n m o8 o9 o10 o11 o12 (.slice p6 n c6) (.slice p7 m c7) (.slice p8 o8 c8) (.slice p9 o9 c9) (.slice p10 o10 c10) (.slice p11 o11 c11) (.slice p12 o12 c12) w12) :=
             ⟨K6.out.1.wr (Wr.of HB6.out.size L6), K7.out.1.wr (Wr.of HB7.out.size L7), K8.out.1.wr (Wr.of HB8.out.size L8), K9.out.1.wr (Wr.of HB9.out.size L9), K10.out.1.wr (Wr.of HB10.out.size L10), K11.out.1.wr (Wr.of HB11.out.size L11), K12.out.1⟩
           have Hl8 : Hid (o8 ≤ 500 ∧ o9 ≤ 500 ∧ o10 ≤ 500 ∧ o11 ≤ 500) := ⟨K8.out.2.1, K9.out.2.1, K10.out.2.1, K11.out.2.1⟩
           have hl12 : o12 ≤ 500 := K12.out.2.1
           have HS1 := Lib.hid (spoil_any p6 n c6 W3.heap.size w12 HO12.out.nodes (by omega))
           clear HPa K6 K7 K8 K9 K10 K11 K12 L6 L7 L8 L9 L10 L11 HB6 HB7 HB8 HB9 HB10 HB11)
        | (go_at_call 38; (with_reducible refine HS1.out.mono ?_); rintro e w13 ⟨⟨v13, rfl⟩, K13⟩
           have HO13 := Lib.hid (HO12.out.wr K13.out)
           have HS2 := Lib.hid (spoil_any p8 o8 c8 W3.heap.size w13 HO13.out.out (by have := Hl8.out; omega))
           clear HS1)
        | (go_at_call 38; (with_reducible refine HS2.out.mono ?_); rintro e w14 ⟨⟨v14, rfl⟩, K14⟩
           have HO14 := Lib.hid (HO13.out.wr K14.out)
           have HS3 := Lib.hid (spoil_any p9 o9 c9 W3.heap.size w14 HO14.out.reach (by have := Hl8.out; omega))
           clear HS2)
        | (go_at_call 38; (with_reducible refine HS3.out.mono ?_); rintro e w15 ⟨⟨v15, rfl⟩, K15⟩
           have HO15 := Lib.hid (HO14.out.wr K15.out)
           have HS4 := Lib.hid (spoil_any p10 o10 c10 W3.heap.size w15 HO15.out.cyc (by have := Hl8.out; omega))
           clear HS3)
        | (go_at_call 38; (with_reducible refine HS4.out.mono ?_); rintro e w16 ⟨⟨v16, rfl⟩, K16⟩
           have HO16 := Lib.hid (HO15.out.wr K16.out)
           have HS5 := Lib.hid (spoil_any p11 o11 c11 W3.heap.size w16 HO16.out.top (by have := Hl8.out; omega))
           clear HS4)
        | (go_at_call 38; (with_reducible refine HS5.out.mono ?_); rintro e w17 ⟨⟨v17, rfl⟩, K17⟩
           have HO17 := Lib.hid (HO16.out.wr K17.out)
           have HB17 : Hid (Below W3.heap.size W3 w17) := HB12.out.trans (K13.out.below.trans (K14.out.below.trans (K15.out.below.trans (K16.out.below.trans K17.out.below))))
           clear HS5 HO12 HO13 HO14 HO15 HO16 K13 K14 K15 K16 K17 HB12)
        | go_in)
      try go_frame
      go_loopw [22] (fun i wr => ∃ q : Nat, q ≤ o12 ∧ i = .int .i64 ((q : Nat) : Int) ∧ Hid (OwnSt W3.heap.size (500 + q) n m o8 o9 o10 o11 o12 (.slice p6 n c6) (.slice p7 m c7) (.slice p8 o8 c8) (.slice p9 o9 c9) (.slice p10 o10 c10) (.slice p11 o11 c11) (.slice p12 o12 c12) wr ∧ Below W3.heap.size W3 wr)) (fun i _ => o12 - (intOf i).toNat)
      case atStart => exact ⟨0, Nat.zero_le _, rfl, HO17.out, HB17.out⟩
      case round =>
        obtain ⟨q, hq, rfl, HQ⟩ := hrel
        obtain ⟨wb, hwb⟩ : ∃ wb, wb = wr := ⟨_, rfl⟩
        subst hwb
        by_cases hlq : q < o12
        · have hlqI : (q : Int) < (o12 : Int) := by omega
          have Hlq : Hid (q < o12) := hlq
          obtain ⟨g1, k1, a1, c1, rfl, hk1, hc1, hI1⟩ := HQ.out.1.parts.at hlq
          have HS := Lib.hid (spoil_any a1 k1 c1 W3.heap.size wb hI1 (by omega))
          clear hI1
          go_wp2_with (first
            | (go_at_call 38; (with_reducible refine HS.out.mono ?_); rintro e w20 ⟨⟨v20, rfl⟩, K20⟩
               have HO20 := Lib.hid (HQ.out.1.wr K20.out)
               obtain ⟨g2, k2, a2, c2, e2, hk2, hc2, hI2⟩ := HO20.out.parts.at Hlq.out
               cases e2
               have HI2 := Lib.hid hI2
               have HA20 : Hid (W3.heap.size ≤ w20.heap.size) := Nat.le_trans HQ.out.2.size K20.out.below.size
               clear HS hI2 hc1 hk1)
            | (at_builtin; refine wpList_append_w rfl _ _ rfl W3.heap.size k2 (.slice a2 k2 c2) 1 rfl (HI2.out.wr (Wr.of HA20.out ((Below.refl _ w20).alloc (Nat.le_refl _) (.cells #[iv 1] 3)))) ⟨w20.heap.size, 0, none⟩ 1 rfl (news_new w20 #[iv 1] 3) (by omega) (by have := HA20.out; simp; omega) ?_
               intro v' w21 zs hz i1 i2
               obtain ⟨p21, c21, rfl, -⟩ := i1.sl
               have hl21 : (zs ++ [1]).length = k2 + 1 := by rw [List.length_append, hz]; rfl
               rw [hl21]
               have hx21 := i1.w
               rw [hl21] at hx21
               have HW21 : Hid (Wr W3.heap.size w20 w21) := (Wr.of HA20.out ((Below.refl _ w20).alloc (Nat.le_refl _) (.cells #[iv 1] 3))).trans i2
               obtain ⟨g3, u3, W22, e3, hc3, hf3, hs3, HP⟩ := (HO20.out.parts.more (K2 := 500 + (q + 1)) (by omega)).put HW21.out Hlq.out (k := k2 + 1) (by omega) hx21
               cases e3
               clear i1 i2 hx21 hl21)
            | go_in)
          have HO22 : Hid (OwnSt W3.heap.size (500 + (q + 1)) n m o8 o9 o10 o11 o12 (.slice p6 n c6) (.slice p7 m c7) (.slice p8 o8 c8) (.slice p9 o9 c9) (.slice p10 o10 c10) (.slice p11 o11 c11) (.slice (some ⟨g1, 0, none⟩) o12 c12) W22 ∧ Below W3.heap.size W3 W22) := by
            have h1 := HO20.out.wr HW21.out
            obtain ⟨h2, h3, h4⟩ := HP.out
            exact ⟨⟨(h4 _ _).1 h1.nodes, (h4 _ _).2 h1.edges, (h4 _ _).1 h1.out, (h4 _ _).1 h1.reach, (h4 _ _).1 h1.cyc, (h4 _ _).1 h1.top, h2⟩, (HQ.out.2.trans K20.out.below).trans h3⟩
          go_roundw
          case rel => exact ⟨q + 1, Hlq.out, by go_num, HO22.out⟩
          case measure => simp [intOf]; omega
        · clear HO17 HB17
          go_wp2
          try go_frame
          go_loopw [23] (fun i wr => ∃ q : Nat, q ≤ m ∧ i = .int .i64 ((q : Nat) : Int) ∧ Hid (IntsW W3.heap.size n (.slice p6 n c6) wr ∧ RowE W3.heap.size m (.slice p7 m c7) wr ∧ Below W3.heap.size W3 wr)) (fun i _ => m - (intOf i).toNat)
          case atStart => exact ⟨0, Nat.zero_le _, rfl, HQ.out.1.nodes, HQ.out.1.edges, HQ.out.2⟩
          case round =>
            obtain ⟨r, hr, rfl, HT⟩ := hrel
            obtain ⟨wc, hwc⟩ : ∃ wc, wc = wr := ⟨_, rfl⟩
            subst hwc
            by_cases hlr : r < m
            · have hlrI : (r : Int) < (m : Int) := by omega
              have Hlr : Hid (r < m) := hlr
              obtain ⟨g1, u1, W1, rfl, hc1, hf1, hs1, HW⟩ := put_kind (Wr.refl W3.heap.size wc) HT.out.2.1 hlr (-9)
              go_wp2
              go_roundw
              case rel => exact ⟨r + 1, Hlr.out, by go_num, HT.out.1.wr HW.out, HT.out.2.1.wr HW.out, HT.out.2.2.trans HW.out.below⟩
              case measure => simp [intOf]; omega
            · have HIn := Lib.hid HT.out.1
              obtain ⟨xs, hxs⟩ := HT.out.2.1
              have HRo := Lib.hid hxs
              have HBc : Hid (Below W3.heap.size W3 wc) := HT.out.2.2
              clear hxs HT HQ
              go_wp2_with (first
                | (at_builtin; refine wpList_append_w rfl _ _ rfl W3.heap.size n (.slice p6 n c6) 1 rfl (HIn.out.wr (Wr.of HBc.out.size ((Below.refl _ wc).alloc (Nat.le_refl _) (.cells #[iv 1] 3)))) ⟨wc.heap.size, 0, none⟩ 1 rfl (news_new wc #[iv 1] 3) (by omega) (by have := HBc.out.size; simp; omega) ?_
                   intro v' w21 zs hz i1 i2
                   obtain ⟨p21, c21, rfl, -⟩ := i1.sl
                   have hl21 : (zs ++ [1]).length = n + 1 := by rw [List.length_append, hz]; rfl
                   have hy21 : (zs ++ [1]).getD n 0 = 1 := by rw [← hz]; simp
                   rw [hl21] at i1 ⊢
                   have HW21 : Hid (Wr W3.heap.size wc w21) := (Wr.of HBc.out.size ((Below.refl _ wc).alloc (Nat.le_refl _) (.cells #[iv 1] 3))).trans i2
                   have HI21 := Lib.hid i1
                   have Hl21 := Lib.hid hl21
                   have Hy21 := Lib.hid hy21
                   have HRo21 : Hid (RowE W3.heap.size m (.slice p7 m c7) w21) := RowE.wr ⟨_, HRo.out⟩ HW21.out
                   have HB21 : Hid (Below W3.heap.size W3 w21) := HBc.out.trans HW21.out.below
                   clear i1 i2 hl21 hy21 hz
                   obtain ⟨ys, hys⟩ := HRo21.out
                   have HY := Lib.hid hys
                   clear hys)
                | (at_builtin; refine wpList_append_own _ rfl _ _ 54 rfl W3.heap.size 57 i0 (.agg #[.int .i64 0, .int .i64 0, .int .i64 0]) 3 24 Try.underlying54 hi hz0 hz1 hz2 rfl (by decide) (.slice p7 m c7) m ys rfl (HY.out.alloc _) ⟨w21.heap.size, 0, none⟩ 1 1 [iv 0, iv 0, iv 1] rfl rfl (ed_news _ _ _ _ _) (by intro u hu; simp only [List.mem_cons, List.not_mem_nil, or_false] at hu; rcases hu with rfl | rfl | rfl <;> rfl) (by unfold maxLen; omega) (by omega) (by have := HB21.out.size; simp; omega) ?_
                   intro v' w22 hown hgrow hnil
                   obtain ⟨p22, c22, rfl⟩ := row_sl hown
                   change World.grownBy _ w22 (Value.slice p7 m c7).ownBlock at hgrow
                   have HB22 : Hid (Below W3.heap.size W3 w22) := (HB21.out.alloc HB21.out.size _).grown hgrow (by have := HB21.out.size; simp; omega) (fun r e => (World.ownsRow.lt (HY.out.alloc (.cells #[iv 0, iv 0, iv 1] 57)) r e).1)
                   have hI22 : IntsO w22 W3.heap.size (.slice p21 (n + 1) c21) (zs ++ [1]) := (HI21.out.alloc (.cells #[iv 0, iv 0, iv 1] 57)).kept hgrow (by
                     rcases (HY.out.alloc (.cells #[iv 0, iv 0, iv 1] 57)).2 with ⟨e0, -⟩ | ⟨gy, cap, cur, e0, -, hgy, -⟩
                     · rw [e0]
                       cases hv : (Value.slice p21 (n + 1) c21).ownBlock with
                       | none => exact .inl rfl
                       | some q => exact .inr (fun e1 => by cases e1)
                     · refine .inr fun e1 => ?_
                       rw [e0] at e1
                       exact (HI21.out.alloc (.cells #[iv 0, iv 0, iv 1] 57)).ne hgy (fun cur e3 => by cases e3) e1)
                   obtain ⟨p23, c23, e23, hs23⟩ := hI22.sl
                   rw [Hl21.out] at e23
                   simp only [Value.slice.injEq] at e23
                   obtain ⟨rfl, -, rfl⟩ := e23
                   obtain ⟨g24, o24, rfl, d24⟩ := hs23.at (k := n) (by rw [Hl21.out]; omega)
                   rw [Hy21.out] at d24
                   have hx22 : ∃ g25, p22 = some ⟨g25, 0, none⟩ := by
                     rcases hown.2 with ⟨-, h0⟩ | ⟨g', cap, cur, e, -⟩
                     · omega
                     · simp only [Value.slice.injEq] at e
                       exact ⟨g', e.1⟩
                   obtain ⟨g25, rfl⟩ := hx22
                   have hly : ys.length = m * 3 := HY.out.1
                   have d25 := hown.cells (g := g25) rfl (m * 3 + 2) (iv 1) (by rw [List.getElem?_append_right (by omega), hly]; simp)
                   rw [Addr.add_lit, Nat.zero_add] at d25
                   clear hown hgrow hnil hI22 hs23 hly)
                | go_in)
              go_roundw
              case rel => exact ⟨rd + 1, Hlt.out, by go_num, HB22.out⟩
              case measure => simp [intOf]; omega
    · have HT1 := Lib.hid ((HG.out.below HR.out).top Hc.out HN5.out)
      go_wp2_with (first
        | (go_at_call 28; (with_reducible refine HT1.out.mono ?_); rintro e w10 ⟨p10, c10, O, ok, rfl, K10⟩
           have HB10 : Hid (Below W3.heap.size W3 w10) := HR.out.trans (K10.out.2.2.2.mono HR.out.size)
           obtain ⟨e0, e1⟩ := HBox.out w10 HB10.out
           have HT2 := Lib.hid (dtopo_any a a' k k' n m N E HG.out.facts.2.1 Hn.out Hm.out (by omega) (by omega) w10 (HDg.out.nodes.gro HB10.out (Nat.le_refl _)) (HDg.out.edges.gro HB10.out (Nat.le_refl _))))
        | (go_at_call 29; (with_reducible refine HT2.out.mono ?_); rintro e w11 ⟨v11, O2, ok2, rfl, K11⟩
           obtain ⟨rfl, rfl⟩ := topoIs_same K11.out.2.1 K10.out.2.1
           obtain ⟨p11, c11, rfl, hs11⟩ := K11.out.1.sl
           have HB11 : Hid (Below W3.heap.size W3 w11) := HB10.out.trans (K11.out.2.2.mono HB10.out.size)
           have HS3 := Lib.hid (same_n p10 p11 c10 c11 _ (l := O2) rfl (by have := K10.out.2.2.1; omega) w11 (K10.out.1.gro K11.out.2.2 (Nat.le_refl _)) hs11)
           clear hs11)
        | (go_at_call 17; (with_reducible refine HS3.out.mono ?_); rintro e w12 ⟨rfl, K12⟩
           have HB12 : Hid (Below W3.heap.size W3 w12) := HB11.out.trans (K12.out.mono HB11.out.size)
           obtain ⟨f0, f1⟩ := HBox.out w12 HB12.out
           have HI := Lib.hid (is_any a a' k k' n m Hn.out Hm.out Hc.out (by omega) (by omega) w12 (HG.out.below HB12.out) (HDg.out.below HB12.out)))
        | (go_at_call 22; (with_reducible refine HI.out.mono ?_); rintro e w16 ⟨rfl, K16⟩)
        | go_in)
      go_ret
      exact ⟨rfl, HW3.out.trans ((HB12.out.trans (K16.out.mono HB12.out.size)).mono HW3.out.size)⟩
end Go.Proofs.Ythgkloapnihpaaa
