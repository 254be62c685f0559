/- A graph mapped by the function that keeps who was asked for: Map, by a contract. -/
import Derived.Test.YthgkloapnihpaaaGreatM9
import Derived.Test.YthgkloapnihpaaaGreatUb
namespace Go.Proofs.YthgkloapnihpaaaGreat
open Go.RowKit Go.Maps Go.WideMaps Go.WideElems Go.ChangeShapes Go.WideShapes

/-- Parted. -/
def tq (y x : Int) : Int := x.tdiv y
set_option maxHeartbeats 16000000 in
set_option maxRecDepth 100000 in
theorem map_ask {Z : Nat → Prop} {B g c : Nat} {N : List Int} {E : List Ed} (y0 : Int) (hy0 : 1 ≤ y0) (bx yb : Nat) (hc : c ≤ 100000) (hN : N.length ≤ 1000) (hE : E.length ≤ 1000) (hk : ∀ e ∈ E, fit64 e.2.2) (w : World) (h : GrAt Z B g c N E w)
    (ha : Ask bx (.slice none 0 0) [] w) (hb : w.heap[yb]? = some (.cells #[iv y0] 3)) (hne : yb ≠ bx) (hbg : bx ≠ g) (hbz : ¬ Z bx) :
    Calls Tryz.prog 6 #[.pointer (some ⟨g, 0, none⟩), .func (.func 7) #[] #[.pointer (some ⟨bx, 0, none⟩), .pointer (some ⟨yb, 0, none⟩)]] w fun e w' => ∃ g2 Z2 B2 c2 va, e = .returned (.pointer (some ⟨g2, 0, none⟩)) ∧ Hid (c2 ≤ N.length + 3 * E.length ∧ B2 ≤ w'.heap.size ∧ GrAt Z2 B2 g2 c2 (mapN (tq y0) N) (mapE (tq y0) E) w' ∧ (∀ q, Z2 q → w.heap.size ≤ q ∧ q < w'.heap.size) ∧ Ask bx va N w' ∧ (∀ q, va.ownBlock = some q → ¬ Z2 q ∧ w.heap.size ≤ q) ∧ Off (fun q => q = bx) w w') := by
  have hmm := @run_makeMap Tryz.prog
  have hf := gr_facts h
  have HNew := Lib.hid (new_any w)
  have HG := Lib.hid h
  have HA := Lib.hid ha
  have HY := Lib.hid hb
  have HNe := Lib.hid hne
  have HGo : Hid (∀ W, Off (fun q => q = bx ∨ w.heap.size ≤ q) w W → GrAt Z B g c N E W) := fun W ho => K.grAt_off h (Zx := fun q => q = bx) ⟨ho.os, ho.tape, ho.output, ho.size, fun q hq hn => ho.block q hq fun e => e.elim hn fun g => by omega⟩ (fun q e => ⟨fun e2 => hbg (e.symm.trans e2), fun hz => hbz (e ▸ hz)⟩)
  have Hy0 := Lib.hid hy0
  obtain ⟨φ, hφ⟩ : ∃ φ : Int → Int, φ = tq y0 := ⟨_, rfl⟩
  rw [← hφ]
  have Hφ : Hid (∀ x ∈ N, fit64 (φ x)) := fun x hx => by rw [hφ]; exact tdiv_fit (hf.2.2.1 x hx) hy0
  have Hφ0 : Hid (∀ x, φ x = x.tdiv y0) := fun _ => by rw [hφ]; rfl
  have Hk := Lib.hid hk
  have Hf := Lib.hid hf
  have Hcc : Hid (c ≤ 100000) := hc
  have HNl : Hid (N.length ≤ 1000) := hN
  have HEl : Hid (E.length ≤ 1000) := hE
  obtain ⟨n, hn⟩ : ∃ n, N.length = n := ⟨_, rfl⟩
  obtain ⟨m, hm⟩ : ∃ m, E.length = m := ⟨_, rfl⟩
  have Hn := Lib.hid hn
  have Hm := Lib.hid hm
  rw [hn] at hN
  rw [hm] at hE
  clear h ha hb hne hbg hbz hy0 hk hf hn hm hc hφ
  go_enter Tryz.func6, Tryz.ntmps6
  go_wp2_with (first
    | (go_at_call 18; (with_reducible refine HNew.out.mono ?_); rintro e w1 ⟨g2, rfl, K1⟩
       have H0 := Lib.hid (K.mapSt_start K1.out.1 K1.out.2.1 HA.out)
       obtain ⟨W2, hW2⟩ : ∃ W, w1.alloc (.map #[] 0) = W := ⟨_, rfl⟩
       have HB2 : Hid (Below w.heap.size w W2) := by
         show Below _ _ _
         rw [← hW2]
         exact K1.out.2.1.trans (((Below.refl _ w1).alloc (Nat.le_refl _) _).mono K1.out.2.1.size)
       rw [hW2] at H0
       have HNo := Lib.hid (nodes_any Hcc.out W2 (HG.out.below HB2.out)))
    | (go_at_call 21; (with_reducible refine HNo.out.mono ?_); rintro e w3 ⟨v1, rfl, K3⟩
       have HI3 := Lib.hid (intsO_row K3.out.1)
       obtain ⟨a1, c1, rfl, hs1⟩ := HI3.out.sl
       have HS1 := Lib.hid hs1
       clear hs1
       have H3 := Lib.hid (H0.out.turn K3.out.2 (a' := a1) (fun q o e => HI3.out.lt (by rw [e]; rfl)))
       rw [Hn.out])
    | go_in)
  have HB3 : Hid (Below w.heap.size w w3) := HB2.out.trans (K3.out.2.mono HB2.out.size)
  clear K3 HI3
  try go_frame
  go_loopw [7, 17] (fun lv i wr => ∃ (q : Nat) (va : Value), q ≤ n ∧ i = .int .i64 ((q : Nat) : Int) ∧ Hid (K.MapSt w3 w.heap.size g2 w1.heap.size bx q va (N.take q) (N.take q) ((N.take q).map φ) (mapN φ (N.take q)) [] lv a1 wr)) (fun _ i _ => n - (intOf i).toNat)
  case atStart => exact ⟨0, _, Nat.zero_le _, rfl, H3.out⟩
  case round =>
    obtain ⟨q, va, hq, rfl, HT⟩ := hrel
    obtain ⟨wa, hwa⟩ : ∃ wa, wa = wr := ⟨_, rfl⟩
    subst hwa
    by_cases hlt : q < n
    · have hqo : q < N.length := by rw [Hn.out]; exact hlt
      obtain ⟨p3, off3, rfl, hc0⟩ := (HS1.out.lay HT.out.lay HT.out.below.size).at hqo
      obtain ⟨x, hx⟩ : ∃ x, N.getD q 0 = x := ⟨_, rfl⟩
      have hxN : x ∈ N := by rw [← hx]; exact getD_at hqo
      have hfx := Hf.out.2.2.1 x hxN
      have hnx : x ∉ N.take q := by rw [← hx]; exact rise_fresh Hf.out.1 hqo
      have Hφx : Hid (φ x = x.tdiv y0) := Hφ0.out x
      have htk : N.take (q + 1) = N.take q ++ [x] := by rw [take_getD hqo, hx]
      have hmp : mapN φ (N.take (q + 1)) = putI (mapN φ (N.take q)) (φ x) := by rw [mapN_next hqo, hx]
      have hlS : (N.take q).length = q := by rw [List.length_take]; omega
      rw [hx] at hc0
      have Htk := Lib.hid htk
      have Hmp := Lib.hid hmp
      generalize N.take q = S at *
      generalize mapN φ S = M at *
      obtain ⟨W4, hup, H4⟩ := HT.out.put hfx hnx (by rw [hlS]; unfold maxLen; omega)
      rw [hlS] at hup
      have HlI : Hid ((S.map φ).length = q) := by show _ = _; rw [List.length_map]; exact hlS
      obtain ⟨I, hI⟩ : ∃ I, S.map φ = I := ⟨_, rfl⟩
      have HIm : Hid ((S ++ [x]).map φ = I ++ [φ x]) := by show _ = _; rw [List.map_append, hI]; rfl
      rw [hI] at HlI H4
      have hO4 := K.off_trans (K.off_mono (Z := fun _ => False) (Off.below HB3.out) (fun _ e => e.elim)) H4.out.below
      have hy4 : W4.heap[yb]? = some (.cells #[iv y0] 3) := (hO4.block yb (Array.getElem?_eq_some_iff.1 HY.out).1 (fun e => e.elim HNe.out fun g => by
        have := (Array.getElem?_eq_some_iff.1 HY.out).1
        omega)).trans HY.out
      have HCl : Hid (Calls Tryz.prog 7 #[iv x, .pointer (some ⟨bx, 0, none⟩), .pointer (some ⟨yb, 0, none⟩)] W4 fun e w' => e = .returned (iv (φ x)) ∧ Hid (∃ va', Ask bx va' (S ++ [x]) w' ∧ Off (fun q => q = bx ∨ va.ownBlock = some q) W4 w' ∧ ∀ q, va'.ownBlock = some q → va.ownBlock = some q ∨ W4.heap.size ≤ q)) := by
        show Calls _ _ _ _ _
        rw [Hφx.out]
        exact ask_7 x y0 bx yb va S Hy0.out (by rw [hlS]; omega) (tdiv_fit hfx Hy0.out) W4 H4.out.ask hy4 (fun e => by
          have h1 := (H4.out.apart _ e).2
          have h2 := (Array.getElem?_eq_some_iff.1 HY.out).1
          omega) HNe.out
      obtain ⟨y, hy⟩ : ∃ y, φ x = y := ⟨_, rfl⟩
      rw [hy] at HCl HIm Hmp
      have Hfy : Hid (fit64 y) := by show fit64 y; rw [← hy]; exact Hφ.out x hxN
      clear hO4 hy4 Hφx
      have Hlt : Hid (q < n) := hlt
      have hltI : (q : Int) < (n : Int) := by omega
      obtain ⟨p7, c7, rfl, -⟩ := H4.out.images.sl
      rw [HlI.out]
      rw [HlI.out] at H4
      clear hx hxN hfx hnx htk hmp hlS hI hy HT
      go_wp2_with (first
        | (go_at_call 7; (with_reducible refine HCl.out.mono ?_); rintro e w5 ⟨rfl, K5⟩
           obtain ⟨va5, k51, k52, k53⟩ := K5.out
           have H5 := Lib.hid (H4.out.asked k51 k52 k53)
           clear k51 k52 k53 K5)
        | (at_builtin; refine wpList_append_o rfl _ _ rfl w.heap.size (.slice p7 q c7) I y rfl (H5.out.images.alloc _) ⟨w5.heap.size, 0, none⟩ 1 rfl (news_new w5 #[iv y] 3) (by rw [HlI.out]; omega) (by have := H5.out.b0; simp; omega) ?_
           intro v' w6 i1 i2 i3
           have H6 := Lib.hid ((H5.out.on ((Below.refl _ w5).alloc (Nat.le_refl _) (.cells #[iv y] 3))).app i1 i2 i3)
           obtain ⟨p6, c6, rfl, hs6⟩ := i1.sl
           have hl6 : (I ++ [y]).length = q + 1 := by rw [List.length_append, HlI.out]; rfl
           rw [hl6] at H6 ⊢
           have hq6 : (I ++ [y]).getD q 0 = y := by rw [← HlI.out]; simp
           obtain ⟨g6, o6, rfl, d6⟩ := hs6.at (k := q) (by rw [hl6]; omega)
           rw [hq6] at d6
           have HNd := Lib.hid (H6.out.node y Hfy.out (by unfold maxLen; omega))
           clear i1 i2 i3 hl6 hq6 hs6)
        | (go_at_call 20; (with_reducible refine HNd.out.mono ?_); rintro e w7 ⟨b7, rfl, K7⟩)
        | go_in)
      go_roundw
      case rel => exact ⟨q + 1, va5, Hlt.out, by go_num, by rw [Hmp.out, Htk.out, HIm.out]; exact K7.out.1⟩
      case measure => simp [intOf]; omega
    · have hqn : q = n := by omega
      subst hqn
      have e1 : N.take q = N := List.take_of_length_le (by rw [Hn.out]; exact Nat.le_refl _)
      rw [e1] at HT
      have HOa := Lib.hid (show Off (fun q => q = bx ∨ w.heap.size ≤ q) w wa from K.off_trans (K.off_mono (Z := fun _ => False) (Off.below HB3.out) (fun _ e => e.elim)) HT.out.below)
      have HEd := Lib.hid (edges_at Hcc.out HEl.out HNl.out wa (HGo.out wa HOa.out))
      rw [Hm.out] at HEd
      obtain ⟨p7, c7, rfl, hs7⟩ := HT.out.images.sl
      rw [List.length_map, Hn.out]
      rw [List.length_map, Hn.out] at HT
      clear e1
      go_wp2_with (first
        | (go_at_call 22; (with_reducible refine HEd.out.mono ?_); rintro e w4 ⟨v4, rfl, K4⟩
           have HR4 := Lib.hid K4.out.1
           obtain ⟨a2, c2, rfl, -, hs4⟩ := row_slE K4.out.1
           have HS2 := Lib.hid hs4
           clear hs4
           have H4 := Lib.hid (HT.out.turn K4.out.2 (a' := a2) (fun q o e => by
             have := HR4.out.lt q (by rw [e]; rfl)
             exact this)))
        | go_in)
      have HO4 : Hid (Off (fun q => q = bx ∨ w.heap.size ≤ q) w w4) := K.off_trans HOa.out (K.off_mono (Z := fun _ => False) (Off.below K4.out.2) (fun _ e => e.elim))
      clear HOa
      clear K4 HR4 HT HEd
      try go_frame
      go_loopw [41] (fun i wr => ∃ r : Nat, r ≤ m ∧ i = .int .i64 ((r : Nat) : Int) ∧ Hid (K.MapSt w4 w.heap.size g2 w1.heap.size bx (q + 3 * r) va N N (N.map φ) (mapN φ N) (mapE φ (E.take r)) (.slice p7 q c7) a2 wr)) (fun i _ => m - (intOf i).toNat)
      case atStart => exact ⟨0, Nat.zero_le _, rfl, H4.out⟩
      case round =>
        obtain ⟨r, hr, rfl, HU⟩ := hrel
        obtain ⟨wb, hwb⟩ : ∃ wb, wb = wr := ⟨_, rfl⟩
        subst hwb
        by_cases hlt : r < m
        · have hro : r < E.length := by rw [Hm.out]; exact hlt
          obtain ⟨e, he⟩ : ∃ e, E.getD r e0 = e := ⟨_, rfl⟩
          have heE : e ∈ E := by rw [← he]; exact getD_in hro
          obtain ⟨x, y, z⟩ := e
          obtain ⟨hxN, hyN⟩ := Hf.out.2.1 x y ⟨z, heE⟩
          have hfz := Hk.out _ heE
          have hme := mapE_next (φ := φ) hro
          rw [he] at hme
          obtain ⟨p3, off3, rfl, -⟩ := (HS2.out.lay HU.out.lay HU.out.below.size).at hro
          obtain ⟨hc0, hc1, hc2⟩ := (HS2.out.lay HU.out.lay HU.out.below.size).cells hro he
          obtain ⟨W5, hW5, Hb5, hs5, Hx5⟩ := three_any wb (iv x) (iv y) (iv z) 57
          obtain ⟨x0, x1, x2⟩ := three_at Hx5.out
          have H5 := Lib.hid (HU.out.on Hb5.out)
          have H6 := Lib.hid (H5.out.on ((Below.refl _ W5).drew))
          obtain ⟨i1, hi1, e1⟩ := List.mem_iff_getElem.1 hxN
          obtain ⟨i2, hi2, e2⟩ := List.mem_iff_getElem.1 hyN
          have f1 : N.getD i1 0 = x := by rw [List.getD_eq_getElem?_getD, List.getElem?_eq_getElem hi1]; exact e1
          have f2 : N.getD i2 0 = y := by rw [List.getD_eq_getElem?_getD, List.getElem?_eq_getElem hi2]; exact e2
          have l1 := H5.out.place.look hi1
          have l2 := H5.out.place.look hi2
          have l3 := H6.out.place.look hi1
          have l4 := H6.out.place.look hi2
          rw [f1] at l1 l3
          rw [f2] at l2 l4
          obtain ⟨p8, c8, e8, hs8⟩ := H5.out.images.sl
          simp only [Value.slice.injEq] at e8
          obtain ⟨rfl, -, -⟩ := e8
          obtain ⟨g8, o8, rfl, d1⟩ := hs8.at (k := i1) (by rw [List.length_map]; exact hi1)
          obtain ⟨g9, o9, e9, d2⟩ := hs8.at (k := i2) (by rw [List.length_map]; exact hi2)
          cases e9
          rw [getD_map hi1, f1] at d1
          rw [getD_map hi2, f2] at d2
          have hj1 : (i1 : Int) < (q : Int) := by have := Hn.out; omega
          have hj2 : (i2 : Int) < (q : Int) := by have := Hn.out; omega
          have hle := mapE_len φ (E.take r)
          have HEg := Lib.hid (H6.out.edge (φ x) (φ y) z (Hφ.out x hxN) (Hφ.out y hyN) hfz (by omega) (by rw [List.length_take] at hle; omega))
          have hp1 : putI (mapN φ N) (φ x) = mapN φ N := putI_in (mapN_rise φ N) (mem_mapN.2 ⟨x, hxN, rfl⟩)
          have hp2 : putI (mapN φ N) (φ y) = mapN φ N := putI_in (mapN_rise φ N) (mem_mapN.2 ⟨y, hyN, rfl⟩)
          rw [hp1, hp2] at HEg
          have Hme := Lib.hid hme
          have Hlt : Hid (r < m) := hlt
          have hltI : (r : Int) < (m : Int) := by omega
          clear hxN hyN hfz hme hp1 hp2 hle f1 f2 e1 e2 hs8 he heE hi1 hi2 HU
          generalize φ x = X at *
          generalize φ y = Y at *
          go_wp2
          go_still_tail 17, (by kernel_rfl)
          change wpList _ _ _ _ _ W5.drew
          generalize W5.drew = wd at *
          go_wp2_with (first
            | (go_at_call 19; (with_reducible refine HEg.out.mono ?_); rintro e w6 ⟨b6, rfl, K6⟩)
            | go_in)
          go_roundw
          case rel => exact ⟨r + 1, Hlt.out, by go_num, by rw [Hme.out]; exact K6.out.1⟩
          case measure => simp [intOf]; omega
        · have hrm : r = m := by omega
          subst hrm
          have e2 : E.take r = E := List.take_of_length_le (by rw [Hm.out]; exact Nat.le_refl _)
          rw [e2] at HU
          go_wp2_with fail
          go_ret
          obtain ⟨Z2, B2, hB2, hg2, hz2, -, -, hva2⟩ := HU.out.gr
          have hO := K.off_trans HO4.out HU.out.below
          refine ⟨g2, Z2, B2, _, va, rfl, by rw [Hn.out, Hm.out]; exact Nat.le_refl _, hB2, hg2, fun q hq => ⟨(hz2 q hq).1, (hz2 q hq).2.1⟩, HU.out.ask, fun q e => ⟨hva2 q e, (HU.out.apart q e).2⟩, ⟨hO.os, hO.tape, hO.output, hO.size, fun q hq hn => hO.block q hq fun e => e.elim hn fun g => by omega⟩⟩
end Go.Proofs.YthgkloapnihpaaaGreat
