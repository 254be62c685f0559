/- A graph mapped to letters: Map, by a contract. -/
import Derived.Test.YthgkloapnihpaaaGreatM9
import Derived.Test.YthgkloapnihpaaaGreatUd
namespace Go.Proofs.YthgkloapnihpaaaGreat
open Go.RowKit Go.Maps Go.WideMaps Go.WideElems Go.ChangeShapes Go.WideShapes
namespace S
theorem elem9 : (Tryz.prog.info? 9).map (fun i => (i.zero, i.size, i.bytes)) = some (some (.string ⟨#[]⟩), 1, 16) := by kernel_rfl
set_option maxHeartbeats 16000000 in
set_option maxRecDepth 100000 in
theorem map_any {Z : Nat → Prop} {B g c : Nat} {N : List Int} {E : List Ed} (hc : c ≤ 100000) (hN : N.length ≤ 1000) (hE : E.length ≤ 1000) (hk : ∀ e ∈ E, fit64 e.2.2) (w : World) (h : YthgkloapnihpaaaGreat.GrAt Z B g c N E w) :
    Calls Tryz.prog 10 #[.pointer (some ⟨g, 0, none⟩), .func (.func 11) #[] #[]] w fun e w' => ∃ g2 Z2 B2 c2, e = .returned (.pointer (some ⟨g2, 0, none⟩)) ∧ Hid (c2 ≤ N.length + 3 * E.length ∧ B2 ≤ w'.heap.size ∧ GrAt Z2 B2 g2 c2 (mapN (fun x => x % 8) N) (mapE (fun x => x % 8) E) w' ∧ (∀ q, Z2 q → w.heap.size ≤ q ∧ q < w'.heap.size) ∧ Below w.heap.size w w') := by
  obtain ⟨i0, hi, hz0, hz1, hz2⟩ := info_parts elem9
  have hmm := @run_makeMap Tryz.prog
  have hf := gr_facts h
  have HNew := Lib.hid (new_any w)
  have HG := Lib.hid h
  obtain ⟨φ, hφ⟩ : ∃ φ : Int → Int, φ = fun x => x % 8 := ⟨_, rfl⟩
  rw [← hφ]
  have HC' : Hid (∀ V x, Calls Tryz.prog 11 #[iv x] V fun e w' => e = .returned (sv (φ x)) ∧ Hid (Below V.heap.size V w')) := fun V x => by rw [hφ]; exact letter_11 x V
  have Hφ : Hid (∀ x, fitS (φ x)) := fun x => by rw [hφ]; exact fit8 x
  have Hk := Lib.hid hk
  have Hf := Lib.hid hf
  have Hcc : Hid (c ≤ 100000) := hc
  have HNl : Hid (N.length ≤ 1000) := hN
  have HEl : Hid (E.length ≤ 1000) := hE
  obtain ⟨n, hn⟩ : ∃ n, N.length = n := ⟨_, rfl⟩
  obtain ⟨m, hm⟩ : ∃ m, E.length = m := ⟨_, rfl⟩
  have Hn := Lib.hid hn
  have Hm := Lib.hid hm
  rw [hn] at hN
  rw [hm] at hE
  clear h hk hf hn hm hc hφ
  go_enter Tryz.func10, Tryz.ntmps10
  go_wp2_with (first
    | (go_at_call 26; (with_reducible refine HNew.out.mono ?_); rintro e w1 ⟨g2, rfl, K1⟩
       have H0 := Lib.hid (mapSt_start K1.out.1 K1.out.2.1)
       obtain ⟨W2, hW2⟩ : ∃ W, w1.alloc (.map #[] 0) = W := ⟨_, rfl⟩
       have HB2 : Hid (Below w.heap.size w W2) := by
         show Below _ _ _
         rw [← hW2]
         exact K1.out.2.1.trans (((Below.refl _ w1).alloc (Nat.le_refl _) _).mono K1.out.2.1.size)
       rw [hW2] at H0
       have HNo := Lib.hid (YthgkloapnihpaaaGreat.nodes_any Hcc.out W2 (HG.out.below HB2.out)))
    | (go_at_call 21; (with_reducible refine HNo.out.mono ?_); rintro e w3 ⟨v1, rfl, K3⟩
       have HI3 := Lib.hid (intsO_row K3.out.1)
       obtain ⟨a1, c1, rfl, hs1⟩ := HI3.out.sl
       have HS1 := Lib.hid hs1
       clear hs1
       have H3 := Lib.hid (H0.out.turn K3.out.2 (a' := a1) (fun q o e => HI3.out.lt (by rw [e]; rfl)))
       rw [Hn.out])
    | go_in)
  have HB3 : Hid (Below w.heap.size w w3) := HB2.out.trans (K3.out.2.mono HB2.out.size)
  clear K3 HI3
  try go_frame
  go_loopw [7, 17] (fun lv i wr => ∃ q : Nat, q ≤ n ∧ i = .int .i64 ((q : Nat) : Int) ∧ Hid (MapSt w3 w.heap.size g2 w1.heap.size q (N.take q) ((N.take q).map φ) (mapN φ (N.take q)) [] lv a1 wr)) (fun _ i _ => n - (intOf i).toNat)
  case atStart => exact ⟨0, Nat.zero_le _, rfl, H3.out⟩
  case round =>
    obtain ⟨q, hq, rfl, HT⟩ := hrel
    obtain ⟨wa, hwa⟩ : ∃ wa, wa = wr := ⟨_, rfl⟩
    subst hwa
    by_cases hlt : q < n
    · have hqo : q < N.length := by rw [Hn.out]; exact hlt
      obtain ⟨p3, off3, rfl, hc0⟩ := (HS1.out.lay HT.out.lay HT.out.below.size).at hqo
      obtain ⟨x, hx⟩ : ∃ x, N.getD q 0 = x := ⟨_, rfl⟩
      have hxN : x ∈ N := by rw [← hx]; exact getD_at hqo
      have hfx := Hf.out.2.2.1 x hxN
      have hnx : x ∉ N.take q := by rw [← hx]; exact rise_fresh Hf.out.1 hqo
      have htk : N.take (q + 1) = N.take q ++ [x] := by rw [take_getD hqo, hx]
      have hmp : mapN φ (N.take (q + 1)) = putI (mapN φ (N.take q)) (φ x) := by rw [mapN_next hqo, hx]
      have hlS : (N.take q).length = q := by rw [List.length_take]; omega
      rw [hx] at hc0
      have Htk := Lib.hid htk
      have Hmp := Lib.hid hmp
      generalize N.take q = S at *
      generalize mapN φ S = M at *
      obtain ⟨W4, hup, H4⟩ := HT.out.put hfx hnx (by rw [hlS]; unfold maxLen; omega)
      rw [hlS] at hup
      have HlI : Hid ((S.map φ).length = q) := by show _ = _; rw [List.length_map]; exact hlS
      obtain ⟨I, hI⟩ : ∃ I, S.map φ = I := ⟨_, rfl⟩
      have HIm : Hid ((S ++ [x]).map φ = I ++ [φ x]) := by show _ = _; rw [List.map_append, hI]; rfl
      rw [hI] at HlI H4
      have HCl := Lib.hid (HC'.out W4 x)
      obtain ⟨y, hy⟩ : ∃ y, φ x = y := ⟨_, rfl⟩
      rw [hy] at HCl HIm Hmp
      have Hfy : Hid (fitS y) := by show fitS y; rw [← hy]; exact Hφ.out x
      have Hlt : Hid (q < n) := hlt
      have hltI : (q : Int) < (n : Int) := by omega
      obtain ⟨p7, c7, rfl⟩ := H4.out.images.sl
      rw [HlI.out]
      rw [HlI.out] at H4
      have HIr : Hid (∀ U : World, TxtO U w.heap.size (.slice p7 q c7) I → (U.alloc (.cells #[sv y] 9)).ownsRow w.heap.size 9 1 (.slice p7 q c7) q (I.map sv)) := fun U hU => by
        have h1 := hU.alloc (.cells #[sv y] 9)
        unfold TxtO at h1
        rw [HlI.out] at h1
        exact h1
      clear hx hxN hfx hnx htk hmp hlS hI hy HT
      go_wp2_with (first
        | (go_at_call 11; (with_reducible refine HCl.out.mono ?_); rintro e w5 ⟨rfl, K5⟩
           have H5 := Lib.hid (H4.out.on K5.out))
        | (at_builtin; refine wpList_append_own_at _ rfl _ _ 40 rfl w.heap.size 9 i0 (.string ⟨#[]⟩) 1 16 Tryz.underlying40 hi hz0 hz1 hz2 rfl (by decide) (.slice p7 q c7) q (I.map sv) rfl (HIr.out _ H5.out.images) ⟨w5.heap.size, 0, none⟩ 1 1 [sv y] rfl rfl (news_new w5 #[sv y] 9) (by intro u hu; simp at hu; subst hu; rfl) (by unfold maxLen; omega) (by omega) (by have := H5.out.b0; simp; omega) ?_
           intro v' w6 j1 i2 j3 j4
           have i3 : ∀ k, v'.ownBlock = some k → (Value.slice p7 q c7).ownBlock = some k ∨ (w5.alloc (.cells #[sv y] 9)).heap.size ≤ k := fun k e => j4.imp (fun g => g.symm.trans e) (fun g => by rw [g] at e; exact Nat.le_of_eq (Option.some.inj e))
           have i1 : TxtO w6 w.heap.size v' (I ++ [y]) := by
             show World.ownsRow _ _ _ _ _ _ _
             rw [List.length_append, HlI.out, List.map_append]
             exact j1
           have H6 := Lib.hid ((H5.out.on ((Below.refl _ w5).alloc (Nat.le_refl _) (.cells #[sv y] 9))).app i1 i2 i3)
           obtain ⟨p6, c6, rfl⟩ := i1.sl
           have hl6 : (I ++ [y]).length = q + 1 := by rw [List.length_append, HlI.out]; rfl
           rw [hl6] at H6 ⊢
           have hq6 : (I ++ [y]).getD q 0 = y := by rw [← HlI.out]; simp
           obtain ⟨g6, rfl, d6⟩ := i1.at (k := q) (by rw [hl6]; omega)
           rw [hq6] at d6
           have HNd := Lib.hid (H6.out.node y Hfy.out (by unfold maxLen; omega))
           clear i1 i2 i3 j1 j3 j4 hl6 hq6)
        | (go_at_call 27; (with_reducible refine HNd.out.mono ?_); rintro e w7 ⟨b7, rfl, K7⟩)
        | go_in)
      go_roundw
      case rel => exact ⟨q + 1, Hlt.out, by go_num, by rw [Hmp.out, Htk.out, HIm.out]; exact K7.out.1⟩
      case measure => simp [intOf]; omega
    · have hqn : q = n := by omega
      subst hqn
      have e1 : N.take q = N := List.take_of_length_le (by rw [Hn.out]; exact Nat.le_refl _)
      rw [e1] at HT
      have HEd := Lib.hid (edges_at Hcc.out HEl.out HNl.out wa (HG.out.below (HB3.out.trans HT.out.below)))
      rw [Hm.out] at HEd
      obtain ⟨p7, c7, rfl⟩ := HT.out.images.sl
      rw [List.length_map, Hn.out]
      rw [List.length_map, Hn.out] at HT
      clear e1
      go_wp2_with (first
        | (go_at_call 22; (with_reducible refine HEd.out.mono ?_); rintro e w4 ⟨v4, rfl, K4⟩
           have HR4 := Lib.hid K4.out.1
           obtain ⟨a2, c2, rfl, -, hs4⟩ := row_slE K4.out.1
           have HS2 := Lib.hid hs4
           clear hs4
           have H4 := Lib.hid (HT.out.turn K4.out.2 (a' := a2) (fun q o e => by
             have := HR4.out.lt q (by rw [e]; rfl)
             exact this)))
        | go_in)
      have HB4 : Hid (Below w.heap.size w w4) := (HB3.out.trans HT.out.below).trans (K4.out.2.mono (HB3.out.trans HT.out.below).size)
      clear K4 HR4 HT HEd
      try go_frame
      go_loopw [41] (fun i wr => ∃ r : Nat, r ≤ m ∧ i = .int .i64 ((r : Nat) : Int) ∧ Hid (MapSt w4 w.heap.size g2 w1.heap.size (q + 3 * r) N (N.map φ) (mapN φ N) (mapE φ (E.take r)) (.slice p7 q c7) a2 wr)) (fun i _ => m - (intOf i).toNat)
      case atStart => exact ⟨0, Nat.zero_le _, rfl, H4.out⟩
      case round =>
        obtain ⟨r, hr, rfl, HU⟩ := hrel
        obtain ⟨wb, hwb⟩ : ∃ wb, wb = wr := ⟨_, rfl⟩
        subst hwb
        by_cases hlt : r < m
        · have hro : r < E.length := by rw [Hm.out]; exact hlt
          obtain ⟨e, he⟩ : ∃ e, E.getD r e0 = e := ⟨_, rfl⟩
          have heE : e ∈ E := by rw [← he]; exact getD_in hro
          obtain ⟨x, y, z⟩ := e
          obtain ⟨hxN, hyN⟩ := Hf.out.2.1 x y ⟨z, heE⟩
          have hfz := Hk.out _ heE
          have hme := mapE_next (φ := φ) hro
          rw [he] at hme
          obtain ⟨p3, off3, rfl, -⟩ := (HS2.out.lay HU.out.lay HU.out.below.size).at hro
          obtain ⟨hc0, hc1, hc2⟩ := (HS2.out.lay HU.out.lay HU.out.below.size).cells hro he
          obtain ⟨W5, hW5, Hb5, hs5, Hx5⟩ := three_any wb (iv x) (iv y) (iv z) 57
          obtain ⟨x0, x1, x2⟩ := three_at Hx5.out
          have H5 := Lib.hid (HU.out.on Hb5.out)
          have H6 := Lib.hid (H5.out.on ((Below.refl _ W5).drew))
          obtain ⟨i1, hi1, e1⟩ := List.mem_iff_getElem.1 hxN
          obtain ⟨i2, hi2, e2⟩ := List.mem_iff_getElem.1 hyN
          have f1 : N.getD i1 0 = x := by rw [List.getD_eq_getElem?_getD, List.getElem?_eq_getElem hi1]; exact e1
          have f2 : N.getD i2 0 = y := by rw [List.getD_eq_getElem?_getD, List.getElem?_eq_getElem hi2]; exact e2
          have l1 := H5.out.place.look hi1
          have l2 := H5.out.place.look hi2
          have l3 := H6.out.place.look hi1
          have l4 := H6.out.place.look hi2
          rw [f1] at l1 l3
          rw [f2] at l2 l4
          obtain ⟨g8, rfl, d1⟩ := H5.out.images.at (k := i1) (by rw [List.length_map]; exact hi1)
          obtain ⟨g9, e9, d2⟩ := H5.out.images.at (k := i2) (by rw [List.length_map]; exact hi2)
          cases e9
          rw [getD_map hi1, f1] at d1
          rw [getD_map hi2, f2] at d2
          have hj1 : (i1 : Int) < (q : Int) := by have := Hn.out; omega
          have hj2 : (i2 : Int) < (q : Int) := by have := Hn.out; omega
          have hle := mapE_len φ (E.take r)
          have HEg := Lib.hid (H6.out.edge (φ x) (φ y) z (Hφ.out x) (Hφ.out y) hfz (by omega) (by rw [List.length_take] at hle; omega))
          have hp1 : putI (mapN φ N) (φ x) = mapN φ N := putI_in (mapN_rise φ N) (mem_mapN.2 ⟨x, hxN, rfl⟩)
          have hp2 : putI (mapN φ N) (φ y) = mapN φ N := putI_in (mapN_rise φ N) (mem_mapN.2 ⟨y, hyN, rfl⟩)
          rw [hp1, hp2] at HEg
          have Hme := Lib.hid hme
          have Hlt : Hid (r < m) := hlt
          have hltI : (r : Int) < (m : Int) := by omega
          clear hxN hyN hfz hme hp1 hp2 hle f1 f2 e1 e2 he heE hi1 hi2 HU
          generalize φ x = X at *
          generalize φ y = Y at *
          go_wp2
          go_still_tail 17, (by kernel_rfl)
          change wpList _ _ _ _ _ W5.drew
          generalize W5.drew = wd at *
          go_wp2_with (first
            | (go_at_call 28; (with_reducible refine HEg.out.mono ?_); rintro e w6 ⟨b6, rfl, K6⟩)
            | go_in)
          go_roundw
          case rel => exact ⟨r + 1, Hlt.out, by go_num, by rw [Hme.out]; exact K6.out.1⟩
          case measure => simp [intOf]; omega
        · have hrm : r = m := by omega
          subst hrm
          have e2 : E.take r = E := List.take_of_length_le (by rw [Hm.out]; exact Nat.le_refl _)
          rw [e2] at HU
          go_wp2_with fail
          go_ret
          obtain ⟨Z2, B2, hB2, hg2, hz2, -, -⟩ := HU.out.gr
          exact ⟨g2, Z2, B2, _, rfl, by rw [Hn.out, Hm.out]; exact Nat.le_refl _, hB2, hg2, fun q hq => ⟨(hz2 q hq).1, (hz2 q hq).2.1⟩, HB4.out.trans HU.out.below⟩
end S
end Go.Proofs.YthgkloapnihpaaaGreat
