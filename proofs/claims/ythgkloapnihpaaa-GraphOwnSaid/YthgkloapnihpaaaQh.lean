/- The document's Parts: a contract. -/
import Derived.Test.YthgkloapnihpaaaQg
namespace Go.Proofs.Ythgkloapnihpaaa
open Go.RowKit Go.Maps Go.WideMaps Go.WideElems Go.ChangeShapes Go.WideShapes
open Classical

section
variable {R : Int → Int → Prop} {N : List Int}
/-- Is it the least of its group? -/
def IsRep (R : Int → Int → Prop) (N : List Int) (h : Int) : Prop := ∀ z ∈ N, Mutual R h z → h ≤ z
theorem not_take (hN : RiseI N) {q : Nat} (hq : q < N.length) : N.getD q 0 ∉ N.take q := fun hm => by
  obtain ⟨j, h1, h2, h3⟩ := in_take hm
  have h4 := List.pairwise_iff_getElem.1 hN j q h2 hq h1
  rw [List.getD_eq_getElem?_getD, List.getElem?_eq_getElem h2, List.getD_eq_getElem?_getD, List.getElem?_eq_getElem hq] at h3
  simp at h3
  omega
theorem done_iff (hN : RiseI N) {q : Nat} (hq : q < N.length) : (∃ h ∈ N.take q, IsRep R N h ∧ N.getD q 0 ∈ cls R N h) ↔ ¬ IsRep R N (N.getD q 0) := by
  have hqN := getD_in (d := 0) hq
  constructor
  · rintro ⟨h, h1, h2, h3⟩ h4
    have h5 := (mem_cls.1 h3).2
    have hhN := List.mem_of_mem_take h1
    have h6 := h2 _ hqN h5
    have h7 := h4 _ hhN h5.symm
    have e : h = N.getD q 0 := by omega
    rw [e] at h1
    exact not_take hN hq h1
  · intro hn
    have hx : ∃ y ∈ N, Mutual R (N.getD q 0) y ∧ y < N.getD q 0 := by
      refine Classical.byContradiction fun hno => hn fun y hy hm => ?_
      exact Int.not_lt.1 fun hlt => hno ⟨y, hy, hm, hlt⟩
    obtain ⟨y, hy, hm, hlt⟩ := hx
    have hne : cls R N (N.getD q 0) ≠ [] := fun e => by
      have : y ∈ cls R N (N.getD q 0) := mem_cls.2 ⟨hy, hm⟩
      rw [e] at this
      simp at this
    obtain ⟨h, l, hl⟩ : ∃ h l, cls R N (N.getD q 0) = h :: l := by
      cases hc : cls R N (N.getD q 0) with
      | nil => exact absurd hc hne
      | cons h l => exact ⟨h, l, rfl⟩
    obtain ⟨h1, h2⟩ := cls_head (R := R) hN (k := N.getD q 0) (x := h) (by rw [hl]; rfl)
    have h3 := mem_reps.1 h1
    have h4 : N.getD q 0 ∈ cls R N (N.getD q 0) := mem_cls.2 ⟨hqN, Mutual.refl _⟩
    rw [h2] at h4
    have hyh : y ∈ cls R N h := by rw [← h2]; exact mem_cls.2 ⟨hy, hm⟩
    have h5 := h3.2 y hy (mem_cls.1 hyh).2
    exact ⟨h, mem_take_lt hN hq h3.1 (by omega), h3.2, h4⟩
theorem docParts_next {q : Nat} (hq : q < N.length) : docParts R N (N.take (q + 1)) = docParts R N (N.take q) ++ if IsRep R N (N.getD q 0) then [cls R N (N.getD q 0)] else [] := by
  rw [docParts_eq, docParts_eq, take_more hq, List.filter_append, List.map_append]
  congr 1
  by_cases h : IsRep R N (N.getD q 0)
  · rw [if_pos h]
    have : decide (∀ y ∈ N, Mutual R (N.getD q 0) y → N.getD q 0 ≤ y) = true := decide_eq_true h
    rw [List.filter_cons, this]
    rfl
  · rw [if_neg h]
    have : decide (∀ y ∈ N, Mutual R (N.getD q 0) y → N.getD q 0 ≤ y) = false := decide_eq_false h
    rw [List.filter_cons, this]
    rfl
/-- Its group among the first so many. -/
noncomputable def mfil (R : Int → Int → Prop) (N : List Int) (x : Int) (k : Nat) : List Int := (N.take k).filter fun y => decide (Mutual R x y)
theorem mfil_next {x : Int} {k : Nat} (hk : k < N.length) : mfil R N x (k + 1) = mfil R N x k ++ if Mutual R x (N.getD k 0) then [N.getD k 0] else [] := by
  unfold mfil
  rw [take_more hk, List.filter_append]
  congr 1
  by_cases h : Mutual R x (N.getD k 0)
  · rw [if_pos h, List.filter_cons, decide_eq_true h]; rfl
  · rw [if_neg h, List.filter_cons, decide_eq_false h]; rfl
theorem mfil_start (hN : RiseI N) {q : Nat} (hq : q < N.length) (h : IsRep R N (N.getD q 0)) : mfil R N (N.getD q 0) (q + 1) = [N.getD q 0] := by
  rw [mfil_next hq, if_pos (Mutual.refl _)]
  have : mfil R N (N.getD q 0) q = [] := by
    refine List.eq_nil_iff_forall_not_mem.2 fun y hy => ?_
    obtain ⟨h1, h2⟩ := List.mem_filter.1 hy
    have h3 := h y (List.mem_of_mem_take h1) (of_decide_eq_true h2)
    obtain ⟨j, h4, h5, h6⟩ := in_take h1
    have h7 := List.pairwise_iff_getElem.1 hN j q h5 hq h4
    rw [List.getD_eq_getElem?_getD, List.getElem?_eq_getElem h5] at h6
    rw [List.getD_eq_getElem?_getD, List.getElem?_eq_getElem hq] at h3
    simp at h6 h3
    omega
  rw [this]
  rfl
theorem mfil_all {x : Int} {n : Nat} (hn : N.length = n) : mfil R N x n = cls R N x := by
  unfold mfil cls
  rw [List.take_of_length_le (by omega)]
theorem mfil_len (x : Int) (k : Nat) : (mfil R N x k).length ≤ N.length := by
  unfold mfil
  refine Nat.le_trans (List.length_filter_le _ _) ?_
  rw [List.length_take]
  omega
theorem mutual_iff {a b : Int} (h : a ≠ b) : Mutual R a b ↔ TCR R a b ∧ TCR R b a := by
  constructor
  · rintro ⟨h1, h2⟩
    exact ⟨(leads_or h1).resolve_left h, (leads_or h2).resolve_left fun e => h e.symm⟩
  · rintro ⟨h1, h2⟩
    exact ⟨h1.leads, h2.leads⟩
theorem rise_ne (hN : RiseI N) {q k : Nat} (h : q < k) (hk : k < N.length) : N.getD q 0 ≠ N.getD k 0 := fun e => by
  have h7 := List.pairwise_iff_getElem.1 hN q k (by omega) hk h
  rw [List.getD_eq_getElem?_getD, List.getElem?_eq_getElem (show q < N.length by omega), List.getD_eq_getElem?_getD, List.getElem?_eq_getElem hk] at e
  simp at e
  omega
end
set_option maxHeartbeats 8000000 in
set_option maxRecDepth 100000 in
theorem dreach_at (a a' : Option Addr) (k k' n m : Nat) (E : List Ed) (x : Int) (hm : E.length = m) (hm5 : m ≤ 10000) (w : World) (h : SlE w a' E) :
    Calls Try.prog 25 #[gval a n k a' m k', iv x] w fun e w' => ∃ p c r, e = .returned (.slice p (r : List Int).length c) ∧ Hid (SlI w' p r ∧ RiseI r ∧ r.length ≤ m ∧ (∀ z, z ∈ r ↔ TCR (EdR E) x z) ∧ Below w.heap.size w w' ∧ ∀ g o, p = some ⟨g, o, none⟩ → w.heap.size ≤ g) := by
  obtain ⟨W1, hW1, Hb1, hs1, Hx1⟩ := two_any w (.slice a n k) (.slice a' m k') 29
  have HPs := Lib.hid (pairs_any a a' k k' n m E hm hm5 W1 (h.gro Hb1.out (Nat.le_refl _)))
  obtain ⟨x0, x1⟩ := two_at Hx1.out
  have hl : (pairsE E).length ≤ 10000 := by have := pairsE_len E; omega
  have Hl := Lib.hid hl
  have Hm := Lib.hid hm
  clear h hm hl
  go_enter Try.func25, Try.ntmps25
  go_wp2_with (first
    | (go_at_call 47; (with_reducible refine HPs.out.mono ?_); rintro e w2 ⟨p2, c2, rfl, K2⟩
       have HB := Lib.hid (reach_any p2 c2 (pairsE E) x Hl.out w2 K2.out.1))
    | (go_at_call 49; (with_reducible refine HB.out.mono ?_); rintro e w3 ⟨p3, c3, n3, r, rfl, K3⟩)
    | go_in)
  go_ret
  obtain ⟨k1, k2, k3, k4, k5, k6⟩ := K3.out
  have hmem : ∀ z, z ∈ r ↔ TCR (EdR E) x z := fun z => (k3 z).trans (tc_tcr fun a b => mem_pairsE)
  refine ⟨p3, c3, r, by rw [k1]; rfl, k4, k2, ?_, hmem, Hb1.out.trans ((K2.out.2.trans (k5.mono K2.out.2.size)).mono Hb1.out.size), fun g o e => Nat.le_trans Hb1.out.size (Nat.le_trans K2.out.2.size (k6 g o e))⟩
  have hsub : ∀ z ∈ r, z ∈ E.map fun e => e.2.1 := fun z hz => by
    obtain ⟨y, hy⟩ := tcr_last ((hmem z).1 hz)
    obtain ⟨c, hc⟩ := hy
    exact List.mem_map.2 ⟨(y, z, c), hc, rfl⟩
  have := len_le (k2.imp fun h => by omega) hsub
  rw [List.length_map, Hm.out] at this
  exact this
theorem SlI.beside {W W' : World} {a : Option Addr} {l : List Int} {row : Option Nat} (h : SlI W a l) (hg : W.grownBy W' row) (ha : ∀ g o, a = some ⟨g, o, none⟩ → l ≠ [] → some g ≠ row) : SlI W' a l := by
  rcases h with h | ⟨b, off, e, hl, h⟩
  · exact .inl h
  · by_cases hz : l = []
    · exact .inl hz
    · exact .inr ⟨b, off, e, fun hx => Nat.lt_of_lt_of_le (hl hx) hg.size, fun k x hk => (World.cell?_of_block (hg.block b (hl hz) (ha b off e hz))).trans (h k x hk)⟩
theorem SlI.lt' {W : World} {a : Option Addr} {l : List Int} (h : SlI W a l) {g o : Nat} (e : a = some ⟨g, o, none⟩) (hz : l ≠ []) : g < W.heap.size := by
  rcases h with h | ⟨b, off, e2, hl, -⟩
  · exact absurd h hz
  · rw [e] at e2
    cases e2
    exact hl hz
/-- What has been put together so far. -/
structure PaA (R : Int → Int → Prop) (N : List Int) (W1 : World) (v3 v4 : Value) (ps : Pts) (D : List Int) (q : Nat) (W : World) : Prop where
  pts : PtsAt W1.heap.size v3 ps W
  don : IntsO W W1.heap.size v4 D
  eq : ps.map (·.2) = docParts R N (N.take q)
  mem : ∀ y, y ∈ D ↔ ∃ h ∈ N.take q, IsRep R N h ∧ y ∈ cls R N h
  len : D.length ≤ q * N.length
  lps : ps.length ≤ q
  apart : ∀ x ∈ ps, ∀ z, v4.ownBlock = some z → x.1.ownBlock ≠ some z
  gro : Below W1.heap.size W1 W
theorem PaA.below {R : Int → Int → Prop} {N : List Int} {W1 : World} {v3 v4 : Value} {ps : Pts} {D : List Int} {q : Nat} {W W' : World} (h : PaA R N W1 v3 v4 ps D q W) (hb : Below W.heap.size W W') : PaA R N W1 v3 v4 ps D q W' :=
  ⟨h.pts.kept (grown_below hb), h.don.below hb, h.eq, h.mem, h.len, h.lps, h.apart, h.gro.trans (hb.mono h.gro.size)⟩
/-- While one part is laid among those that are done. -/
structure PaD (W1 : World) (v3 v4 v7 : Value) (ps : Pts) (D P : List Int) (wn : World) (j : Nat) (W : World) : Prop where
  pts : PtsAt W1.heap.size v3 ps W
  don : IntsO W W1.heap.size v4 (D ++ P.take j)
  par : IntsO W W1.heap.size v7 P
  apart : ∀ x ∈ ps, ∀ z, v4.ownBlock = some z → x.1.ownBlock ≠ some z
  apart7 : ∀ z, v4.ownBlock = some z → v7.ownBlock ≠ some z
  gro : Below W1.heap.size W1 W
set_option maxHeartbeats 32000000 in
set_option maxRecDepth 100000 in
theorem dparts_any (a a' : Option Addr) (k k' n m : Nat) (N : List Int) (E : List Ed) (hNr : RiseI N) (hn : N.length = n) (hm : E.length = m) (hn5 : n ≤ 300) (hm5 : m ≤ 500) (w : World) (h : SlI w a N) (h' : SlE w a' E) :
    Calls Try.prog 31 #[gval a n k a' m k'] w fun e w' => ∃ v ps, e = .returned v ∧ Hid (PtsAt w.heap.size v ps w' ∧ ps.map (·.2) = partsOf (EdR E) N ∧ Below w.heap.size w w') := by
  obtain ⟨i0, hi, hz0, hz1, hz2⟩ := info_parts elem23
  obtain ⟨W1, hW1, Hb1, hs1, Hx1⟩ := two_any w (.slice a n k) (.slice a' m k') 29
  have HN := Lib.hid (h.gro Hb1.out (Nat.le_refl _))
  have HE := Lib.hid (h'.gro Hb1.out (Nat.le_refl _))
  have Hn := Lib.hid hn
  have Hm := Lib.hid hm
  have HNr := Lib.hid hNr
  have HBox : Hid (∀ W, Below W1.heap.size W1 W → W.cell? ⟨w.heap.size, 0, none⟩ = some (.slice a n k) ∧ W.cell? ⟨w.heap.size, 1, none⟩ = some (.slice a' m k')) := fun W hb => two_at ((hb.block _ hs1.out).trans Hx1.out)
  have Hbw : Hid (Below w.heap.size w W1) := Hb1.out
  have H0 : Hid (PaA (EdR E) N W1 (.slice none 0 0) (.slice none 0 0) [] [] 0 W1) := ⟨pts_nil _ _, intsO_nil _ _, by simp [docParts], fun y => by simp, by simp, by simp, by simp, Below.refl _ _⟩
  clear h h' hn hm hNr
  go_enter Try.func31, Try.ntmps31
  go_wp2
  try go_frame
  go_loopw [3, 4, 5, 6, 7, 8, 9, 10, 11] (fun v3 v4 i _ _ _ _ _ _ wr => ∃ (q : Nat) (ps : Pts) (D : List Int), q ≤ n ∧ i = .int .i64 ((q : Nat) : Int) ∧ Hid (PaA (EdR E) N W1 v3 v4 ps D q wr)) (fun _ _ i _ _ _ _ _ _ _ => n - (intOf i).toNat)
  case atStart => exact ⟨0, [], [], Nat.zero_le _, rfl, H0.out⟩
  case round =>
    obtain ⟨q, ps, D, hq, rfl, HA⟩ := hrel
    obtain ⟨wa, hwa⟩ : ∃ wa, wa = wr := ⟨_, rfl⟩
    subst hwa
    obtain ⟨x0, x1⟩ := HBox.out wa HA.out.gro
    by_cases hlt : q < n
    · have hqo : q < N.length := by rw [Hn.out]; exact hlt
      obtain ⟨b7, o7, rfl, c0⟩ := (HN.out.gro HA.out.gro (Nat.le_refl _)).at hqo
      have hdi := (HA.out.mem (N.getD q 0)).trans (done_iff (R := EdR E) HNr.out hqo)
      have hdn := docParts_next (R := EdR E) hqo
      have Hst := Lib.hid fun h => mfil_start (R := EdR E) HNr.out hqo h
      obtain ⟨p4, c4, rfl, hs4⟩ := HA.out.don.sl
      obtain ⟨dl, hdl⟩ : ∃ dl, D.length = dl := ⟨_, rfl⟩
      have Hdl := Lib.hid hdl
      have hdl5 : dl ≤ 90000 := by
        rw [← hdl]
        refine Nat.le_trans HA.out.len ?_
        calc q * N.length ≤ 300 * 300 := Nat.mul_le_mul (by omega) (by rw [Hn.out]; exact hn5)
          _ = 90000 := rfl
      obtain ⟨x, hx⟩ : ∃ x, N.getD q 0 = x := ⟨_, rfl⟩
      have Hx := Lib.hid hx
      have HI := Lib.hid (in_same p4 c4 dl x hdl (by omega) wa hs4)
      rw [hx] at c0 hdi hdn Hst
      rw [hdl]
      have hqI : (q : Int) < (n : Int) := by omega
      have hq0 : (0 : Int) ≤ (q : Int) := by omega
      have Hlt := Lib.hid hlt
      have Hdn := Lib.hid hdn
      have Hqo := Lib.hid hqo
      by_cases hin : x ∈ D
      · have hnr := hdi.1 hin
        rw [if_neg hnr, List.append_nil] at Hdn
        have HA9 : Hid (PaA (EdR E) N W1 u3 (.slice p4 dl c4) ps D (q + 1) wa) := by
          have h4 := HA.out.don
          rw [hdl] at h4
          have hap := HA.out.apart
          rw [hdl] at hap
          refine ⟨HA.out.pts, h4, by rw [Hdn.out]; exact HA.out.eq, fun y => ?_, Nat.le_trans HA.out.len (Nat.mul_le_mul (by omega) (Nat.le_refl _)), Nat.le_trans HA.out.lps (by omega), hap, HA.out.gro⟩
          rw [HA.out.mem y, take_more hqo]
          constructor
          · rintro ⟨h, h1, h2⟩
            exact ⟨h, List.mem_append_left _ h1, h2⟩
          · rintro ⟨h, h1, h2, h3⟩
            rcases List.mem_append.1 h1 with h1 | h1
            · exact ⟨h, h1, h2, h3⟩
            · rw [List.mem_singleton, hx] at h1
              rw [h1] at h2
              exact absurd h2 hnr
        rw [decide_eq_true hin] at HI
        clear hin hnr hdi hdn hqo hx hs4 hdl
        go_wp2_with (first
          | (go_at_call 55; (with_reducible refine HI.out.mono ?_); rintro e w2 ⟨rfl, rfl⟩)
          | go_in)
        go_roundw
        case rel => exact ⟨q + 1, ps, D, Hlt.out, by go_num, HA9.out⟩
        case measure => simp [intOf]; omega
      · have hrep : IsRep (EdR E) N x := Classical.byContradiction fun h => hin (hdi.2 h)
        have HRep := Lib.hid hrep
        rw [if_pos hrep] at Hdn
        rw [decide_eq_false hin] at HI
        obtain ⟨wn, hwn, Hbn, hsn, Hxn⟩ := obj_any wa (.cells #[iv x] 3)
        have HAn := Lib.hid (HA.out.below Hbn.out)
        obtain ⟨y0, y1⟩ := HBox.out wn HAn.out.gro
        have HRe := Lib.hid (dreach_at (some ⟨b7, o7, none⟩) a' k k' n m E x Hm.out (by omega) wn (HE.out.gro HAn.out.gro (Nat.le_refl _)))
        have HP0 : Hid (IntsO wn wa.heap.size (.slice (some ⟨wa.heap.size, 0, none⟩) 1 1) [x]) := by
          show IntsO _ _ _ _
          rw [← hwn]
          exact intsO_one wa _ (Nat.le_refl _) x
        have Hwan : Hid (wa.heap.size ≤ wn.heap.size) := Hbn.out.size
        have Hba : Hid (Below wa.heap.size wa wn) := Hbn.out
        have Hsn : Hid (wa.heap.size < wn.heap.size) := hsn.out
        clear hin hrep hdi hdn hqo hx hs4 hdl
        go_wp2_with (first
          | (go_at_call 55; (with_reducible refine HI.out.mono ?_); rintro e w2 ⟨rfl, rfl⟩)
          | (go_at_call 25; (with_reducible refine HRe.out.mono ?_); rintro e w3 ⟨p8, c8, r, rfl, K3⟩)
          | go_in)
        have Hb3 : Hid (Below wa.heap.size wa w3) := Hba.out.trans (K3.out.2.2.2.2.1.mono Hba.out.size)
        have HP3 : Hid (IntsO w3 wa.heap.size (.slice (some ⟨wa.heap.size, 0, none⟩) 1 1) (mfil (EdR E) N x (q + 1))) := by
          rw [Hst.out HRep.out]
          exact HP0.out.below K3.out.2.2.2.2.1
        try go_frame
        go_loopw [7, 9, 10] (fun v7 v9 _ wr => ∃ kk : Nat, q + 1 ≤ kk ∧ kk ≤ n ∧ v9 = .int .i64 ((kk : Nat) : Int) ∧ Hid (IntsO wr wa.heap.size v7 (mfil (EdR E) N x kk) ∧ Below wa.heap.size wa wr ∧ SlI wr p8 r ∧ ∀ z, v7.ownBlock = some z → ∀ g o, p8 = some ⟨g, o, none⟩ → r ≠ [] → g ≠ z)) (fun _ v9 _ _ => n - (intOf v9).toNat)
        case atStart => exact ⟨q + 1, Nat.le_refl _, Hlt.out, by go_num, HP3.out, Hb3.out, K3.out.1, fun z hz g o e _ => by
          have h1 := K3.out.2.2.2.2.2 g o e
          have h2 : z = wa.heap.size := by simpa [Value.ownBlock] using hz.symm
          have h3 := Hsn.out
          omega⟩
        case round =>
          obtain ⟨kk, hk1, hk2, rfl, HK⟩ := hrel
          obtain ⟨wc, hwc⟩ : ∃ wc, wc = wr := ⟨_, rfl⟩
          subst hwc
          have HWc : Hid (Below W1.heap.size W1 wc) := HA.out.gro.trans (HK.out.2.1.mono HA.out.gro.size)
          obtain ⟨z0, z1⟩ := HBox.out wc HWc.out
          obtain ⟨p7, c7, rfl, -⟩ := HK.out.1.sl
          by_cases hlt2 : kk < n
          · have hko : kk < N.length := by rw [Hn.out]; exact hlt2
            have c1 := (HN.out.gro HWc.out (Nat.le_refl _)).cell1 hko rfl
            have hne := rise_ne HNr.out (q := q) (k := kk) (by omega) hko
            rw [Hx.out] at hne
            have hmn := mfil_next (R := EdR E) (x := x) hko
            have HI1 := Lib.hid (in_same p8 c8 _ (N.getD kk 0) rfl (by have := K3.out.2.2.1; omega) wc HK.out.2.2.1)
            have hmem := K3.out.2.2.2.1 (N.getD kk 0)
            obtain ⟨y, hy⟩ : ∃ y, N.getD kk 0 = y := ⟨_, rfl⟩
            rw [hy] at c1 hne hmn HI1 hmem
            have hmu := mutual_iff (R := EdR E) hne
            obtain ⟨ml, hml⟩ : ∃ ml, (mfil (EdR E) N x kk).length = ml := ⟨_, rfl⟩
            have Hml := Lib.hid hml
            have hml5 : ml ≤ 1000000 := by rw [← hml]; have := mfil_len (R := EdR E) (N := N) x kk; have := Hn.out; omega
            have HRy := Lib.hid (dreach_any (some ⟨b7, o7, none⟩) a' k k' n m E y Hm.out (by omega) wc (HE.out.gro HWc.out (Nat.le_refl _)))
            have Hmn := Lib.hid hmn
            have Hmu := Lib.hid hmu
            have hkI : (kk : Int) < (n : Int) := by omega
            have hk0 : (0 : Int) ≤ (kk : Int) := by omega
            have Hlt2 := Lib.hid hlt2
            rw [hml]
            by_cases h1 : y ∈ r
            · have Ht1 := Lib.hid (hmem.1 h1)
              rw [decide_eq_true h1] at HI1
              by_cases h2 : TCR (EdR E) y x
              · have hM := Hmu.out.2 ⟨Ht1.out, h2⟩
                rw [if_pos hM] at Hmn
                have HT2 := Lib.hid h2
                have HP := Lib.hid HK.out.1
                rw [hml] at HP
                have hlo : (mfil (EdR E) N x kk).length ≤ 1000000 := by omega
                have Hapw : Hid (∀ z, (Value.slice p7 ml c7).ownBlock = some z → ∀ g o, p8 = some ⟨g, o, none⟩ → r ≠ [] → g ≠ z) := by
                  have h3 := HK.out.2.2.2
                  rw [hml] at h3
                  exact h3
                clear h1 h2 hM hmu hmem hmn hne hko hy hml
                go_wp2_with (first
                  | (go_at_call 55; first
                      | ((with_reducible refine HI1.out.mono ?_); rintro e w4 ⟨rfl, rfl⟩)
                      | ((with_reducible refine HI2.out.mono ?_); rintro e w6 ⟨rfl, K6⟩
                         have HB6 : Hid (Below wc.heap.size wc w6) := K5.out.2.2.2.2.trans (K6.out.mono K5.out.2.2.2.2.size)
                         have HP6 := Lib.hid (HP.out.below HB6.out)
                         have HW6 : Hid (Below wa.heap.size wa w6) := HK.out.2.1.trans (HB6.out.mono HK.out.2.1.size)))
                  | (go_at_call 25; (with_reducible refine HRy.out.mono ?_); rintro e w5 ⟨p5, c5, r5, rfl, K5⟩
                     have HI2 := Lib.hid (in_n p5 c5 _ x rfl (by have := K5.out.2.2.1; omega) w5 K5.out.1)
                     rw [decide_eq_true ((K5.out.2.2.2.1 x).2 HT2.out)] at HI2)
                  | (at_builtin; refine wpList_append_o rfl _ _ rfl wa.heap.size (.slice p7 ml c7) (mfil (EdR E) N x kk) y rfl (HP6.out.alloc _) ⟨w6.heap.size, 0, none⟩ 1 rfl (news_new w6 #[iv y] 3) hlo (by have := HW6.out.size; simp; omega) ?_
                     intro v9 w9 hf9 hg9 hl9
                     have HK9 : Hid (IntsO w9 wa.heap.size v9 (mfil (EdR E) N x (kk + 1)) ∧ Below wa.heap.size wa w9) := ⟨by rw [Hmn.out]; exact hf9, (HW6.out.alloc HW6.out.size _).grown hg9 (by have := HW6.out.size; simp; omega) (fun r e => (HP6.out.lt e).1)⟩
                     have HR9 : Hid (SlI w9 p8 r ∧ ∀ z, v9.ownBlock = some z → ∀ g o, p8 = some ⟨g, o, none⟩ → r ≠ [] → g ≠ z) := by
                       have h6 := HK.out.2.2.1.gro HB6.out (Nat.le_refl _)
                       have hA := World.grownBy_alloc w6 (.cells #[iv y] 3) none
                       refine ⟨(h6.below hA).beside hg9 (fun g o e hz e2 => Hapw.out g e2.symm g o e hz rfl), fun z hz g o e hr => ?_⟩
                       rcases hl9 z hz with h3 | h3
                       · exact Hapw.out z h3 g o e hr
                       · have h4 := h6.lt' e hr
                         simp at h3
                         omega
                     clear hf9 hg9 hl9)
                  | go_in)
                go_roundw
                case rel => exact ⟨kk + 1, by omega, Hlt2.out, by go_num, HK9.out.1, HK9.out.2, HR9.out.1, HR9.out.2⟩
                case measure => simp [intOf]; omega
              · have hM : ¬ Mutual (EdR E) x y := fun h => h2 (Hmu.out.1 h).2
                rw [if_neg hM, List.append_nil] at Hmn
                have HT2 := Lib.hid h2
                have HP := Lib.hid HK.out.1
                rw [hml] at HP
                have Hapw : Hid (∀ z, (Value.slice p7 ml c7).ownBlock = some z → ∀ g o, p8 = some ⟨g, o, none⟩ → r ≠ [] → g ≠ z) := by
                  have h3 := HK.out.2.2.2
                  rw [hml] at h3
                  exact h3
                clear h1 h2 hM hmu hmem hmn hne hko hy hml
                go_wp2_with (first
                  | (go_at_call 55; first
                      | ((with_reducible refine HI1.out.mono ?_); rintro e w4 ⟨rfl, rfl⟩)
                      | ((with_reducible refine HI2.out.mono ?_); rintro e w6 ⟨rfl, K6⟩
                         have HB6 : Hid (Below wc.heap.size wc w6) := K5.out.2.2.2.2.trans (K6.out.mono K5.out.2.2.2.2.size)))
                  | (go_at_call 25; (with_reducible refine HRy.out.mono ?_); rintro e w5 ⟨p5, c5, r5, rfl, K5⟩
                     have HI2 := Lib.hid (in_n p5 c5 _ x rfl (by have := K5.out.2.2.1; omega) w5 K5.out.1)
                     rw [decide_eq_false (fun h => HT2.out ((K5.out.2.2.2.1 x).1 h))] at HI2)
                  | go_in)
                go_roundw
                case rel => exact ⟨kk + 1, by omega, Hlt2.out, by go_num, by rw [Hmn.out]; exact HP.out.below HB6.out, HK.out.2.1.trans (HB6.out.mono HK.out.2.1.size), HK.out.2.2.1.gro HB6.out (Nat.le_refl _), Hapw.out⟩
                case measure => simp [intOf]; omega
            · have hM : ¬ Mutual (EdR E) x y := fun h => h1 (hmem.2 (Hmu.out.1 h).1)
              rw [if_neg hM, List.append_nil] at Hmn
              rw [decide_eq_false h1] at HI1
              have HP := Lib.hid HK.out.1
              rw [hml] at HP
              have Hapw : Hid (∀ z, (Value.slice p7 ml c7).ownBlock = some z → ∀ g o, p8 = some ⟨g, o, none⟩ → r ≠ [] → g ≠ z) := by
                have h3 := HK.out.2.2.2
                rw [hml] at h3
                exact h3
              clear h1 hM hmu hmem hmn hne hko hy hml
              go_wp2_with (first
                | (go_at_call 55; (with_reducible refine HI1.out.mono ?_); rintro e w4 ⟨rfl, rfl⟩)
                | go_in)
              go_roundw
              case rel => exact ⟨kk + 1, by omega, Hlt2.out, by go_num, by rw [Hmn.out]; exact HP.out, HK.out.2.1, HK.out.2.2.1, Hapw.out⟩
              case measure => simp [intOf]; omega
          · have hkn : n = kk := by omega
            subst hkn
            have HP : Hid (IntsO wc wa.heap.size (.slice p7 (mfil (EdR E) N x n).length c7) (mfil (EdR E) N x n)) := HK.out.1
            rw [mfil_all Hn.out] at HP ⊢
            obtain ⟨P, hP⟩ : ∃ P, cls (EdR E) N x = P := ⟨_, rfl⟩
            have HPe := Lib.hid hP
            rw [hP] at HP Hdn ⊢
            obtain ⟨pl, hpl⟩ : ∃ pl, P.length = pl := ⟨_, rfl⟩
            have Hpl := Lib.hid hpl
            have hpl5 : pl ≤ 300 := by
              rw [← hpl, ← hP]
              have h1 : (cls (EdR E) N x).length ≤ N.length := List.length_filter_le _ _
              have := Hn.out
              omega
            rw [hpl] at HP ⊢
            have HAc := Lib.hid (HA.out.below HK.out.2.1)
            have H4 : Hid (IntsO wc W1.heap.size (.slice p4 dl c4) D) := by
              have h1 := HAc.out.don
              rw [Hdl.out] at h1
              exact h1
            have HD0 : Hid (PaD W1 u3 (.slice p4 dl c4) (.slice p7 pl c7) ps D P wn 0 wc) := by
              refine ⟨HAc.out.pts, by rw [List.take_zero, List.append_nil]; exact H4.out, HP.out.low HA.out.gro.size, ?_, fun z h1 h2 => ?_, HWc.out⟩
              · have h1 := HA.out.apart
                rw [Hdl.out] at h1
                exact h1
              · have h3 := (HP.out.lt h2).1
                have h4 := HA.out.don
                rw [Hdl.out] at h4
                have h5 := (h4.lt h1).2
                omega
            clear hP hpl
            go_wp2
            try go_frame
            go_loopw [4, 11] (fun v4 v11 wr => ∃ j : Nat, j ≤ pl ∧ v11 = .int .i64 ((j : Nat) : Int) ∧ Hid (PaD W1 u3 v4 (.slice p7 pl c7) ps D P wn j wr)) (fun _ v11 _ => pl - (intOf v11).toNat)
            case atStart => exact ⟨0, Nat.zero_le _, rfl, HD0.out⟩
            case round =>
              obtain ⟨j, hj, rfl, HD⟩ := hrel
              obtain ⟨wd, hwd⟩ : ∃ wd, wd = wr := ⟨_, rfl⟩
              subst hwd
              by_cases hltj : j < pl
              · have hjo : j < P.length := by rw [Hpl.out]; exact hltj
                obtain ⟨b9, o9, rfl, d0⟩ := HD.out.par.slw.at hjo
                have htk := take_more (N := P) hjo
                obtain ⟨y, hy⟩ : ∃ y, P.getD j 0 = y := ⟨_, rfl⟩
                rw [hy] at d0 htk
                have Htk := Lib.hid htk
                have hlo : (D ++ P.take j).length ≤ 1000000 := by
                  rw [List.length_append, List.length_take, Hdl.out]
                  omega
                obtain ⟨p5, c5, e5, -⟩ := HD.out.don.sl
                have hjI : (j : Int) < (pl : Int) := by omega
                have hj0 : (0 : Int) ≤ (j : Int) := by omega
                have Hltj := Lib.hid hltj
                have HDo := Lib.hid HD.out.don
                have HDg := Lib.hid HD.out.gro
                have HDpt : Hid (∀ w', (wd.alloc (.cells #[iv y] 3)).grownBy w' u4.ownBlock → PtsAt W1.heap.size u3 ps w') := fun w' hg => by
                  have h1 := HD.out.pts.kept (World.grownBy_alloc wd (.cells #[iv y] 3) none)
                  exact h1.off (Z := fun q => u4.ownBlock = some q) (Off.grown hg fun k e => .inl e) (fun q h2 h3 => HD.out.pts.apart HD.out.don q h2 h3) (fun x hx q h2 h3 => HD.out.apart x hx q h3 h2)
                have HDpa : Hid (∀ w', (wd.alloc (.cells #[iv y] 3)).grownBy w' u4.ownBlock → IntsO w' W1.heap.size (.slice (some ⟨b9, o9, none⟩) pl c7) P) := fun w' hg => (HD.out.par.alloc _).beside hg HD.out.apart7
                have HDa : Hid (∀ v6 : Value, (∀ z, v6.ownBlock = some z → u4.ownBlock = some z ∨ (wd.alloc (.cells #[iv y] 3)).heap.size ≤ z) → (∀ x ∈ ps, ∀ z, v6.ownBlock = some z → x.1.ownBlock ≠ some z) ∧ ∀ z, v6.ownBlock = some z → (Value.slice (some ⟨b9, o9, none⟩) pl c7).ownBlock ≠ some z) := fun v6 hl => by
                  refine ⟨fun x hx z h1 h2 => ?_, fun z h1 h2 => ?_⟩
                  · rcases hl z h1 with h3 | h3
                    · exact HD.out.apart x hx z h3 h2
                    · have h4 := ((HD.out.pts.each x hx).lt h2).2
                      simp at h3
                      omega
                  · rcases hl z h1 with h3 | h3
                    · exact HD.out.apart7 z h3 h2
                    · have h4 := (HD.out.par.lt h2).2
                      simp at h3
                      omega
                subst e5
                clear hjo htk hy
                go_wp2_with (first
                  | (at_builtin; refine wpList_append_o rfl _ _ rfl W1.heap.size _ (D ++ P.take j) y rfl (HDo.out.alloc _) ⟨wd.heap.size, 0, none⟩ 1 rfl (news_new wd #[iv y] 3) hlo (by have := HDg.out.size; simp; omega) ?_
                     intro v6 w6 hf6 hg6 hl6
                     have HD9 : Hid (PaD W1 u3 v6 (.slice (some ⟨b9, o9, none⟩) pl c7) ps D P wn (j + 1) w6) := by
                       obtain ⟨h1, h2⟩ := HDa.out v6 hl6
                       exact ⟨HDpt.out w6 hg6, by rw [Htk.out, ← List.append_assoc]; exact hf6, HDpa.out w6 hg6, h1, h2, (HDg.out.alloc HDg.out.size _).grown hg6 (by have := HDg.out.size; simp; omega) (fun r e => (HDo.out.lt e).1)⟩
                     clear hf6 hg6 hl6)
                  | go_in)
                go_roundw
                case rel => exact ⟨j + 1, Hltj.out, by go_num, HD9.out⟩
                case measure => simp [intOf]; omega
              · have hjp : pl = j := by omega
                subst hjp
                have hPt : P.take pl = P := List.take_of_length_le (by rw [Hpl.out]; exact Nat.le_refl _)
                have HDon : Hid (IntsO wd W1.heap.size u4 (D ++ P)) := by
                  have h1 := HD.out.don
                  rw [hPt] at h1
                  exact h1
                have HPts := Lib.hid HD.out.pts
                have HPar := Lib.hid HD.out.par
                have HDg := Lib.hid HD.out.gro
                have Hap := Lib.hid HD.out.apart
                have Hap7 := Lib.hid HD.out.apart7
                have hps : ps.length ≤ 300 := by have := HAc.out.lps; omega
                obtain ⟨pv, cv, e3⟩ := row_sl HPts.out.row
                have HApack : Hid (∀ (v9 : Value) (w9 : World), w9.ownsRow W1.heap.size 23 1 v9 (ps.length + 1) (ps.map (·.1) ++ [.slice p7 pl c7]) → (wd.alloc (.cells #[.slice p7 pl c7] 23)).grownBy w9 u3.ownBlock → PaA (EdR E) N W1 v9 u4 (ps ++ [(.slice p7 pl c7, P)]) (D ++ P) (q + 1) w9) := fun v9 w9 hown hgrow => by
                  refine ⟨⟨by rw [List.length_append, List.map_append]; exact hown, fun x hx => ?_⟩, (HDon.out.alloc _).beside hgrow (fun q e => HPts.out.apart HDon.out q e), by rw [List.map_append, HA.out.eq, Hdn.out]; rfl, fun y => ?_, ?_, ?_, fun x hx z hz => ?_, ?_⟩
                  · rcases List.mem_append.1 hx with hx | hx
                    · exact ((HPts.out.each x hx).alloc _).beside hgrow (fun q e => HPts.out.apart (HPts.out.each x hx) q e)
                    · rw [List.mem_singleton] at hx
                      subst hx
                      exact (HPar.out.alloc _).beside hgrow (fun q e => HPts.out.apart HPar.out q e)
                  · rw [List.mem_append, HA.out.mem y, take_more Hqo.out, ← HPe.out]
                    constructor
                    · rintro (⟨h, h1, h2⟩ | h1)
                      · exact ⟨h, List.mem_append_left _ h1, h2⟩
                      · exact ⟨x, List.mem_append_right _ (by rw [Hx.out]; simp), HRep.out, h1⟩
                    · rintro ⟨h, h1, h2, h3⟩
                      rcases List.mem_append.1 h1 with h1 | h1
                      · exact .inl ⟨h, h1, h2, h3⟩
                      · rw [List.mem_singleton, Hx.out] at h1
                        rw [h1] at h3
                        exact .inr h3
                  · rw [List.length_append, Nat.succ_mul]
                    have h1 := HA.out.len
                    have h2 : P.length ≤ N.length := by rw [← HPe.out]; exact List.length_filter_le _ _
                    omega
                  · rw [List.length_append, List.length_singleton]
                    have := HA.out.lps
                    omega
                  · rcases List.mem_append.1 hx with hx | hx
                    · exact Hap.out x hx z hz
                    · rw [List.mem_singleton] at hx
                      subst hx
                      exact Hap7.out z hz
                  · exact (HDg.out.alloc HDg.out.size _).grown hgrow (by have := HDg.out.size; simp; omega) (fun r e => (HPts.out.row.lt r e).1)
                subst e3
                clear hPt
                go_wp2_with (first
                  | (at_builtin; refine wpList_append_own _ rfl _ _ 46 rfl W1.heap.size 23 i0 (.slice none 0 0) 1 24 Try.underlying46 hi hz0 hz1 hz2 rfl (by decide) (.slice pv ps.length cv) ps.length (ps.map (·.1)) rfl (HPts.out.row.alloc _) ⟨wd.heap.size, 0, none⟩ 1 1 [.slice p7 pl c7] rfl rfl (news_new wd #[.slice p7 pl c7] 23) (by intro u hu; simp at hu; subst hu; rfl) (by unfold maxLen; omega) (by omega) (by have := HDg.out.size; simp; omega) ?_
                     intro v9 w9 hown hgrow hnil
                     have HA9 := Lib.hid (HApack.out v9 w9 hown hgrow)
                     clear hown hgrow hnil)
                  | go_in)
                go_roundw
                case rel => exact ⟨q + 1, ps ++ [(.slice p7 pl c7, P)], D ++ P, Hlt.out, by go_num, HA9⟩
                case measure => simp [intOf]; omega
    · have hqn : n = q := by omega
      subst hqn
      have hNt : N.take n = N := List.take_of_length_le (by rw [Hn.out]; exact Nat.le_refl _)
      have HQ := Lib.hid (show PtsAt w.heap.size u3 ps wa ∧ ps.map (·.2) = partsOf (EdR E) N ∧ Below w.heap.size w wa from ⟨HA.out.pts.low Hbw.out.size, by rw [HA.out.eq, hNt, docParts_eq]; rfl, Hbw.out.trans (HA.out.gro.mono Hbw.out.size)⟩)
      clear hNt
      go_wp2
      go_ret
      exact ⟨_, ps, rfl, HQ.out⟩
end Go.Proofs.Ythgkloapnihpaaa
