/- GraphMaps: the walk. -/
import Derived.Test.YthgkloapnihpaaaGreatUw
namespace Go.Proofs.YthgkloapnihpaaaGreat
open Go.RowKit Go.Maps Go.WideMaps Go.WideElems Go.ChangeShapes Go.WideShapes

theorem below_off {Z : Nat → Prop} {B : Nat} {W W' : World} (h : Off Z W W') (hz : ∀ q, Z q → B ≤ q) (hB : B ≤ W.heap.size) : Below B W W' :=
  ⟨h.os, h.tape, h.output, h.size, fun q hq => h.block q (Nat.lt_of_lt_of_le hq hB) fun e => by have := hz q e; omega⟩
theorem less_fin : ∀ u v : Fin 8, u < v → Op.bytesLess (S.lb (u.val : Int)).toList (S.lb (v.val : Int)).toList = true := by decide +kernel
theorem less_lb {z x : Int} (hz : S.fitS z) (hx : S.fitS x) (h : z < x) : Op.bytesLess (S.lb z).toList (S.lb x).toList = true := by
  unfold S.fitS at hz hx
  have h1 := less_fin ⟨z.toNat, by omega⟩ ⟨x.toNat, by omega⟩ (by show z.toNat < x.toNat; omega)
  have e1 : ((z.toNat : Nat) : Int) = z := by omega
  have e2 : ((x.toNat : Nat) : Int) = x := by omega
  simp only [e1, e2] at h1
  exact h1
/-- What is known when both maps' sources lie ready. -/
structure MapsAt (hb yb bx g c m c2 n mm : Nat) (y : Int) (va : Value) (N : List Int) (E : List Ed) (N2 : List Int) (E2 : List Ed) (a : Option Addr) (k : Nat) (a' : Option Addr) (k' : Nat) (W : World) : Prop where
  dg : DgAt W a a' N E
  box : W.heap[hb]? = some (.cells #[.slice a n k, .slice a' mm k'] 28)
  ybox : W.heap[yb]? = some (.cells #[iv y] 3)
  gr : Gr g c N E W
  gm : Gr m c2 N2 E2 W
  ask : Ask bx va N W
  lt : bx < W.heap.size
theorem MapsAt.off {hb yb bx g c m c2 n mm : Nat} {y : Int} {va : Value} {N : List Int} {E : List Ed} {N2 : List Int} {E2 : List Ed} {a : Option Addr} {k : Nat} {a' : Option Addr} {k' : Nat} {W W' : World} (h : MapsAt hb yb bx g c m c2 n mm y va N E N2 E2 a k a' k' W) (ho : Off (fun q => W.heap.size ≤ q) W W') : MapsAt hb yb bx g c m c2 n mm y va N E N2 E2 a k a' k' W' := by
  have hB : Below W.heap.size W W' := below_off ho (fun q e => e) (Nat.le_refl _)
  exact ⟨h.dg.below hB, (hB.block _ (Array.getElem?_eq_some_iff.1 h.box).1).trans h.box, (hB.block _ (Array.getElem?_eq_some_iff.1 h.ybox).1).trans h.ybox, h.gr.below hB, h.gm.below hB, ⟨(hB.block _ (Array.getElem?_eq_some_iff.1 h.ask.box).1).trans h.ask.box, h.ask.row.below hB⟩, Nat.lt_of_lt_of_le h.lt hB.size⟩
set_option maxHeartbeats 64000000 in
set_option maxRecDepth 100000 in
theorem maps_few (ea : Option Addr) (ce : Nat) (es : List Ed) (na : Option Addr) (cn : Nat) (ns : List Int) (A : Int) (hes : es.length ≤ 40) (hns : ns.length ≤ 40) (hef : ∀ e ∈ es, fit64 e.1 ∧ fit64 e.2.1 ∧ fit64 e.2.2) (hnf : ∀ x ∈ ns, fit64 x) (w : World) (hE : SlE w ea es) (hN : SlI w na ns) :
    Calls Tryz.prog 3 #[.slice ea es.length ce, .slice na ns.length cn, iv A] w fun e w' => e = .returned (.bool true) ∧ Hid (Below w.heap.size w w') := by
  obtain ⟨W0, hW0, Hb0, hs0, Hx0⟩ := obj_any w (.cells #[iv A] 3)
  have HF := Lib.hid (first_any W0)
  have HM := Lib.hid fun (W : World) (hb : Below W0.heap.size W0 W) => made_any ea ce es na cn ns (by omega) (by omega) hef hnf W ((hE.gro Hb0.out (Nat.le_refl _)).gro hb (Nat.le_refl _)) ((hN.gro Hb0.out (Nat.le_refl _)).gro hb (Nat.le_refl _))
  obtain ⟨ne, hne⟩ : ∃ ne, es.length = ne := ⟨_, rfl⟩
  obtain ⟨nn, hnn⟩ : ∃ nn, ns.length = nn := ⟨_, rfl⟩
  have hkk : ∀ e ∈ edgesUp es, fit64 e.2.2 := fun e he => (hef e (mem_edgesUp.1 he)).2.2
  obtain ⟨N, hNe⟩ : ∃ N, nodesOf es ns = N := ⟨_, rfl⟩
  obtain ⟨E, hEe⟩ : ∃ E, edgesUp es = E := ⟨_, rfl⟩
  have hNl : N.length ≤ 120 := by rw [← hNe]; exact Nat.le_trans (nodesOf_len _ _) (by omega)
  have hEl : E.length ≤ 40 := by rw [← hEe]; exact Nat.le_trans (edgesUp_len _) (by omega)
  rw [hNe, hEe] at HM
  rw [hEe] at hkk
  rw [hne, hnn] at HM ⊢
  rw [hne] at hes
  rw [hnn] at hns
  have HNl := Lib.hid hNl
  have HEl := Lib.hid hEl
  have Hkk := Lib.hid hkk
  have hg1 : ¬ (40 : Int) < (ne : Int) := by omega
  have hg2 : ¬ (40 : Int) < (nn : Int) := by omega
  obtain ⟨n, hn⟩ : ∃ n, N.length = n := ⟨_, rfl⟩
  obtain ⟨m, hm⟩ : ∃ m, E.length = m := ⟨_, rfl⟩
  have Hn := Lib.hid hn
  rw [hn, hm] at HM
  have Hm := Lib.hid hm
  have hn5 : n ≤ 120 := by omega
  have hm5 : m ≤ 40 := by omega
  have ha7 := and7 A
  have hv0 : (0 : Int) ≤ A % 8 := by omega
  have hv8 : A % 8 < 8 := by omega
  obtain ⟨v, hv⟩ : ∃ v, A % 8 = v := ⟨_, rfl⟩
  rw [hv] at ha7 hv0 hv8
  obtain ⟨y, hy⟩ : ∃ y, v + 1 = y := ⟨_, rfl⟩
  have Hy : Hid (1 ≤ y ∧ y ≤ 8) := ⟨by omega, by omega⟩
  have Hws : Hid (w.heap.size < W0.heap.size) := hs0.out
  clear hE hN hef hnf hnn hne hNe hEe hNl hEl hn hm hkk hv
  go_enter Tryz.func3, Tryz.ntmps3
  go_wp2_with (first
    | (go_at_call 4; (with_reducible refine HF.out.mono ?_); rintro e w1 ⟨rfl, K1⟩
       have HM1 := Lib.hid (HM.out w1 K1.out))
    | (go_at_call 5; (with_reducible refine HM1.out.mono ?_); rintro e w2 ⟨g, c, a, k, a', k', rfl, K2⟩
       obtain ⟨W3, hW3, Hb3, hs3, Hx3⟩ := obj_any w2 (.cells #[.slice a n k, .slice a' m k'] 28)
       have HB3 : Hid (Below W0.heap.size W0 W3) := K1.out.trans ((K2.out.2.2.trans (Hb3.out.mono K2.out.2.2.size)).mono K1.out.size)
       have hY3 : W3.heap[w.heap.size]? = some (.cells #[iv A] 3) := (HB3.out.block _ Hws.out).trans Hx0.out
       have y0 : W3.cell? ⟨w.heap.size, 0, none⟩ = some (iv A) := (cell_of_row _ _ 0 _ _ _ hY3).trans rfl
       have y1 : W3.frozen? ⟨w.heap.size, 0, none⟩ = false := frozen_of_row _ _ 0 _ _ hY3
       obtain ⟨W4, hW4⟩ : ∃ X, W3.setCell ⟨w.heap.size, 0, none⟩ (iv y) = X := ⟨_, rfl⟩
       have HY4 : Hid (W4.heap[w.heap.size]? = some (.cells #[iv y] 3)) := by show _ = _; rw [← hW4]; exact heap_setCell_same W3 _ 0 _ _ _ hY3
       have HO4 : Hid (Off (fun q => q = w.heap.size) W3 W4) := by
         show Off _ _ _
         rw [← hW4]
         exact ⟨((Below.refl 0 W3).setCell (p := ⟨w.heap.size, 0, none⟩) (Nat.zero_le _) _).os, ((Below.refl 0 W3).setCell (p := ⟨w.heap.size, 0, none⟩) (Nat.zero_le _) _).tape, ((Below.refl 0 W3).setCell (p := ⟨w.heap.size, 0, none⟩) (Nat.zero_le _) _).output, by rw [setCell_size]; exact Nat.le_refl _, fun q _ hq => setCell_far hq⟩
       obtain ⟨W5, hW5, Hb5, hs5, Hx5⟩ := obj_any W4 (.cells #[.slice none 0 0] 23)
       have hc : c ≤ 100000 := by have := K2.out.1; omega
       have HW45 : Hid (W3.heap.size = W4.heap.size) := by show _ = _; rw [← hW4, setCell_size]
       obtain ⟨Z0, B0, hB0, hg0, hz0, hza, hze⟩ := K2.out.2.1.gr
       have hg3 := hg0.below Hb3.out
       have hsz0 : w.heap.size < w1.heap.size := Nat.lt_of_lt_of_le Hws.out K1.out.size
       have hgy : w.heap.size ≠ g := by
         intro e
         obtain ⟨u, hu⟩ := GrAt.boxed hg3
         rw [← e, hY3] at hu
         cases hu
       have hg4 : GrAt Z0 B0 g c N E W4 := K.grAt_off hg3 HO4.out (fun q e => ⟨fun e2 => hgy (e.symm.trans e2), fun hq => by have := (hz0 q hq).1; omega⟩)
       have hg5 := hg4.below Hb5.out
       have hgl : g < W4.heap.size := (Array.getElem?_eq_some_iff.1 (GrAt.boxed hg4).choose_spec).1
       have hDg4 : DgAt W4 a a' N E := dgAt_off (K2.out.2.1.dg.below Hb3.out) HO4.out (fun q o e e2 => by have := K2.out.2.1.apN q o e; omega) (fun q o e e2 => by have := K2.out.2.1.apE q o e; omega)
       have HDgo : Hid (∀ W', Off (fun q => q = W4.heap.size) W5 W' → DgAt W' a a' N E) := fun W' ho => dgAt_off (hDg4.below Hb5.out) ho (fun q o e e2 => by have := hDg4.ltN e; omega) (fun q o e e2 => by have := hDg4.ltE e; omega)
       have HY5 : Hid (W5.heap[w.heap.size]? = some (.cells #[iv y] 3)) := (Hb5.out.block _ (Array.getElem?_eq_some_iff.1 HY4.out).1).trans HY4.out
       have HX5 : Hid (W5.heap[w2.heap.size]? = some (.cells #[.slice a n k, .slice a' m k'] 28)) := (Hb5.out.block _ (by rw [← HW45.out]; exact hs3.out)).trans ((HO4.out.block _ hs3.out (by have := K2.out.2.2.size; omega)).trans Hx3.out)
       have HGo : Hid (∀ W', Off (fun q => q = W4.heap.size) W5 W' → Gr g c N E W') := fun W' ho => ⟨Z0, B0, K.grAt_off hg5 ho (fun q e => ⟨by omega, fun hq => by have := (hz0 _ hq).2; have h5 := hs3.out; have h6 := HW45.out; omega⟩)⟩
       have HBw5 : Hid (Below w.heap.size w W5) := by
         have h1 : Below w.heap.size w W3 := Hb0.out.trans (HB3.out.mono (Nat.le_of_lt Hws.out))
         have h2 : Below w.heap.size W3 W4 := below_off HO4.out (fun q e => Nat.le_of_eq e.symm) h1.size
         exact (h1.trans h2).trans (Hb5.out.mono (h1.trans h2).size)
       have HMp : Hid (∃ R : Ending → World → Prop, Calls Tryz.prog 6 #[.pointer (some ⟨g, 0, none⟩), .func (.func 7) #[] #[.pointer (some ⟨W4.heap.size, 0, none⟩), .pointer (some ⟨w.heap.size, 0, none⟩)]] W5 R ∧ ∀ e w', R e w' → ∃ g2 c2 va, e = .returned (.pointer (some ⟨g2, 0, none⟩)) ∧ Hid (c2 ≤ 240 ∧ Gr g2 c2 (mapN (tq y) N) (mapE (tq y) E) w' ∧ Ask W4.heap.size va N w' ∧ Off (fun q => q = W4.heap.size) W5 w')) := by
         refine ⟨_, map_ask y Hy.out.1 W4.heap.size w.heap.size hc (by have := HNl.out; omega) (by have := HEl.out; omega) Hkk.out W5 hg5 ⟨Hx5.out, intsO_nil _ _⟩ HY5.out (by have := HBw5.out.size; have := (Array.getElem?_eq_some_iff.1 HY4.out).1; omega) (by omega) (fun hq => by have := (hz0 _ hq).2; have h5 := hs3.out; have h6 := HW45.out; omega), ?_⟩
         rintro e w' ⟨g2, Z2, B2, c2, va, rfl, K⟩
         obtain ⟨k1, k2, k3, k4, k5, k6, k7⟩ := K.out
         exact ⟨g2, c2, va, rfl, by have := HNl.out; have := HEl.out; omega, ⟨Z2, B2, k3⟩, k5, k7⟩
       have HbxA : Hid (w2.heap.size < W4.heap.size ∧ w.heap.size < W4.heap.size) := ⟨by rw [← HW45.out]; exact hs3.out, (Array.getElem?_eq_some_iff.1 HY4.out).1⟩
       clear hDg4 hY3 hB0 hg0 hz0 hza hze hg3 hg4 hg5 hgl hgy hsz0 HY4 HO4 Hb5 Hx5 HB3 Hb3 Hx3)
    | (go_at_call 6; obtain ⟨R, hR1, hR2⟩ := HMp.out; (with_reducible refine hR1.mono ?_); intro e w6 hR; obtain ⟨m2, c2, va, rfl, K6⟩ := hR2 e w6 hR
       have HMA : Hid (MapsAt w2.heap.size w.heap.size W4.heap.size g c m2 c2 n m y va N E (mapN (tq y) N) (mapE (tq y) E) a k a' k' w6) := by
         have hO := K6.out.2.2.2
         have hb6 : Below W4.heap.size W5 w6 := below_off hO (fun q e => Nat.le_of_eq e.symm) (Nat.le_of_lt hs5.out)
         exact ⟨HDgo.out w6 hO, (hb6.block _ HbxA.out.1).trans HX5.out, (hb6.block _ HbxA.out.2).trans HY5.out, HGo.out w6 hO, K6.out.2.1, K6.out.2.2.1, (Array.getElem?_eq_some_iff.1 K6.out.2.2.1.box).1⟩
       obtain ⟨W7, hW7, Hb7, hs7, Hx7⟩ := obj_any w6 (.cells #[.slice none 0 0, .slice none 0 0] 28)
       have HBw6 : Hid (Below w.heap.size w w6) := HBw5.out.trans (below_off K6.out.2.2.2 (fun q e => by have := HbxA.out.2; omega) HBw5.out.size)
       have HW7 := Lib.hid (wantSt_start w6 W7 Hb7.out Hx7.out)
       have hc2 : c2 ≤ 240 := K6.out.1
       clear hR1 hR2 hR HMp K6 HY5 HX5 HDgo HGo HBw5)
    | go_in)
  have Hc : Hid (c ≤ 100000) := hc
  have HO6 : Hid (∀ W : World, Off (fun q => q = w6.heap.size) w6 W → MapsAt w2.heap.size w.heap.size W4.heap.size g c m2 c2 n m y va N E (mapN (tq y) N) (mapE (tq y) E) a k a' k' W) := fun W ho => HMA.out.off (K.off_mono ho (fun q e => Nat.le_of_eq e.symm))
  try go_frame
  go_loopw [13] (fun i wr => ∃ (q : Nat) (b : Option Addr) (kb : Nat), q ≤ n ∧ i = .int .i64 ((q : Nat) : Int) ∧ Hid (WantSt w6 w6.heap.size (mapN (tq y) (N.take q)) [] b kb none 0 wr)) (fun i _ => n - (intOf i).toNat)
  case atStart => exact ⟨0, none, 0, Nat.zero_le _, rfl, HW7.out⟩
  case round =>
    obtain ⟨q, b, kb, hq, rfl, HQ⟩ := hrel
    obtain ⟨wa, hwa⟩ : ∃ wa, wa = wr := ⟨_, rfl⟩
    subst hwa
    have HA := Lib.hid (HO6.out wa HQ.out.off)
    obtain ⟨z0, z1⟩ := two_at HA.out.box
    by_cases hlt : q < n
    · have hqo : q < N.length := by rw [Hn.out]; exact hlt
      obtain ⟨p3, o3, rfl, hc0⟩ := HA.out.dg.nodes.at hqo
      obtain ⟨x, hx⟩ : ∃ x, N.getD q 0 = x := ⟨_, rfl⟩
      have hxN : x ∈ N := by rw [← hx]; exact getD_at hqo
      have hfx := HA.out.gr.facts.2.2.1 x hxN
      have hfq := tdiv_fit hfx Hy.out.1
      have hnx := mapN_next (φ := tq y) hqo
      rw [hx] at hnx hc0
      have hw : wrap64 (x.tdiv y) = tq y x := by
        have := fit_bounds hfq
        unfold wrap64 tq
        omega
      have hw2 : IntKind.i64.wrap (x.tdiv y) = tq y x := by
        have := fit_bounds hfq
        unfold tq
        rw [IntKind.wrap_i64]
        omega
      have hl1 : (mapN (tq y) (N.take q)).length ≤ 1000 := Nat.le_trans (mapN_len _ _) (by rw [List.length_take]; omega)
      have hy0 : y ≠ 0 := by have := Hy.out.1; omega
      have y0 := (cell_of_row _ _ 0 _ _ _ HA.out.ybox).trans (rfl : _ = some (iv y))
      obtain ⟨b0, b1⟩ := two_at (show wa.heap[w6.heap.size]? = some (.cells #[.slice b (mapN (tq y) (N.take q)).length kb, .slice none 0 0] 28) from HQ.out.box)
      have Hnx := Lib.hid hnx
      have Hlt : Hid (q < n) := hlt
      have hltI : (q : Int) < (n : Int) := by omega
      generalize mapN (tq y) (N.take q) = M at *
      generalize tq y x = X at *
      have HQd := Lib.hid (HQ.out.below (Below.refl _ wa).drew)
      have HDe : Hid (Calls Tryz.prog 8 #[gval b M.length kb none 0 0, iv X] wa.drew fun e w' => ∃ a2 c2, e = .returned (gval a2 (putI M X).length c2 none 0 0) ∧ Hid (DgAt w' a2 none (putI M X) [] ∧ Below wa.drew.heap.size wa.drew w' ∧ NewAt wa.drew.heap.size b a2)) := dnode_any b none kb 0 M [] X (by omega) wa.drew HQd.out.dg
      clear hx hxN hfx hfq hnx hl1 hqo
      go_wp2
      go_still_tail 8, (by kernel_rfl)
      change wpList _ _ _ _ _ wa.drew
      generalize wa.drew = wd at *
      go_wp2_with (first
        | (go_at_call 8; (with_reducible refine HDe.out.mono ?_); rintro e w8 ⟨a2, k2, rfl, K8⟩
           obtain ⟨KD, KB, KN⟩ := K8.out
           have hX3 : w8.heap[w6.heap.size]? = some (.cells #[.slice b M.length kb, .slice none 0 0] 28) := (KB.block _ (Array.getElem?_eq_some_iff.1 HQd.out.box).1).trans HQd.out.box
           have fz0 := two_thaw (j := 0) hX3
           obtain ⟨v0, v1⟩ := two_at hX3
           obtain ⟨W9, hW9⟩ : ∃ W, w8.setCell ⟨w6.heap.size, 0, none⟩ (.slice a2 (putI M X).length k2) = W := ⟨_, rfl⟩
           have hX4 : W9.heap[w6.heap.size]? = some (.cells #[.slice a2 (putI M X).length k2, .slice none 0 0] 28) := by rw [← hW9]; exact set_first _ hX3
           have fz1 := two_thaw (j := 1) hX4
           obtain ⟨v2, v3⟩ := two_at hX4
           have HT4 : Hid (WantSt w6 w6.heap.size (putI M X) [] a2 k2 none 0 (W9.setCell ⟨w6.heap.size, 1, none⟩ (.slice none 0 0))) := by
             show WantSt _ _ _ _ _ _ _ _ _
             rw [← hW9]
             exact HQd.out.put (k2 := k2) (k3 := 0) KB KD KN (.inl rfl)
           clear hX3 hX4 KD KB KN)
        | go_in)
      go_roundw
      case rel => exact ⟨q + 1, a2, k2, Hlt.out, by go_num, by rw [Hnx.out]; exact HT4.out⟩
      case measure => simp [intOf]; omega
    · have hqn : q = n := by omega
      subst hqn
      have e1 : N.take q = N := List.take_of_length_le (by rw [Hn.out]; exact Nat.le_refl _)
      rw [e1] at HQ
      have HEn := Lib.hid (mapE_ends (φ := tq y) HA.out.gr.facts.2.1)
      have HMr := Lib.hid (mapN_rise (tq y) N)
      have hMl := mapN_len (tq y) N
      have hMl2 : (mapN (tq y) N).length ≤ 120 := by have := HNl.out; omega
      have HMl := Lib.hid hMl2
      clear e1 hMl hMl2
      go_wp2
      clear z0 z1
      try go_frame
      go_loopw [14] (fun i wr => ∃ (r : Nat) (b : Option Addr) (kb : Nat) (b' : Option Addr) (kb' : Nat), r ≤ m ∧ i = .int .i64 ((r : Nat) : Int) ∧ Hid (WantSt w6 w6.heap.size (mapN (tq y) N) (mapE (tq y) (E.take r)) b kb b' kb' wr)) (fun i _ => m - (intOf i).toNat)
      case atStart => exact ⟨0, b, kb, none, 0, Nat.zero_le _, rfl, HQ.out⟩
      case round =>
        clear HQ HA
        obtain ⟨r, b, kb, b', kb', hr, rfl, HR⟩ := hrel
        obtain ⟨wb, hwb⟩ : ∃ wb, wb = wr := ⟨_, rfl⟩
        subst hwb
        have HA := Lib.hid (HO6.out wb HR.out.off)
        obtain ⟨z0, z1⟩ := two_at HA.out.box
        by_cases hlt : r < m
        · have hro : r < E.length := by rw [Hm.out]; exact hlt
          obtain ⟨p3, o3, rfl, -⟩ := HA.out.dg.edges.at hro
          obtain ⟨e, he⟩ : ∃ e, E.getD r e0 = e := ⟨_, rfl⟩
          have heE : e ∈ E := by rw [← he]; exact getD_in hro
          obtain ⟨x1, x2, x3⟩ := e
          obtain ⟨hc0, hc1, hc2'⟩ := HA.out.dg.edges.cells hro he
          obtain ⟨hm1, hm2⟩ := HEn.out _ heE
          obtain ⟨hn1, hn2⟩ := HA.out.gr.facts.2.1 x1 x2 ⟨x3, heE⟩
          have hf1 := tdiv_fit (HA.out.gr.facts.2.2.1 x1 hn1) Hy.out.1
          have hf2 := tdiv_fit (HA.out.gr.facts.2.2.1 x2 hn2) Hy.out.1
          have hme := mapE_next (φ := tq y) hro
          rw [he] at hme
          have hw1 : wrap64 (x1.tdiv y) = tq y x1 := by
            have := fit_bounds hf1
            unfold wrap64 tq
            omega
          have hw2 : wrap64 (x2.tdiv y) = tq y x2 := by
            have := fit_bounds hf2
            unfold wrap64 tq
            omega
          have hw3 : IntKind.i64.wrap (x1.tdiv y) = tq y x1 := by
            have := fit_bounds hf1
            unfold tq
            rw [IntKind.wrap_i64]
            omega
          have hw4 : IntKind.i64.wrap (x2.tdiv y) = tq y x2 := by
            have := fit_bounds hf2
            unfold tq
            rw [IntKind.wrap_i64]
            omega
          have hy0 : y ≠ 0 := by have := Hy.out.1; omega
          have y0 := (cell_of_row _ _ 0 _ _ _ HA.out.ybox).trans (rfl : _ = some (iv y))
          have hp1 : putI (mapN (tq y) N) (tq y x1) = mapN (tq y) N := putI_in HMr.out hm1
          have hp2 : putI (mapN (tq y) N) (tq y x2) = mapN (tq y) N := putI_in HMr.out hm2
          obtain ⟨b0, b1⟩ := two_at HR.out.box
          have hle := mapE_len (tq y) (E.take r)
          have hle2 : (mapE (tq y) (E.take r)).length ≤ 40 := by rw [List.length_take] at hle; omega
          have HRi := Lib.hid (mapE_rise (φ := tq y) (E.take r))
          have Hme := Lib.hid hme
          have Hlt : Hid (r < m) := hlt
          have hltI : (r : Int) < (m : Int) := by omega
          have HRd := Lib.hid (HR.out.below (Below.refl _ wb).drew)
          have HDe := Lib.hid (dedge_any b b' kb kb' (mapN (tq y) N) (mapE (tq y) (E.take r)) (tq y x1) (tq y x2) x3 HRi.out (by have := HMl.out; omega) (by omega) wb.drew HRd.out.dg)
          rw [hp1, hp2] at HDe
          generalize mapE (tq y) (E.take r) = D at *
          generalize mapN (tq y) N = M at *
          generalize tq y x1 = X1 at *
          generalize tq y x2 = X2 at *
          clear he heE hm1 hm2 hn1 hn2 hf1 hf2 hme hp1 hp2 hle hle2 hro
          go_wp2
          go_still_tail 23, (by kernel_rfl)
          change wpList _ _ _ _ _ wb.drew
          generalize wb.drew = wd at *
          go_wp2_with (first
            | (go_at_call 9; (with_reducible refine HDe.out.mono ?_); rintro e w8 ⟨a2, k2, a3, k3, rfl, K8⟩
               obtain ⟨KD, KB, KN, KE⟩ := K8.out
               have hX3 := (KB.block _ (Array.getElem?_eq_some_iff.1 HRd.out.box).1).trans HRd.out.box
               have fz0 := two_thaw (j := 0) hX3
               obtain ⟨v0, v1⟩ := two_at hX3
               obtain ⟨W9, hW9⟩ : ∃ W, w8.setCell ⟨w6.heap.size, 0, none⟩ (.slice a2 M.length k2) = W := ⟨_, rfl⟩
               have hX4 : W9.heap[w6.heap.size]? = some (.cells #[.slice a2 M.length k2, .slice b' D.length kb'] 28) := by rw [← hW9]; exact set_first _ hX3
               have fz1 := two_thaw (j := 1) hX4
               obtain ⟨v2, v3⟩ := two_at hX4
               have HT4 := Lib.hid (HRd.out.put (k2 := k2) (k3 := k3) KB KD KN KE)
               rw [hW9] at HT4
               clear hX3 hX4 KD KB KN KE)
            | go_in)
          go_roundw
          case rel => exact ⟨r + 1, a2, k2, a3, k3, Hlt.out, by go_num, by rw [Hme.out]; exact HT4.out⟩
          case measure => simp [intOf]; omega
        · have hrm : r = m := by omega
          subst hrm
          have e2 : E.take r = E := List.take_of_length_le (by rw [Hm.out]; exact Nat.le_refl _)
          rw [e2] at HR
          obtain ⟨M, hM⟩ : ∃ M, mapN (tq y) N = M := ⟨_, rfl⟩
          obtain ⟨D, hD⟩ : ∃ D, mapE (tq y) E = D := ⟨_, rfl⟩
          have hDl : D.length ≤ 40 := by rw [← hD]; exact Nat.le_trans (mapE_len _ _) (by have := HEl.out; omega)
          rw [hM] at HR HMl HA
          rw [hD] at HR HA
          have HMl2 := Lib.hid HMl.out
          have HDl := Lib.hid hDl
          have HSm : Hid (∃ R : Ending → World → Prop, Calls Tryz.prog 10 #[.pointer (some ⟨g, 0, none⟩), .func (.func 11) #[] #[]] wb R ∧ ∀ e w', R e w' → ∃ g2 Z2 B2 c2, e = .returned (.pointer (some ⟨g2, 0, none⟩)) ∧ Hid (c2 ≤ 240 ∧ S.GrAt Z2 B2 g2 c2 (mapN (fun x => x % 8) N) (mapE (fun x => x % 8) E) w' ∧ Below wb.heap.size wb w')) := by
            obtain ⟨Z0, B0, hg0⟩ := HA.out.gr
            refine ⟨_, S.map_any Hc.out (by have := HNl.out; omega) (by have := HEl.out; omega) Hkk.out wb hg0, ?_⟩
            rintro e w' ⟨g2, Z2, B2, c2, rfl, K⟩
            exact ⟨g2, Z2, B2, c2, rfl, by have := K.out.1; have := HNl.out; have := HEl.out; omega, K.out.2.2.1, K.out.2.2.2.2⟩
          obtain ⟨L, hL⟩ : ∃ L, mapN (fun x => x % 8) N = L := ⟨_, rfl⟩
          have HLr : Hid (RiseI L) := by show RiseI L; rw [← hL]; exact mapN_rise _ _
          have HLl : Hid (L.length ≤ 120) := by show L.length ≤ 120; rw [← hL]; exact Nat.le_trans (mapN_len _ _) HNl.out
          have HLf : Hid (∀ x ∈ L, S.fitS x) := fun x hx => by
            rw [← hL] at hx
            obtain ⟨z, -, rfl⟩ := mem_mapN.1 hx
            exact fit8 z
          rw [hL] at HSm
          clear hM hD hL hDl e2 HEn HMr HMl
          go_wp2_with (first
            | (go_at_call 10; obtain ⟨R, hR1, hR2⟩ := HSm.out; (with_reducible refine hR1.mono ?_); intro e w10 hR; obtain ⟨g2, Z2, B2, c3, rfl, K10⟩ := hR2 e w10 hR
               have HNs := Lib.hid (S.nodes_any (by have := K10.out.1; omega) w10 K10.out.2.1)
               clear hR1 hR2 hR)
            | (go_at_call 12; (with_reducible refine HNs.out.mono ?_); rintro e w11 ⟨vs, rfl, K11⟩
               obtain ⟨p11, c11, rfl⟩ := row_sl K11.out.1)
            | go_in)
          have HB11 : Hid (Below wb.heap.size wb w11) := K10.out.2.2.trans (K11.out.2.mono K10.out.2.2.size)
          obtain ⟨nl, hnl⟩ : ∃ nl, L.length = nl := ⟨_, rfl⟩
          have HTx : Hid (∀ W, Below w11.heap.size w11 W → S.TxtO W w10.heap.size (.slice p11 nl c11) L) := fun W hb => by
            have h1 : S.TxtO w11 w10.heap.size (.slice p11 L.length c11) L := K11.out.1
            rw [hnl] at h1
            exact h1.below hb
          have Hnl := Lib.hid hnl
          have hnl2 : nl ≤ 120 := by have := HLl.out; omega
          rw [hnl]
          clear hnl K10 K11 HSm HNs
          try go_frame
          go_loopw [17] (fun i wr => ∃ s : Nat, s ≤ nl ∧ i = .int .i64 ((s : Nat) : Int) ∧ Hid (Below w11.heap.size w11 wr)) (fun i _ => nl - (intOf i).toNat)
          case atStart => exact ⟨0, Nat.zero_le _, rfl, Below.refl _ _⟩
          case round =>
            obtain ⟨s, hs, rfl, HS⟩ := hrel
            obtain ⟨wc, hwc⟩ : ∃ wc, wc = wr := ⟨_, rfl⟩
            subst hwc
            by_cases hlt : s < nl
            · have hso : s < L.length := by rw [Hnl.out]; exact hlt
              obtain ⟨g11, rfl, d0⟩ := (HTx.out wc HS.out).at hso
              obtain ⟨x, hx⟩ : ∃ x, L.getD s 0 = x := ⟨_, rfl⟩
              rw [hx] at d0
              have hsz : (S.lb x).size = 1 := rfl
              have hltI : (s : Int) < (nl : Int) := by omega
              have Hlt : Hid (s < nl) := hlt
              have HSd : Hid (Below w11.heap.size w11 wc.drew) := HS.out.drew
              have hne1 : decide ((1 : Int) = 1) = true := rfl
              cases s with
              | zero =>
                have hltJ : (0 : Int) < (nl : Int) := hltI
                go_wp2
                go_quiet (fail)
                go_wp2
                go_roundw
                case rel => exact ⟨0 + 1, Hlt.out, by go_num, HS.out.trans ((drewN_below wc _).mono HS.out.size)⟩
                case measure => simp [intOf]; omega
              | succ s =>
                have hso2 : s < L.length := by omega
                obtain ⟨g12, e12, d1⟩ := (HTx.out wc HS.out).at hso2
                cases e12
                obtain ⟨z, hz⟩ : ∃ z, L.getD s 0 = z := ⟨_, rfl⟩
                rw [hz] at d1
                have hzx : z < x := by
                  have h1 : L[s] < L[s + 1] := List.pairwise_iff_getElem.1 HLr.out s (s + 1) hso2 hso (by omega)
                  rw [List.getD_eq_getElem?_getD, List.getElem?_eq_getElem hso2] at hz
                  rw [List.getD_eq_getElem?_getD, List.getElem?_eq_getElem hso] at hx
                  simp only [Option.getD_some] at hz hx
                  rw [hz, hx] at h1
                  exact h1
                have hless := less_lb (HLf.out z (by rw [← hz]; exact getD_at hso2)) (HLf.out x (by rw [← hx]; exact getD_at hso)) hzx
                have hsub : (s : Int) + 1 - 1 = (s : Int) := by omega
                have hgt : decide ((0 : Int) < (s : Int) + 1) = true := decide_eq_true (by omega)
                have hgt2 : (0 : Int) < (s : Int) + 1 := by omega
                have hltJ : (s : Int) + 1 < (nl : Int) := by omega
                have hltK : (s : Int) < (nl : Int) := by omega
                have hs0 : (0 : Int) ≤ (s : Int) + 1 := by omega
                go_wp2
                go_quiet (fail)
                go_wp2
                go_roundw
                case rel => exact ⟨s + 1 + 1, Hlt.out, by go_num, HS.out.trans ((drewN_below wc _).mono HS.out.size)⟩
                case measure => simp [intOf]; omega
            · have hB := HB11.out.trans (HS.out.mono HB11.out.size)
              have HRc := Lib.hid (HR.out.below hB)
              have HAc := Lib.hid (HA.out.off (K.off_mono (Z := fun _ => False) (Off.below hB) (fun _ e => e.elim)))
              have HBwc : Hid (Below w.heap.size w wc) := (HBw6.out.trans (below_off HR.out.off (fun q e => by have := HBw6.out.size; omega) HBw6.out.size)).trans (hB.mono (HBw6.out.trans (below_off HR.out.off (fun q e => by have := HBw6.out.size; omega) HBw6.out.size)).size)
              obtain ⟨pv, cv, ev, hsv⟩ := HAc.out.ask.row.sl
              subst ev
              rw [Hn.out] at HAc
              have q0 := (cell_of_row _ _ 0 _ _ _ HAc.out.ask.box).trans (rfl : _ = some (Value.slice pv q cv))
              obtain ⟨f0, f1⟩ := two_at HAc.out.box
              have HSa := Lib.hid (same_n pv a cv k q Hn.out (by omega) wc hsv HAc.out.dg.nodes)
              have hsl : s = nl := by omega
              subst hsl
              clear hsv hB HA HR HO6 HM HM1 HTx
              go_wp2_with (first
                | (go_at_call 13; (with_reducible refine HSa.out.mono ?_); rintro e w13 ⟨rfl, K13⟩
                   have HR13 := Lib.hid (HRc.out.below K13.out)
                   have HA13 := Lib.hid (HAc.out.off (K.off_mono (Z := fun _ => False) (Off.below K13.out) (fun _ e => e.elim)))
                   obtain ⟨b0, b1⟩ := two_at HR13.out.box
                   have HI1 := Lib.hid (is_any b b' kb kb' M.length D.length rfl rfl (by omega) (by have := HMl2.out; omega) (by have := HDl.out; omega) w13 HA13.out.gm HR13.out.dg)
                   clear HSa)
                | (go_at_call 14; (with_reducible refine HI1.out.mono ?_); rintro e w14 ⟨rfl, K14⟩
                   have HA14 := Lib.hid (HA13.out.off (K.off_mono (Z := fun _ => False) (Off.below K14.out) (fun _ e => e.elim)))
                   obtain ⟨h0, h1⟩ := two_at HA14.out.box
                   have HI2 := Lib.hid (is_any a a' k k' q r Hn.out Hm.out Hc.out (by omega) (by omega) w14 HA14.out.gr HA14.out.dg)
                   clear HI1)
                | (go_at_call 14; (with_reducible refine HI2.out.mono ?_); rintro e w15 ⟨rfl, K15⟩)
                | go_in)
              go_ret
              have h3 := HBwc.out.trans (K13.out.mono HBwc.out.size)
              have h4 := h3.trans (K14.out.mono h3.size)
              exact ⟨rfl, h4.trans (K15.out.mono h4.size)⟩
end Go.Proofs.YthgkloapnihpaaaGreat
