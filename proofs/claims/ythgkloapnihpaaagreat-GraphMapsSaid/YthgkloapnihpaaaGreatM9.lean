/- Helpers, joined: Ki, Kj, Lc, Ld, Le, Lf, Lg, Lj, Ra, Rb. -/
import Derived.Test.YthgkloapnihpaaaGreatM4
import Derived.Test.YthgkloapnihpaaaGreatM8

/- Graphs: the least node that reaches itself (leastOnCycle), by a contract. -/
namespace Go.Proofs.YthgkloapnihpaaaGreat
open Go.RowKit Go.Maps Go.WideMaps Go.WideElems Go.ChangeShapes Go.WideShapes
open Classical

theorem parts_ne {R : Int → Int → Prop} {N : List Int} {p : List Int} (h : p ∈ partsOf R N) : ∃ k ∈ reps R N, p = cls R N k ∧ p ≠ [] := by
  obtain ⟨k, h1, rfl⟩ := List.mem_map.1 h
  refine ⟨k, h1, rfl, fun e => ?_⟩
  have : k ∈ cls R N k := mem_cls.2 ⟨(mem_reps.1 h1).1, Mutual.refl k⟩
  rw [e] at this
  simp at this
/-- The first that meets it, found by places. -/
theorem find_at_place {α : Type} {p : α → Bool} {d : α} : ∀ {l : List α} {q : Nat}, q < l.length → (∀ j, j < q → p (l.getD j d) = false) → p (l.getD q d) = true → l.find? p = some (l.getD q d)
  | [], q, h, _, _ => by simp at h
  | a :: l, 0, _, _, h => by
    rw [List.getD_cons_zero] at h ⊢
    rw [List.find?_cons, h]
  | a :: l, q + 1, hq, h1, h2 => by
    have h0 := h1 0 (by omega)
    rw [List.getD_cons_zero] at h0
    rw [List.find?_cons, h0, List.getD_cons_succ]
    rw [List.getD_cons_succ] at h2
    exact find_at_place (by simpa using hq) (fun j hj => by have := h1 (j + 1) (by omega); rwa [List.getD_cons_succ] at this) h2
theorem find_no_place {α : Type} {p : α → Bool} {d : α} {l : List α} (h : ∀ j, j < l.length → p (l.getD j d) = false) : l.find? p = none := by
  rw [List.find?_eq_none]
  intro x hx
  obtain ⟨j, hj, e⟩ := List.getElem_of_mem hx
  have := h j hj
  rw [List.getD_eq_getElem?_getD, List.getElem?_eq_getElem hj] at this
  rw [← e]
  simpa using this
set_option maxHeartbeats 128000000 in
set_option maxRecDepth 100000 in
theorem least_any {Z : Nat → Prop} {B g c : Nat} {N : List Int} {E : List Ed} (hc : c ≤ 100000) (hN : N.length ≤ 500) (w : World) (h : GrAt Z B g c N E w) :
    Calls Tryz.prog 33 #[.pointer (some ⟨g, 0, none⟩)] w fun e w' => ∃ s ok, e = .returned (.tuple #[iv s, .bool ok]) ∧ Hid ((startZ (EdR E) N = if ok = true then some s else none) ∧ Below w.heap.size w w') := by
  have HP := Lib.hid (parts_p hc hN w h)
  obtain ⟨ob, DO, F, DI, f, h, hZ⟩ := h
  have H := Lib.hid h
  have Hfit : Hid (∀ a ∈ N, fit64 a) := fun a ha => h.dom.fit a ha
  have HN := Lib.hid hN
  have Hst := Lib.hid (start_parts h.nodes h.ends)
  clear h hZ hc hN
  go_enter Tryz.func33, Tryz.ntmps33
  go_wp2_with (first
    | (go_at_call 17; (with_reducible refine HP.out.mono ?_); rintro e V ⟨pv, ps, rfl, KP⟩
       obtain ⟨p10, c10, rfl⟩ := row_sl KP.out.1.row
       obtain ⟨n, hn⟩ : ∃ n, ps.length = n := ⟨_, rfl⟩
       have Hn := Lib.hid hn
       have hnb : n ≤ 500 := by
         have h1 : ps.length = (reps (EdR E) N).length := by
           have := congrArg List.length KP.out.2.1
           rw [List.length_map] at this
           rw [this]
           unfold partsOf
           rw [List.length_map]
         have h2 : (reps (EdR E) N).length ≤ N.length := List.length_filter_le _ _
         have := HN.out
         omega
       rw [hn])
    | go_in)
  have Hrow : Hid (V.ownsRow w.heap.size 23 1 (.slice p10 n c10) n (ps.map (·.1))) := by
    have h1 := KP.out.1.row
    rw [Hn.out] at h1
    exact h1
  clear hn HP
  try go_frame
  go_loopw [12] (fun i wr => ∃ q : Nat, q ≤ n ∧ i = .int .i64 ((q : Nat) : Int) ∧ Hid (Below V.heap.size V wr ∧ ∀ j, j < q → ¬ loopP (EdR E) ((partsOf (EdR E) N).getD j []))) (fun i _ => n - (intOf i).toNat)
  case atStart => exact ⟨0, Nat.zero_le _, rfl, Below.refl _ _, fun j hj => absurd hj (by omega)⟩
  case round =>
    obtain ⟨q, hq, rfl, HR⟩ := hrel
    obtain ⟨wa, hwa⟩ : ∃ wa, wa = wr := ⟨_, rfl⟩
    subst hwa
    by_cases hlt : q < n
    · have hqp : q < ps.length := by rw [Hn.out]; exact hlt
      have hqP : q < (partsOf (EdR E) N).length := by rw [← KP.out.2.1, List.length_map]; exact hqp
      have hpe : (partsOf (EdR E) N).getD q [] = (ps[q]).2 := by
        rw [← KP.out.2.1, List.getD_eq_getElem?_getD, List.getElem?_map, List.getElem?_eq_getElem hqp]
        rfl
      obtain ⟨x, hx⟩ : ∃ x, ps[q] = x := ⟨_, rfl⟩
      have hxm : x ∈ ps := by rw [← hx]; exact List.getElem_mem hqp
      have hrow := row_kept Hrow.out HR.out.1
      obtain ⟨g10, d0⟩ : ∃ g10, p10 = some ⟨g10, 0, none⟩ ∧ wa.cell? ⟨g10, q, none⟩ = some x.1 := by
        rcases hrow.2 with ⟨e, h0⟩ | ⟨g', cap, cur, e, hb, hg, hn', hm, hs, ht⟩
        · omega
        · simp only [Value.slice.injEq] at e
          refine ⟨g', e.1, ?_⟩
          have h2 := hrow.cells (g := g') (by rw [e.1]; rfl) q x.1 (by rw [List.getElem?_map, List.getElem?_eq_getElem hqp, hx]; rfl)
          rwa [Addr.add_lit, Nat.zero_add] at h2
      obtain ⟨rfl, d1⟩ := d0
      have hxi := (KP.out.1.each x hxm).below HR.out.1
      rw [hx] at hpe
      obtain ⟨k, hkr, hxk, hxne⟩ := parts_ne (by rw [← hpe]; exact getD_in hqP : x.2 ∈ partsOf (EdR E) N)
      obtain ⟨vx, px⟩ := x
      simp only at d1 hxi hpe hxk hxne
      obtain ⟨px', cx, rfl, hcx, h2⟩ := hxi.form
      obtain ⟨gx, ox, rfl, -, -, hcell⟩ := h2 hxne
      obtain ⟨a, l, rfl⟩ : ∃ a l, px = a :: l := by cases px with
        | nil => exact absurd rfl hxne
        | cons a l => exact ⟨a, l, rfl⟩
      have d2 := hcell 0 (by simp)
      rw [List.getD_cons_zero, Nat.add_zero] at d2
      have haN : a ∈ N := by
        have h1 : a ∈ cls (EdR E) N k := by rw [← hxk]; simp
        exact (mem_cls.1 h1).1
      have hVw : Below w.heap.size w wa := KP.out.2.2.trans (HR.out.1.mono KP.out.2.2.size)
      have hG := H.out.kept (grown_below hVw) (fun k e => by cases e)
      have c0 := hG.box.cell
      have hfa := Hfit.out a haN
      have l1 : ∀ q, (Instr.lookup 71 (.map (some ob)) (iv a) false).run Tryz.prog (wa.drewN q) = .ok (.map (some (F a))) (wa.drewN q) := fun q => look_as (hG.dom.kept (grown_below (drewN_below wa q)) (by simp)) Tryz.underlying71 (zero65 _) hfa ((hG.atO a hfa).trans (by rw [if_pos haN]))
      have l2 : ∀ q, (Instr.lookup 74 (.map (some (F a))) (iv a) true).run Tryz.prog (wa.drewN q) = .ok (.tuple #[f a a, .bool (decide (a ∈ outsE N E a))]) (wa.drewN q) := fun q => look_ok_as ((hG.domI a haN).kept (grown_below (drewN_below wa q)) (by simp)) Tryz.underlying74 (zero23 _) hfa (hG.atI a haN a hfa)
      obtain ⟨m, hm⟩ : ∃ m, l.length = m := ⟨_, rfl⟩
      have hml : m ≤ 500 := by
        have h1 : (a :: l).length ≤ N.length := by
          rw [hxk]
          exact List.length_filter_le _ _
        rw [List.length_cons] at h1
        have := HN.out
        omega
      have hloop : loopP (EdR E) ((partsOf (EdR E) N).getD q []) ↔ (a ∈ outsE N E a ∨ 1 < m + 1) := by
        rw [hpe]
        unfold loopP
        rw [List.headD_cons, List.length_cons, hm, mem_outsE H.out.ends]
      have Hloop := Lib.hid hloop
      have Hpe := Lib.hid hpe
      have HqP := Lib.hid hqP
      rw [List.length_cons, hm] at d1
      have hltI : (q : Int) < (n : Int) := by omega
      have hix1 : (0 : Int) < (m : Int) + 1 := by omega
      generalize F a = fa at l1 l2
      generalize f a a = fv at l2
      by_cases hlp : a ∈ outsE N E a ∨ 1 < m + 1
      · have HF : Hid ((partsOf (EdR E) N).find? (fun p => decide (loopP (EdR E) p)) = some (a :: l)) := by
          show _ = _
          rw [← Hpe.out]
          exact find_at_place HqP.out (fun j hj => decide_eq_false (HR.out.2 j hj)) (decide_eq_true (Hloop.out.2 hlp))
        have HZ : Hid (startZ (EdR E) N = some a) := by
          show _ = _
          rw [← Hst.out, HF.out]
          rfl
        have HW := Lib.hid hVw
        by_cases hao : a ∈ outsE N E a
        · rw [decide_eq_true hao] at l2
          clear hqp hqP hpe hx hxm hrow hxi hkr hxk hxne hcx h2 hcell haN hG hfa hm hloop hlp hao hVw HF
          go_wp2
          go_quiet (fail)
          go_wp2
          go_ret2
          exact ⟨a, true, rfl, by rw [HZ.out]; rfl, HW.out.trans ((drewN_below _ _).mono HW.out.size)⟩
        · rw [decide_eq_false hao] at l2
          have hm1 : 1 < m + 1 := hlp.resolve_left hao
          have hm2 : (1 : Int) < (m : Int) + 1 := by omega
          have e3 : decide ((1 : Int) < (m : Int) + 1) = true := by simpa using hm2
          have e4 : decide (1 < m + 1) = true := by simpa using hm1
          have hm0 : 0 < m := by omega
          clear hqp hqP hpe hx hxm hrow hxi hkr hxk hxne hcx h2 hcell haN hG hfa hm hloop hlp hao hVw HF
          go_wp2
          go_quiet (fail)
          go_wp2
          go_ret2
          exact ⟨a, true, rfl, by rw [HZ.out]; rfl, HW.out.trans ((drewN_below _ _).mono HW.out.size)⟩
      · have hao : a ∉ outsE N E a := fun h => hlp (.inl h)
        have hm0 : m = 0 := by omega
        rw [decide_eq_false hao] at l2
        subst hm0
        have HNo : Hid (∀ j, j < q + 1 → ¬ loopP (EdR E) ((partsOf (EdR E) N).getD j [])) := fun j hj => by
          by_cases e : j = q
          · subst e
            exact fun h => hlp (Hloop.out.1 h)
          · exact HR.out.2 j (by omega)
        have HB := Lib.hid HR.out.1
        clear hqp hqP hpe hx hxm hrow hxi hkr hxk hxne hcx h2 hcell haN hG hfa hm hloop hlp hao hVw
        go_wp2
        go_quiet (fail)
        go_wp2
        go_roundw
        case rel => exact ⟨q + 1, by omega, by go_num, HB.out.trans ((drewN_below _ _).mono HB.out.size), HNo.out⟩
        case measure => simp [intOf]; omega
    · have hqn : q = n := by omega
      have HZ : Hid (startZ (EdR E) N = none) := by
        show _ = _
        rw [← Hst.out, find_no_place (d := []) fun j hj => decide_eq_false (HR.out.2 j (by rw [hqn, ← Hn.out]; rw [← KP.out.2.1, List.length_map] at hj; exact hj))]
        rfl
      clear hqn
      go_wp2
      go_ret2
      exact ⟨0, false, rfl, by rw [HZ.out]; rfl, KP.out.2.2.trans (HR.out.1.mono KP.out.2.2.size)⟩
end Go.Proofs.YthgkloapnihpaaaGreat

/- Graphs: Cycle, by a contract. -/
namespace Go.Proofs.YthgkloapnihpaaaGreat
open Go.RowKit Go.Maps Go.WideMaps Go.WideElems Go.ChangeShapes Go.WideShapes
open Classical

/-- The way round: none, or from the least node on a cycle on. -/
def cycIs (R : Int → Int → Prop) (N : List Int) (O : Int → List Int) (l : List Int) : Prop :=
  (startZ R N = none ∧ l = []) ∨ ∃ s L, startZ R N = some s ∧ Near R s s L ∧ l = s :: wayZ R s O L s
theorem cycIs_same {R : Int → Int → Prop} {N : List Int} {O : Int → List Int} {l m : List Int} (h : cycIs R N O l) (k : cycIs R N O m) : l = m := by
  rcases h with ⟨h1, h2⟩ | ⟨s, L, h1, h2, h3⟩ <;> rcases k with ⟨k1, k2⟩ | ⟨t, M, k1, k2, k3⟩
  · rw [h2, k2]
  · rw [h1] at k1; cases k1
  · rw [k1] at h1; cases h1
  · rw [h1] at k1
    cases k1
    have := near_same h2 k2
    subst this
    rw [h3, k3]
/-- While it goes back. -/
structure CyAt (V : World) (am ka : Nat) (La : List Int) (fa : Int → Nat) (R : Int → Int → Prop) (s : Int) (O : Int → List Int) (T : Nat) (now : Int) (k : Nat) (l : List Int) (v6 : Value) (W : World) : Prop where
  aw : AwAt am ka La fa W
  row : IntsO W V.heap.size v6 l
  gro : V.grownBy W none
  whole : l ++ wayZ R s O k now = s :: wayZ R s O T s
  len : l.length + k = T + 1
theorem wayZ_len {R : Int → Int → Prop} {s : Int} {O : Int → List Int} : ∀ (k : Nat) (a : Int), (wayZ R s O k a).length = k
  | 0, _ => rfl
  | k + 1, a => by
    show ((pickD R s (O a) (k + 1)).getD a :: wayZ R s O k _).length = k + 1
    rw [List.length_cons, wayZ_len k]
set_option maxHeartbeats 128000000 in
set_option maxRecDepth 100000 in
theorem cycle_p {Z : Nat → Prop} {B g c : Nat} {N : List Int} {E : List Ed} (hc : c ≤ 100000) (hN : N.length ≤ 500) (w : World) (h : GrAt Z B g c N E w) :
    Calls Tryz.prog 16 #[.pointer (some ⟨g, 0, none⟩)] w fun e w' => ∃ v l, e = .returned v ∧ Hid (IntsO w' w.heap.size v l ∧ cycIs (EdR E) N (outsE N E) l ∧ Below w.heap.size w w') := by
  have HL := Lib.hid (least_any hc hN w h)
  have HGr := Lib.hid h
  obtain ⟨ob, DO, F, DI, f, h, hZ⟩ := h
  have Hends := Lib.hid h.ends
  have Hnodes := Lib.hid h.nodes
  have Hfit : Hid (∀ a ∈ N, fit64 a) := fun a ha => h.dom.fit a ha
  have HN := Lib.hid hN
  have Hc := Lib.hid hc
  have hout : ∀ a b, b ∈ outsE N E a ↔ EdR E a b := fun a b => mem_outsE h.ends
  have Hout := Lib.hid hout
  clear h hZ hc hN hout
  cases hz : startZ (EdR E) N with
  | none =>
    have HL0 : Hid (Calls Tryz.prog 33 #[.pointer (some ⟨g, 0, none⟩)] w fun e w' => ∃ s, e = .returned (.tuple #[iv s, .bool false]) ∧ Hid (Below w.heap.size w w')) := by
      refine HL.out.mono ?_
      rintro e w' ⟨s, ok, rfl, K⟩
      have h1 := K.out.1
      rw [hz] at h1
      cases ok with
      | false => exact ⟨s, rfl, K.out.2⟩
      | true => simp at h1
    have HZ : Hid (startZ (EdR E) N = none) := hz
    clear hz
    go_enter Tryz.func16, Tryz.ntmps16
    go_wp2_with (first
      | (go_at_call 33; (with_reducible refine HL0.out.mono ?_); rintro e w1 ⟨s, rfl, K1⟩)
      | go_in)
    go_ret
    exact ⟨_, [], rfl, intsO_nil _ _, .inl ⟨HZ.out, rfl⟩, K1.out⟩
  | some s =>
    have HL0 : Hid (Calls Tryz.prog 33 #[.pointer (some ⟨g, 0, none⟩)] w fun e w' => e = .returned (.tuple #[iv s, .bool true]) ∧ Hid (Below w.heap.size w w')) := by
      refine HL.out.mono ?_
      rintro e w' ⟨t, ok, rfl, K⟩
      have h1 := K.out.1
      rw [hz] at h1
      cases ok with
      | false => simp at h1
      | true =>
        simp at h1
        rw [h1]
        exact ⟨rfl, K.out.2⟩
    have HZ : Hid (startZ (EdR E) N = some s) := hz
    clear hz
    obtain ⟨hsN, hsc, -⟩ := (startZ_is Hnodes.out).1 HZ.out
    obtain ⟨T, hT⟩ := near_ex hsc
    have HsN := Lib.hid hsN
    have HT := Lib.hid hT
    have hTn : T ≤ 500 := by
      obtain ⟨b, h1, h2⟩ := hT.1
      have := dst_lt (N := N) Hends.out (Hends.out s b h1).2 h2
      have := HN.out
      omega
    have hAw := fun (w1 : World) (hb : Below w.heap.size w w1) => away_any s hsN HN.out w1 (HGr.out.below hb)
    have HA := Lib.hid hAw
    clear hsN hsc hT hAw
    go_enter Tryz.func16, Tryz.ntmps16
    go_wp2_with (first
      | (go_at_call 33; (with_reducible refine HL0.out.mono ?_); rintro e w1 ⟨rfl, K1⟩)
      | (go_at_call 34; (with_reducible refine (HA.out w1 K1.out).mono ?_); rintro e V ⟨am, ka, La, fa, rfl, KA⟩
         obtain ⟨V1, hV1⟩ : ∃ W, V.alloc (.cells #[iv s] 3) = W := ⟨_, rfl⟩
         have Hg1 : Hid (V.grownBy V1 none) := by show V.grownBy _ _; rw [← hV1]; exact World.grownBy_alloc V _ none
         have HR1 : Hid (IntsO V1 V.heap.size (.slice (some ⟨V.heap.size, 0, none⟩) 1 1) [s]) := by
           show IntsO _ _ _ _
           rw [← hV1]
           exact intsO_one V _ (Nat.le_refl _) s
         have hwV : Below w.heap.size w V := K1.out.trans (KA.out.2.2.2.mono K1.out.size)
         have HwV := Lib.hid hwV
         have HNe := Lib.hid (nearest_any s s HsN.out HN.out V1 (HGr.out.below (hwV.trans ((grown_of_below Hg1.out).mono hwV.size))) (KA.out.1.kept Hg1.out (by simp)) KA.out.2.1 KA.out.2.2.1 T HT.out))
      | (go_at_call 35; (with_reducible refine HNe.out.mono ?_); rintro e V2 ⟨rfl, K2⟩)
      | go_in)
    have H0 : Hid (CyAt V am ka La fa (EdR E) s (outsE N E) T s T [s] (.slice (some ⟨V.heap.size, 0, none⟩) 1 1) V2) := ⟨(KA.out.1.kept Hg1.out (by simp)).kept (grown_below K2.out) (by simp), HR1.out.below K2.out, Hg1.out.trans (grown_below K2.out), rfl, by simp; omega⟩
    clear HNe HA
    try go_frame
    go_loopw [6, 7, 8] (fun v6 v7 v8 wr => ∃ (now : Int) (k : Nat) (l : List Int), v7 = iv now ∧ v8 = .int .i64 ((k : Nat) : Int) ∧ now ∈ N ∧ Hid (CyAt V am ka La fa (EdR E) s (outsE N E) T now k l v6 wr)) (fun _ _ v8 _ => (intOf v8).toNat)
    case atStart => exact ⟨s, T, [s], rfl, rfl, HsN.out, H0.out⟩
    case round =>
      obtain ⟨now, k, l, rfl, rfl, hnN, HC⟩ := hrel
      obtain ⟨wa, hwa⟩ : ∃ wa, wa = wr := ⟨_, rfl⟩
      subst hwa
      have HnN := Lib.hid hnN
      cases k with
      | zero =>
        have HE : Hid (l = s :: wayZ (EdR E) s (outsE N E) T s) := by
          have := HC.out.whole
          rw [show wayZ (EdR E) s (outsE N E) 0 now = [] from rfl, List.append_nil] at this
          exact this
        clear hnN
        go_wp2
        go_ret
        refine ⟨_, l, rfl, HC.out.row.low HwV.out.size, .inr ⟨s, T, HZ.out, HT.out, HE.out⟩, HwV.out.trans ((grown_of_below HC.out.gro).mono HwV.out.size)⟩
      | succ k =>
        have hk5 : k ≤ 500 := by have := HC.out.len; omega
        have hll : l.length ≤ 1000000 := by have := HC.out.len; omega
        have hg0 : decide ((0 : Int) < (k : Int) + 1) = true := decide_eq_true (by omega)
        have hg1 : decide (0 < k + 1) = true := decide_eq_true (by omega)
        have HO := Lib.hid (out_any now (Hfit.out now hnN) Hc.out wa (HGr.out.below (HwV.out.trans ((grown_of_below HC.out.gro).mono HwV.out.size))))
        obtain ⟨m, hm⟩ : ∃ m, (outsE N E now).length = m := ⟨_, rfl⟩
        have Hm := Lib.hid hm
        have hm5 : m ≤ 500 := by
          have : (outsE N E now).length ≤ N.length := List.length_filter_le _ _
          have := HN.out
          omega
        clear hnN hm
        go_wp2_with (first
          | (go_at_call 36; (with_reducible refine HO.out.mono ?_); rintro e w3 ⟨vo, rfl, K3⟩
             have ho3 := intsO_row K3.out.1
             obtain ⟨p3, c3, rfl⟩ := row_sl K3.out.1
             rw [Hm.out] at ho3 ⊢
             have Ho3 := Lib.hid ho3
             clear ho3)
          | go_in)
        have HA3 := Lib.hid (HC.out.aw.kept (grown_below K3.out.2) (by simp))
        have HR3 := Lib.hid (HC.out.row.below K3.out.2)
        have Hg3 : Hid (V.grownBy w3 none) := HC.out.gro.trans (grown_below K3.out.2)
        try go_frame
        go_loopw [7, 38] (fun v7 i wr => ∃ q : Nat, q ≤ m ∧ i = .int .i64 ((q : Nat) : Int) ∧ v7 = iv now ∧ wr = w3 ∧ Hid (∀ j, j < q → ¬ Dst (EdR E) s ((outsE N E now).getD j 0) (k + 1))) (fun _ i _ => m - (intOf i).toNat)
        case atStart => exact ⟨0, Nat.zero_le _, rfl, rfl, rfl, fun j hj => absurd hj (by omega)⟩
        case round =>
          obtain ⟨q, hq, rfl, rfl, rfl, HQ⟩ := hrel
          by_cases hlt : q < m
          · have hqo : q < (outsE N E now).length := by rw [Hm.out]; exact hlt
            have hsl : SlI wr p3 (outsE N E now) := by
              obtain ⟨p, c, e, hs⟩ := Ho3.out.sl
              simp only [Value.slice.injEq] at e
              rw [e.1]
              exact hs
            obtain ⟨b3, off3, rfl, hc0⟩ := hsl.at hqo
            have hbo := getD_in (d := 0) hqo
            obtain ⟨b, hb⟩ : ∃ b, (outsE N E now).getD q 0 = b := ⟨_, rfl⟩
            rw [hb] at hc0 hbo
            have hbN : b ∈ N := (List.mem_filter.1 hbo).1
            have hlk := HA3.out.lookOk (Hfit.out b hbN)
            have hltI : (q : Int) < (m : Int) := by omega
            by_cases hbL : b ∈ La
            · rw [decide_eq_true hbL, if_pos hbL] at hlk
              have hd := KA.out.2.2.1 b hbL
              have hdn := dst_lt (N := N) Hends.out hbN hd
              obtain ⟨d, hde⟩ : ∃ d, fa b = d := ⟨_, rfl⟩
              rw [hde] at hlk hd hdn
              have hd5 : d ≤ 500 := by have := HN.out; omega
              by_cases hdk : d = k + 1
              · have HP : Hid (pickD (EdR E) s (outsE N E now) (k + 1) = some b) := by
                  show List.find? _ _ = _
                  rw [← hb]
                  exact find_at_place hqo (fun j hj => decide_eq_false (HQ.out j hj)) (decide_eq_true (by rw [hb, ← hdk]; exact hd))
                have HbN := Lib.hid hbN
                subst hdk
                have e1 : (((k + 1 : Nat) : Int) == ((k + 1 : Nat) : Int)) = true := by simp
                have e2 : ((k : Int) + 1 == (k : Int) + 1) = true := by simp
                clear hsl hbo hb hbN hbL hd hdn hde hqo
                go_wp2_with (first
                  | (at_builtin; refine wpList_append_o rfl _ _ rfl V.heap.size u6 l b rfl (HR3.out.alloc _) ⟨wr.heap.size, 0, none⟩ 1 rfl (news_new wr #[iv b] 3) hll (by have := Hg3.out.size; simp; omega) ?_
                     intro v6 w6 hf6 hg6 hl6
                     have hA := World.grownBy_alloc wr (.cells #[iv b] 3) none
                     have H6 : Hid (CyAt V am ka La fa (EdR E) s (outsE N E) T b k (l ++ [b]) v6 w6) := by
                       refine ⟨(HA3.out.kept hA (by simp)).kept hg6 (fun e => by
                         obtain ⟨o, ho, hc⟩ := HA3.out.obj
                         exact HR3.out.no ho hc e.symm), hf6, (Hg3.out.trans hA).andThen hg6 (fun q e => .inl (HR3.out.lt e).1), ?_, by rw [List.length_append, List.length_singleton]; have := HC.out.len; omega⟩
                       have h1 := HC.out.whole
                       have h2 : wayZ (EdR E) s (outsE N E) (k + 1) now = b :: wayZ (EdR E) s (outsE N E) k b := by
                         show (pickD (EdR E) s (outsE N E now) (k + 1)).getD now :: wayZ (EdR E) s (outsE N E) k ((pickD (EdR E) s (outsE N E now) (k + 1)).getD now) = _
                         rw [HP.out]
                         rfl
                       rw [h2] at h1
                       rw [List.append_assoc]
                       exact h1
                     clear hf6 hg6 hl6 hA)
                  | go_in)
                try go_roundw
                first
                  | (case rel => exact ⟨b, k, l ++ [b], rfl, by first | rfl | go_num, HbN.out, H6.out⟩)
                  | exact ⟨⟨b, k, l ++ [b], rfl, by first | rfl | go_num, HbN.out, H6.out⟩, by simp [intOf]; omega⟩
                try (case measure => simp only [intOf]; omega)
              · have e1 : (((d : Nat) : Int) == (k : Int) + 1) = false := by simp; omega
                have e2 : (((d : Nat) : Int) == ((k + 1 : Nat) : Int)) = false := by simp; omega
                have HQ2 : Hid (∀ j, j < q + 1 → ¬ Dst (EdR E) s ((outsE N E now).getD j 0) (k + 1)) := fun j hj => by
                  by_cases e : j = q
                  · subst e
                    rw [hb]
                    exact fun h => hdk (hd.same h)
                  · exact HQ.out j (by omega)
                clear hsl hbo hb hbN hbL hd hdn hde hqo
                go_wp2
                go_roundw
                case rel => exact ⟨q + 1, by omega, by go_num, by first | rfl | trivial, by first | rfl | trivial, HQ2.out⟩
                case measure => simp [intOf]; omega
            · rw [decide_eq_false hbL, if_neg hbL] at hlk
              have HQ2 : Hid (∀ j, j < q + 1 → ¬ Dst (EdR E) s ((outsE N E now).getD j 0) (k + 1)) := fun j hj => by
                by_cases e : j = q
                · subst e
                  rw [hb]
                  exact fun h => hbL ((KA.out.2.1 b).2 ⟨_, h⟩)
                · exact HQ.out j (by omega)
              clear hsl hbo hb hbN hbL hqo
              go_wp2
              go_roundw
              case rel => exact ⟨q + 1, by omega, by go_num, by first | rfl | trivial, by first | rfl | trivial, HQ2.out⟩
              case measure => simp [intOf]; omega
          · have HP : Hid (pickD (EdR E) s (outsE N E now) (k + 1) = none) := by
              show List.find? _ _ = _
              exact find_no_place (d := 0) fun j hj => decide_eq_false (HQ.out j (by rw [Hm.out] at hj; omega))
            have HbN := Lib.hid HnN.out
            go_wp2_with (first
              | (at_builtin; refine wpList_append_o rfl _ _ rfl V.heap.size u6 l now rfl (HR3.out.alloc _) ⟨wr.heap.size, 0, none⟩ 1 rfl (news_new wr #[iv now] 3) hll (by have := Hg3.out.size; simp; omega) ?_
                 intro v6 w6 hf6 hg6 hl6
                 have hA := World.grownBy_alloc wr (.cells #[iv now] 3) none
                 have H6 : Hid (CyAt V am ka La fa (EdR E) s (outsE N E) T now k (l ++ [now]) v6 w6) := by
                   refine ⟨(HA3.out.kept hA (by simp)).kept hg6 (fun e => by
                     obtain ⟨o, ho, hc⟩ := HA3.out.obj
                     exact HR3.out.no ho hc e.symm), hf6, (Hg3.out.trans hA).andThen hg6 (fun q e => .inl (HR3.out.lt e).1), ?_, by rw [List.length_append, List.length_singleton]; have := HC.out.len; omega⟩
                   have h1 := HC.out.whole
                   have h2 : wayZ (EdR E) s (outsE N E) (k + 1) now = now :: wayZ (EdR E) s (outsE N E) k now := by
                     show (pickD (EdR E) s (outsE N E now) (k + 1)).getD now :: wayZ (EdR E) s (outsE N E) k ((pickD (EdR E) s (outsE N E now) (k + 1)).getD now) = _
                     rw [HP.out]
                     rfl
                   rw [h2] at h1
                   rw [List.append_assoc]
                   exact h1
                 clear hf6 hg6 hl6 hA)
              | go_in)
            try go_roundw
            first
              | (case rel => exact ⟨now, k, l ++ [now], rfl, by first | rfl | go_num, HbN.out, H6.out⟩)
              | exact ⟨⟨now, k, l ++ [now], rfl, by first | rfl | go_num, HbN.out, H6.out⟩, by simp [intOf]; omega⟩
            try (case measure => simp only [intOf]; omega)
end Go.Proofs.YthgkloapnihpaaaGreat

/- The chapter's examples: what they are (plain). -/
namespace Go.Proofs.YthgkloapnihpaaaGreat
open Go.RowKit Go.Maps Go.WideMaps Go.WideElems Go.ChangeShapes Go.WideShapes
open Classical

abbrev es1 : List Ed := [(1, 2, 1), (2, 3, 1), (3, 2, 1), (3, 1, 2)]
abbrev es2 : List Ed := [(5, 4, 1), (6, 4, 1)]
abbrev n1 : List Int := [1, 2, 3, 7]
abbrev n2 : List Int := [1, 4, 5, 6]
abbrev g1 : List Ed := [(1, 2, 1), (2, 3, 1), (3, 1, 2), (3, 2, 1)]
theorem nodes_1 : nodesOf es1 [7] = n1 := by rfl
theorem nodes_2 : nodesOf es2 [1] = n2 := by rfl
theorem edges_1 : edgesUp es1 = g1 := by rfl
theorem edges_2 : edgesUp es2 = es2 := by rfl
theorem topo_1 : topoZ n1 g1 n1.length [] = none := by rfl
theorem topo_2 : topoZ n2 es2 n2.length [] = some [1, 5, 6, 4] := by rfl
theorem r_1 {a b : Int} : EdR g1 a b ↔ (a = 1 ∧ b = 2) ∨ (a = 2 ∧ b = 3) ∨ (a = 3 ∧ b = 1) ∨ (a = 3 ∧ b = 2) := by
  unfold EdR
  constructor
  · rintro ⟨k, h⟩
    simp at h
    omega
  · rintro (⟨rfl, rfl⟩ | ⟨rfl, rfl⟩ | ⟨rfl, rfl⟩ | ⟨rfl, rfl⟩)
    · exact ⟨1, by simp⟩
    · exact ⟨1, by simp⟩
    · exact ⟨2, by simp⟩
    · exact ⟨1, by simp⟩
theorem r_2 {a b : Int} : EdR es2 a b ↔ (a = 5 ∧ b = 4) ∨ (a = 6 ∧ b = 4) := by
  unfold EdR
  constructor
  · rintro ⟨k, h⟩
    simp at h
    omega
  · rintro (⟨rfl, rfl⟩ | ⟨rfl, rfl⟩)
    · exact ⟨1, by simp⟩
    · exact ⟨1, by simp⟩
theorem steps_zero {R : Int → Int → Prop} {s a : Int} (h : Steps R s 0 a) : a = s := by cases h; rfl
theorem steps_one {R : Int → Int → Prop} {s a : Int} {n : Nat} (h : Steps R s (n + 1) a) : ∃ b, R a b ∧ Steps R s n b := by
  cases h with
  | next h1 h2 => exact ⟨_, h1, h2⟩
theorem r12 : EdR g1 1 2 := r_1.2 (.inl ⟨rfl, rfl⟩)
theorem r23 : EdR g1 2 3 := r_1.2 (.inr (.inl ⟨rfl, rfl⟩))
theorem r31 : EdR g1 3 1 := r_1.2 (.inr (.inr (.inl ⟨rfl, rfl⟩)))
theorem dst_31 : Dst (EdR g1) 1 3 1 := by
  refine ⟨.next r31 .zero, fun m h => ?_⟩
  cases m with
  | zero => have := steps_zero h; omega
  | succ m => omega
theorem dst_22 : Dst (EdR g1) 1 2 2 := by
  refine ⟨.next r23 dst_31.1, fun m h => ?_⟩
  match m, h with
  | 0, h => have := steps_zero h; omega
  | 1, h =>
    obtain ⟨b, h1, h2⟩ := steps_one h
    have h3 := steps_zero h2
    have h4 := r_1.1 h1
    omega
  | m + 2, _ => omega
theorem near_1 : Near (EdR g1) 1 1 2 := by
  refine ⟨⟨2, r12, dst_22⟩, fun b n hb hn => ?_⟩
  have h1 := r_1.1 hb
  have h2 : b = 2 := by omega
  subst h2
  have := dst_22.same hn
  omega
theorem lead_1 : Leads (EdR g1) 2 1 ∧ Leads (EdR g1) 3 1 ∧ Leads (EdR g1) 1 2 ∧ Leads (EdR g1) 1 3 := by
  have h31 : Leads (EdR g1) 3 1 := .step r31 (.refl _)
  have h23 : Leads (EdR g1) 2 3 := .step r23 (.refl _)
  have h12 : Leads (EdR g1) 1 2 := .step r12 (.refl _)
  exact ⟨h23.trans h31, h31, h12, h12.trans h23⟩
theorem rise_1 : RiseI n1 := by unfold RiseI; decide
theorem start_1 : startZ (EdR g1) n1 = some 1 := by
  refine (startZ_is rise_1).2 ⟨by simp, ⟨2, r12, lead_1.1⟩, fun y hy _ => ?_⟩
  simp at hy
  omega
theorem way_1 : wayZ (EdR g1) 1 (outsE n1 g1) 2 1 = [2, 3] := by
  have e1 : pickD (EdR g1) 1 (outsE n1 g1 1) 2 = some 2 := by
    rw [show outsE n1 g1 1 = [2] from by rfl]
    exact (pick_is (by unfold RiseI; decide)).2 ⟨by simp, dst_22, fun y hy _ => by simp at hy; omega⟩
  have e2 : pickD (EdR g1) 1 (outsE n1 g1 2) 1 = some 3 := by
    rw [show outsE n1 g1 2 = [3] from by rfl]
    exact (pick_is (by unfold RiseI; decide)).2 ⟨by simp, dst_31, fun y hy _ => by simp at hy; omega⟩
  show (pickD (EdR g1) 1 (outsE n1 g1 1) 2).getD 1 :: wayZ (EdR g1) 1 (outsE n1 g1) 1 ((pickD (EdR g1) 1 (outsE n1 g1 1) 2).getD 1) = _
  rw [e1]
  show 2 :: ((pickD (EdR g1) 1 (outsE n1 g1 2) 1).getD 2 :: []) = _
  rw [e2]
  rfl
theorem cycle_1 : cycIs (EdR g1) n1 (outsE n1 g1) [1, 2, 3] := .inr ⟨1, 2, start_1, near_1, by rw [way_1]⟩
theorem parts_1 : (partsOf (EdR g1) n1).length = 2 := by
  unfold partsOf
  rw [List.length_map]
  have h1 : decide (∀ y ∈ n1, Mutual (EdR g1) 1 y → (1 : Int) ≤ y) = true := decide_eq_true (fun y hy _ => by simp at hy; omega)
  have h2 : decide (∀ y ∈ n1, Mutual (EdR g1) 2 y → (2 : Int) ≤ y) = false := decide_eq_false (fun h => by have := h 1 (by simp) ⟨lead_1.1, lead_1.2.2.1⟩; omega)
  have h3 : decide (∀ y ∈ n1, Mutual (EdR g1) 3 y → (3 : Int) ≤ y) = false := decide_eq_false (fun h => by have := h 1 (by simp) ⟨lead_1.2.1, lead_1.2.2.2⟩; omega)
  have h7 : decide (∀ y ∈ n1, Mutual (EdR g1) 7 y → (7 : Int) ≤ y) = true := decide_eq_true (fun y _ h => by
    cases h.1 with
    | refl => exact Int.le_refl _
    | step h1 _ => have := r_1.1 h1; omega)
  unfold reps
  simp only [List.filter_cons, h1, h2, h3, h7, List.filter_nil]
  rfl
theorem start_2 : startZ (EdR es2) n2 = none := by
  refine startZ_no.2 fun y _ h => ?_
  obtain ⟨c, h1, h2⟩ := h
  have h3 := r_2.1 h1
  have h4 : c = 4 := by omega
  subst h4
  cases h2 with
  | refl => omega
  | step h5 _ => have := r_2.1 h5; omega
theorem cycle_2 {l : List Int} (h : cycIs (EdR es2) n2 (outsE n2 es2) l) : l = [] := cycIs_same h (.inl ⟨start_2, rfl⟩)
end Go.Proofs.YthgkloapnihpaaaGreat

/- The chapter's examples hold: first, by a contract. -/
namespace Go.Proofs.YthgkloapnihpaaaGreat
open Go.RowKit Go.Maps Go.WideMaps Go.WideElems Go.ChangeShapes Go.WideShapes

theorem TwoGr.at0 {B0 g c : Nat} {N : List Int} {E : List Ed} {a a' : Option Addr} {W : World} (h : TwoGr B0 g c N E a a' W) : ∃ Z B, GrAt Z B g c N E W := by
  obtain ⟨Z, B, -, hg, -⟩ := h.gr
  exact ⟨Z, B, hg⟩
set_option maxRecDepth 100000 in
theorem made_1 (W : World) (b1 b2 : Nat) (h1 : SlE W (some ⟨b1, 0, none⟩) es1) (h2 : SlI W (some ⟨b2, 0, none⟩) [7]) :
    Calls Tryz.prog 5 #[.slice (some ⟨b1, 0, none⟩) 4 4, .slice (some ⟨b2, 0, none⟩) 1 1] W fun e w' => ∃ g c a k a' k', e = .returned (.tuple #[.pointer (some ⟨g, 0, none⟩), gval a 4 k a' 4 k']) ∧ Hid (c ≤ 100000 ∧ (∃ Z B, GrAt Z B g c n1 g1 w') ∧ Below W.heap.size W w') := by
  have h := made_any (some ⟨b1, 0, none⟩) 4 es1 (some ⟨b2, 0, none⟩) 1 [7] (by decide) (by decide) (by decide) (by decide) W h1 h2
  refine h.mono ?_
  rintro e w' ⟨g, c, a, k, a', k', rfl, K⟩
  obtain ⟨k1, k2, k3⟩ := K.out
  rw [nodes_1, edges_1] at k2
  exact ⟨g, c, a, k, a', k', by rw [nodes_1, edges_1]; rfl, by omega, k2.at0, k3⟩
set_option maxRecDepth 100000 in
theorem made_2 (W : World) (b1 b2 : Nat) (h1 : SlE W (some ⟨b1, 0, none⟩) es2) (h2 : SlI W (some ⟨b2, 0, none⟩) [1]) :
    Calls Tryz.prog 5 #[.slice (some ⟨b1, 0, none⟩) 2 2, .slice (some ⟨b2, 0, none⟩) 1 1] W fun e w' => ∃ g c a k a' k', e = .returned (.tuple #[.pointer (some ⟨g, 0, none⟩), gval a 4 k a' 2 k']) ∧ Hid (c ≤ 100000 ∧ (∃ Z B, GrAt Z B g c n2 es2 w') ∧ Below W.heap.size W w') := by
  have h := made_any (some ⟨b1, 0, none⟩) 2 es2 (some ⟨b2, 0, none⟩) 1 [1] (by decide) (by decide) (by decide) (by decide) W h1 h2
  refine h.mono ?_
  rintro e w' ⟨g, c, a, k, a', k', rfl, K⟩
  obtain ⟨k1, k2, k3⟩ := K.out
  rw [nodes_2, edges_2] at k2
  exact ⟨g, c, a, k, a', k', by rw [nodes_2, edges_2]; rfl, by omega, k2.at0, k3⟩
theorem sle_1 {W : World} {b : Nat} {t : TypeId} (h : W.heap[b]? = some (.cells #[iv 1, iv 2, iv 1, iv 2, iv 3, iv 1, iv 3, iv 2, iv 1, iv 3, iv 1, iv 2] t)) : SlE W (some ⟨b, 0, none⟩) es1 := by
  have hb := (Array.getElem?_eq_some_iff.1 h).1
  refine .inr ⟨b, 0, rfl, fun _ => hb, fun k p hk => ?_⟩
  match k, hk with
  | 0, hk => cases hk; exact ⟨cell_of_row _ _ 0 _ _ _ h, cell_of_row _ _ 1 _ _ _ h, cell_of_row _ _ 2 _ _ _ h⟩
  | 1, hk => cases hk; exact ⟨cell_of_row _ _ 3 _ _ _ h, cell_of_row _ _ 4 _ _ _ h, cell_of_row _ _ 5 _ _ _ h⟩
  | 2, hk => cases hk; exact ⟨cell_of_row _ _ 6 _ _ _ h, cell_of_row _ _ 7 _ _ _ h, cell_of_row _ _ 8 _ _ _ h⟩
  | 3, hk => cases hk; exact ⟨cell_of_row _ _ 9 _ _ _ h, cell_of_row _ _ 10 _ _ _ h, cell_of_row _ _ 11 _ _ _ h⟩
  | k + 4, hk => simp at hk
theorem sle_2 {W : World} {b : Nat} {t : TypeId} (h : W.heap[b]? = some (.cells #[iv 5, iv 4, iv 1, iv 6, iv 4, iv 1] t)) : SlE W (some ⟨b, 0, none⟩) es2 := by
  have hb := (Array.getElem?_eq_some_iff.1 h).1
  refine .inr ⟨b, 0, rfl, fun _ => hb, fun k p hk => ?_⟩
  match k, hk with
  | 0, hk => cases hk; exact ⟨cell_of_row _ _ 0 _ _ _ h, cell_of_row _ _ 1 _ _ _ h, cell_of_row _ _ 2 _ _ _ h⟩
  | 1, hk => cases hk; exact ⟨cell_of_row _ _ 3 _ _ _ h, cell_of_row _ _ 4 _ _ _ h, cell_of_row _ _ 5 _ _ _ h⟩
  | k + 2, hk => simp at hk
theorem sli_1 {W : World} {b : Nat} {x : Int} {t : TypeId} (h : W.heap[b]? = some (.cells #[iv x] t)) : SlI W (some ⟨b, 0, none⟩) [x] := by
  have hb := (Array.getElem?_eq_some_iff.1 h).1
  refine .inr ⟨b, 0, rfl, fun _ => hb, fun k p hk => ?_⟩
  match k, hk with
  | 0, hk => cases hk; exact cell_of_row _ _ 0 _ _ _ h
  | k + 1, hk => simp at hk
theorem sli_3 {W : World} {b : Nat} {x y z : Int} {t : TypeId} (h : W.heap[b]? = some (.cells #[iv x, iv y, iv z] t)) : SlI W (some ⟨b, 0, none⟩) [x, y, z] := by
  have hb := (Array.getElem?_eq_some_iff.1 h).1
  refine .inr ⟨b, 0, rfl, fun _ => hb, fun k p hk => ?_⟩
  match k, hk with
  | 0, hk => cases hk; exact cell_of_row _ _ 0 _ _ _ h
  | 1, hk => cases hk; exact cell_of_row _ _ 1 _ _ _ h
  | 2, hk => cases hk; exact cell_of_row _ _ 2 _ _ _ h
  | k + 3, hk => simp at hk
theorem sli_4 {W : World} {b : Nat} {x y z u : Int} {t : TypeId} (h : W.heap[b]? = some (.cells #[iv x, iv y, iv z, iv u] t)) : SlI W (some ⟨b, 0, none⟩) [x, y, z, u] := by
  have hb := (Array.getElem?_eq_some_iff.1 h).1
  refine .inr ⟨b, 0, rfl, fun _ => hb, fun k p hk => ?_⟩
  match k, hk with
  | 0, hk => cases hk; exact cell_of_row _ _ 0 _ _ _ h
  | 1, hk => cases hk; exact cell_of_row _ _ 1 _ _ _ h
  | 2, hk => cases hk; exact cell_of_row _ _ 2 _ _ _ h
  | 3, hk => cases hk; exact cell_of_row _ _ 3 _ _ _ h
  | k + 4, hk => simp at hk
/-- A box made. -/
theorem obj_any (w : World) (o : Obj) : ∃ W, w.alloc o = W ∧ Hid (Below w.heap.size w W) ∧ Hid (w.heap.size < W.heap.size) ∧ Hid (W.heap[w.heap.size]? = some o) :=
  ⟨_, rfl, (Below.refl _ _).alloc (Nat.le_refl _) _, by show _ < _; simp, World.alloc_heap_new w _⟩
set_option maxRecDepth 100000 in
theorem top_1 {g c : Nat} (hc : c ≤ 100000) (W : World) (h : ∃ Z B, GrAt Z B g c n1 g1 W) : Calls Tryz.prog 15 #[.pointer (some ⟨g, 0, none⟩)] W fun e w' => ∃ v, e = .returned (.tuple #[v, .bool false]) ∧ Hid (Below W.heap.size W w') := by
  obtain ⟨Z, B, h⟩ := h
  refine (topo_p hc (by decide) W h).mono ?_
  rintro e w' ⟨v, O, ok, rfl, K⟩
  obtain ⟨k1, k2, k3⟩ := K.out
  rw [topo_1] at k2
  rcases k2 with ⟨-, -, rfl⟩ | ⟨h2, -⟩
  · exact ⟨v, rfl, k3⟩
  · cases h2
set_option maxRecDepth 100000 in
theorem top_2 {g c : Nat} (hc : c ≤ 100000) (W : World) (h : ∃ Z B, GrAt Z B g c n2 es2 W) : Calls Tryz.prog 15 #[.pointer (some ⟨g, 0, none⟩)] W fun e w' => ∃ p c, e = .returned (.tuple #[.slice p 4 c, .bool true]) ∧ Hid (SlI w' p [1, 5, 6, 4] ∧ Below W.heap.size W w') := by
  obtain ⟨Z, B, h⟩ := h
  refine (topo_p hc (by decide) W h).mono ?_
  rintro e w' ⟨v, O, ok, rfl, K⟩
  obtain ⟨k1, k2, k3⟩ := K.out
  rw [topo_2] at k2
  rcases k2 with ⟨h2, -, -⟩ | ⟨h2, rfl⟩
  · cases h2
  · cases h2
    obtain ⟨p, c, rfl, hs⟩ := k1.sl
    exact ⟨p, c, rfl, hs, k3⟩
set_option maxRecDepth 100000 in
theorem cyc_1 {g c : Nat} (hc : c ≤ 100000) (W : World) (h : ∃ Z B, GrAt Z B g c n1 g1 W) : Calls Tryz.prog 16 #[.pointer (some ⟨g, 0, none⟩)] W fun e w' => ∃ p c, e = .returned (.slice p 3 c) ∧ Hid (SlI w' p [1, 2, 3] ∧ Below W.heap.size W w') := by
  obtain ⟨Z, B, h⟩ := h
  refine (cycle_p hc (by decide) W h).mono ?_
  rintro e w' ⟨v, l, rfl, K⟩
  obtain ⟨k1, k2, k3⟩ := K.out
  have e := cycIs_same k2 cycle_1
  subst e
  obtain ⟨p, c, rfl, hs⟩ := k1.sl
  exact ⟨p, c, rfl, hs, k3⟩
set_option maxRecDepth 100000 in
theorem cyc_2 {g c : Nat} (hc : c ≤ 100000) (W : World) (h : ∃ Z B, GrAt Z B g c n2 es2 W) : Calls Tryz.prog 16 #[.pointer (some ⟨g, 0, none⟩)] W fun e w' => ∃ p c, e = .returned (.slice p 0 c) ∧ Hid (Below W.heap.size W w') := by
  obtain ⟨Z, B, h⟩ := h
  refine (cycle_p hc (by decide) W h).mono ?_
  rintro e w' ⟨v, l, rfl, K⟩
  obtain ⟨k1, k2, k3⟩ := K.out
  have e := cycle_2 k2
  subst e
  obtain ⟨p, c, rfl, -⟩ := k1.sl
  exact ⟨p, c, rfl, k3⟩
set_option maxRecDepth 100000 in
theorem par_1 {g c : Nat} (hc : c ≤ 100000) (W : World) (h : ∃ Z B, GrAt Z B g c n1 g1 W) : Calls Tryz.prog 17 #[.pointer (some ⟨g, 0, none⟩)] W fun e w' => ∃ p c, e = .returned (.slice p 2 c) ∧ Hid (Below W.heap.size W w') := by
  obtain ⟨Z, B, h⟩ := h
  refine (parts_p hc (by decide) W h).mono ?_
  rintro e w' ⟨v, ps, rfl, K⟩
  obtain ⟨k1, k2, k3⟩ := K.out
  have hl : ps.length = 2 := by
    have := congrArg List.length k2
    rw [List.length_map, parts_1] at this
    exact this
  obtain ⟨p, c, rfl⟩ := row_sl k1.row
  rw [hl]
  exact ⟨p, c, rfl, k3⟩
theorem gat_below {g c : Nat} {N : List Int} {E : List Ed} {W W' : World} (h : ∃ Z B, GrAt Z B g c N E W) (hb : Below W.heap.size W W') : ∃ Z B, GrAt Z B g c N E W' := by
  obtain ⟨Z, B, h⟩ := h
  exact ⟨Z, B, h.below hb⟩
set_option maxHeartbeats 128000000 in
set_option maxRecDepth 100000 in
theorem first_any (w : World) : Calls Tryz.prog 4 #[] w fun e w' => e = .returned (.bool true) ∧ Hid (Below w.heap.size w w') := by
  obtain ⟨W1, hW1, Hb1, hs1, Hx1⟩ := obj_any w (.cells #[iv 1, iv 2, iv 1, iv 2, iv 3, iv 1, iv 3, iv 2, iv 1, iv 3, iv 1, iv 2] 45)
  obtain ⟨W2, hW2, Hb2, hs2, Hx2⟩ := obj_any W1 (.cells #[iv 7] 3)
  have HM1 := Lib.hid (made_1 W2 w.heap.size W1.heap.size (sle_1 ((Hb2.out.block _ hs1.out).trans Hx1.out)) (sli_1 Hx2.out))
  have HB2 : Hid (Below w.heap.size w W2) := Hb1.out.trans (Hb2.out.mono Hb1.out.size)
  clear Hb1 Hb2 hs1 hs2 Hx1 Hx2
  go_enter Tryz.func4, Tryz.ntmps4
  go_wp2_with (first
    | (go_at_call 5; first
        | ((with_reducible refine HM1.out.mono ?_); rintro e w3 ⟨g, c, a, k, a', k', rfl, K3⟩
           obtain ⟨W4, hW4, Hb4, hs4, Hx4⟩ := obj_any w3 (.cells #[.slice a 4 k, .slice a' 4 k'] 28)
           obtain ⟨W5, hW5, Hb5, hs5, Hx5⟩ := obj_any W4 (.cells #[iv 5, iv 4, iv 1, iv 6, iv 4, iv 1] 45)
           obtain ⟨W6, hW6, Hb6, hs6, Hx6⟩ := obj_any W5 (.cells #[iv 1] 3)
           have HM2 := Lib.hid (made_2 W6 W4.heap.size W5.heap.size (sle_2 ((Hb6.out.block _ hs5.out).trans Hx5.out)) (sli_1 Hx6.out))
           have HB6 : Hid (Below w3.heap.size w3 W6) := (Hb4.out.trans (Hb5.out.mono Hb4.out.size)).trans (Hb6.out.mono (Nat.le_trans Hb4.out.size Hb5.out.size))
           clear Hb4 Hb5 Hb6 hs4 hs5 hs6 Hx4 Hx5 Hx6)
        | ((with_reducible refine HM2.out.mono ?_); rintro e w7 ⟨g2, c2, a2, k2, a3, k3, rfl, K7⟩
           obtain ⟨W8, hW8, Hb8, hs8, Hx8⟩ := obj_any w7 (.cells #[.slice a2 4 k2, .slice a3 2 k3] 28)
           have HB8 : Hid (Below w3.heap.size w3 W8) := (HB6.out.trans (K7.out.2.2.mono HB6.out.size)).trans (Hb8.out.mono (Nat.le_trans HB6.out.size K7.out.2.2.size))
           have HG1 : Hid (∃ Z B, GrAt Z B g c n1 g1 W8) := by
             obtain ⟨Z, B, h⟩ := K3.out.2.1
             exact ⟨Z, B, h.below HB8.out⟩
           have HG2 : Hid (∃ Z B, GrAt Z B g2 c2 n2 es2 W8) := by
             obtain ⟨Z, B, h⟩ := K7.out.2.1
             exact ⟨Z, B, h.below Hb8.out⟩
           have HB9 : Hid (Below w.heap.size w W8) := (HB2.out.trans (K3.out.2.2.mono HB2.out.size)).trans (HB8.out.mono (Nat.le_trans HB2.out.size K3.out.2.2.size))
           have hc1 : c ≤ 100000 := K3.out.1
           have hc2 : c2 ≤ 100000 := K7.out.1
           have HT1 := Lib.hid (top_1 hc1 W8 HG1.out)
           clear Hb8 hs8 Hx8))
    | (go_at_call 15; first
        | ((with_reducible refine HT1.out.mono ?_); rintro e w9 ⟨v9, rfl, K9⟩
           have HT2 := Lib.hid (top_2 hc2 w9 (gat_below HG2.out K9.out)))
        | ((with_reducible refine HT2.out.mono ?_); rintro e w10 ⟨p10, c10, rfl, K10⟩
           have HB10 : Hid (Below W8.heap.size W8 w10) := K9.out.trans (K10.out.2.mono K9.out.size)
           have HC1 := Lib.hid (cyc_1 hc1 w10 (gat_below HG1.out HB10.out))))
    | (go_at_call 16; first
        | ((with_reducible refine HC1.out.mono ?_); rintro e w11 ⟨p11, c11, rfl, K11⟩
           obtain ⟨W12, hW12, Hb12, hs12, Hx12⟩ := obj_any w11 (.cells #[iv 1, iv 2, iv 3] 3)
           have HS1 : Hid (Calls Tryz.prog 13 #[.slice p11 3 c11, .slice (some ⟨w11.heap.size, 0, none⟩) 3 3] W12 fun e w' => e = .returned (.bool true) ∧ Hid (Below W12.heap.size W12 w')) := same_ints p11 _ c11 3 [1, 2, 3] (by decide) W12 (K11.out.1.gro Hb12.out (Nat.le_refl _)) (sli_3 Hx12.out)
           have HB12 : Hid (Below w10.heap.size w10 W12) := K11.out.2.trans (Hb12.out.mono K11.out.2.size)
           clear Hb12 hs12 Hx12)
        | ((with_reducible refine HC2.out.mono ?_); rintro e w17 ⟨p17, c17, rfl, K17⟩))
    | (go_at_call 13; first
        | ((with_reducible refine HS1.out.mono ?_); rintro e w13 ⟨rfl, K13⟩
           obtain ⟨W14, hW14, Hb14, hs14, Hx14⟩ := obj_any w13 (.cells #[iv 1, iv 5, iv 6, iv 4] 3)
           have HB14 : Hid (Below w10.heap.size w10 W14) := (HB12.out.trans (K13.out.mono HB12.out.size)).trans (Hb14.out.mono (Nat.le_trans HB12.out.size K13.out.size))
           have HS2 : Hid (Calls Tryz.prog 13 #[.slice p10 4 c10, .slice (some ⟨w13.heap.size, 0, none⟩) 4 4] W14 fun e w' => e = .returned (.bool true) ∧ Hid (Below W14.heap.size W14 w')) := same_ints p10 _ c10 4 [1, 5, 6, 4] (by decide) W14 (K10.out.1.gro HB14.out (Nat.le_refl _)) (sli_4 Hx14.out)
           clear Hb14 hs14 Hx14)
        | ((with_reducible refine HS2.out.mono ?_); rintro e w15 ⟨rfl, K15⟩
           have HB15 : Hid (Below W8.heap.size W8 w15) := HB10.out.trans ((HB14.out.trans (K15.out.mono HB14.out.size)).mono HB10.out.size)
           have HP1 := Lib.hid (par_1 hc1 w15 (gat_below HG1.out HB15.out))))
    | (go_at_call 17; (with_reducible refine HP1.out.mono ?_); rintro e w16 ⟨p16, c16, rfl, K16⟩
       have HC2 := Lib.hid (cyc_2 hc2 w16 (gat_below HG2.out (HB15.out.trans (K16.out.mono HB15.out.size)))))
    | go_in)
  go_ret
  have h1 := HB9.out.trans (HB15.out.mono HB9.out.size)
  have h2 := h1.trans (K16.out.mono h1.size)
  exact ⟨rfl, h2.trans (K17.out.mono h2.size)⟩
end Go.Proofs.YthgkloapnihpaaaGreat

/- Where a node stands in a list; is a node held: contracts. -/
namespace Go.Proofs.YthgkloapnihpaaaGreat
open Go.RowKit Go.Maps Go.WideMaps Go.WideElems Go.ChangeShapes Go.WideShapes

/-- Where a number stands first. -/
def placeZ (l : List Int) (x : Int) : Int := if x ∈ l then (l.idxOf x : Int) else -1
theorem idx_at : ∀ {l : List Int} {q : Nat} {x : Int}, q < l.length → l.getD q 0 = x → (∀ j, j < q → l.getD j 0 ≠ x) → x ∈ l ∧ l.idxOf x = q
  | [], q, x, h, _, _ => by simp at h
  | a :: l, 0, x, _, h, _ => by
    have h1 : a = x := h
    subst h1
    simp
  | a :: l, q + 1, x, h, h2, h3 => by
    have ha : a ≠ x := h3 0 (by omega)
    obtain ⟨h4, h5⟩ := idx_at (l := l) (q := q) (x := x) (by simpa using h) (by simpa using h2) (fun j hj => by have := h3 (j + 1) (by omega); simpa using this)
    refine ⟨by simp [h4], ?_⟩
    have hb : (a == x) = false := by simpa using ha
    rw [List.idxOf_cons, hb, h5]
    rfl
theorem placeZ_at {l : List Int} {q : Nat} {x : Int} (h : q < l.length) (h2 : l.getD q 0 = x) (h3 : ∀ j, j < q → l.getD j 0 ≠ x) : placeZ l x = (q : Int) := by
  obtain ⟨h4, h5⟩ := idx_at h h2 h3
  rw [placeZ, if_pos h4, h5]
theorem placeZ_no {l : List Int} {x : Int} (h : ∀ j, j < l.length → l.getD j 0 ≠ x) : placeZ l x = -1 := by
  rw [placeZ, if_neg fun hx => ?_]
  obtain ⟨j, hj, rfl⟩ := List.mem_iff_getElem.1 hx
  exact h j hj (by rw [List.getD_eq_getElem?_getD, List.getElem?_eq_getElem hj]; rfl)
theorem kinds_some {E : List Ed} {a b : Int} : 0 < (kindsE E a b).length ↔ EdR E a b := by
  rw [List.length_pos_iff_exists_mem]
  unfold kindsE EdR
  constructor
  · rintro ⟨k, h⟩
    obtain ⟨⟨a', b', k'⟩, h1, h2⟩ := List.mem_map.1 h
    have h3 := (List.mem_filter.1 h1)
    have h4 : a' = a ∧ b' = b := by simpa using h3.2
    obtain ⟨rfl, rfl⟩ := h4
    exact ⟨k', h3.1⟩
  · rintro ⟨k, h⟩
    exact ⟨k, List.mem_map.2 ⟨(a, b, k), List.mem_filter.2 ⟨h, by simp⟩, rfl⟩⟩
end Go.Proofs.YthgkloapnihpaaaGreat

/- What an order tells, and that there is one where nothing goes round (plain). -/
namespace Go.Proofs.YthgkloapnihpaaaGreat
open Go.RowKit Go.Maps Go.WideMaps Go.WideElems Go.ChangeShapes Go.WideShapes
open Classical

section
variable {N : List Int} {E : List Ed}
theorem topo_steps : ∀ (k : Nat) (O l : List Int), topoZ N E k O = some l → l.length = O.length + k ∧ l.take O.length = O ∧ ∀ i, O.length ≤ i → i < l.length → ∃ rest, freeN N E (l.take i) = l.getD i 0 :: rest
  | 0, O, l, h => by
    have h1 : O = l := by simpa [topoZ] using h
    subst h1
    exact ⟨rfl, List.take_length, fun i h1 h2 => by omega⟩
  | k + 1, O, l, h => by
    unfold topoZ at h
    split at h
    · cases h
    · rename_i n rest hf
      obtain ⟨h1, h2, h3⟩ := topo_steps k (O ++ [n]) l h
      rw [List.length_append, List.length_singleton] at h1 h2 h3
      have ht : l.take O.length = O := by
        have h4 := congrArg (List.take O.length) h2
        rw [List.take_take, Nat.min_eq_left (by omega)] at h4
        rw [h4]
        simp
      have hg : l.getD O.length 0 = n := by
        have h4 := congrArg (fun z => z[O.length]?) h2
        simp only [List.getElem?_take] at h4
        rw [if_pos (by omega)] at h4
        rw [List.getD_eq_getElem?_getD, h4]
        simp
      refine ⟨by omega, ht, fun i hi hlt => ?_⟩
      by_cases e : i = O.length
      · subst e
        rw [ht, hg]
        exact ⟨rest, hf⟩
      · exact h3 i (by omega) hlt
/-- An order of all. -/
structure Order (N : List Int) (E : List Ed) (l : List Int) : Prop where
  len : l.length = N.length
  free : ∀ i, i < l.length → ∃ rest, freeN N E (l.take i) = l.getD i 0 :: rest
theorem order_of {l : List Int} (h : topoZ N E N.length [] = some l) : Order N E l := by
  obtain ⟨h1, -, h3⟩ := topo_steps _ _ _ h
  exact ⟨by simpa using h1, fun i hi => h3 i (Nat.zero_le _) hi⟩
variable {l : List Int}
theorem Order.at (h : Order N E l) {i : Nat} (hi : i < l.length) : l.getD i 0 ∈ N ∧ l.getD i 0 ∉ l.take i ∧ holdN N E (l.take i) (l.getD i 0) = 0 := by
  obtain ⟨rest, hr⟩ := h.free i hi
  refine mem_freeN.1 ?_
  rw [hr]
  simp
theorem mem_take_getD {l : List Int} {i j : Nat} (hj : j < i) (hl : j < l.length) : l.getD j 0 ∈ l.take i := by
  rw [List.getD_eq_getElem?_getD, List.getElem?_eq_getElem hl]
  exact List.mem_take_iff_getElem.2 ⟨j, by omega, rfl⟩
theorem in_take {l : List Int} {i : Nat} {x : Int} (h : x ∈ l.take i) : ∃ j, j < i ∧ j < l.length ∧ l.getD j 0 = x := by
  obtain ⟨j, hj, rfl⟩ := List.mem_take_iff_getElem.1 h
  exact ⟨j, by omega, by omega, by rw [List.getD_eq_getElem?_getD, List.getElem?_eq_getElem (by omega)]; rfl⟩
theorem Order.once (h : Order N E l) : l.Nodup := by
  refine List.pairwise_iff_getElem.2 fun i j hi hj hij e => ?_
  have h1 := (h.at hj).2.1
  have h2 := mem_take_getD hij hi
  rw [List.getD_eq_getElem?_getD, List.getElem?_eq_getElem hj] at h1
  rw [List.getD_eq_getElem?_getD, List.getElem?_eq_getElem hi] at h2
  exact h1 (e ▸ h2)
theorem Order.sub (h : Order N E l) : ∀ x ∈ l, x ∈ N := fun x hx => by
  obtain ⟨j, hj, rfl⟩ := List.mem_iff_getElem.1 hx
  have := (h.at hj).1
  rwa [List.getD_eq_getElem?_getD, List.getElem?_eq_getElem hj] at this
theorem Order.all (h : Order N E l) : ∀ x ∈ N, x ∈ l := full_of_len h.once h.sub (by rw [h.len]; exact Nat.le_refl _)
theorem idx_take : ∀ {l : List Int} {i : Nat} {x : Int}, x ∈ l.take i → l.idxOf x < i
  | [], i, x, h => by simp at h
  | a :: l, 0, x, h => by simp at h
  | a :: l, i + 1, x, h => by
    rw [List.idxOf_cons]
    by_cases e : (a == x) = true
    · rw [e]; simp
    · have e1 : (a == x) = false := by simpa using e
      rw [e1]
      have h1 : x ∈ l.take i := by
        rw [List.take_succ_cons, List.mem_cons] at h
        rcases h with h | h
        · subst h; simp at e
        · exact h
      have := idx_take h1
      simp
      omega
theorem Order.edge (hE : EndsIn N E) (h : Order N E l) {a b : Int} (hab : EdR E a b) : 0 ≤ placeZ l a ∧ placeZ l a < placeZ l b := by
  obtain ⟨ha, hb⟩ := hE a b hab
  have hbl := h.all b hb
  have hi : l.idxOf b < l.length := List.idxOf_lt_length_iff.2 hbl
  have h1 := (h.at hi).2.2
  have hg : l.getD (l.idxOf b) 0 = b := by
    rw [List.getD_eq_getElem?_getD, List.getElem?_eq_getElem hi]
    simp
  rw [hg] at h1
  have h2 := idx_take ((holdN_zero hE).1 h1 a hab)
  rw [placeZ, placeZ, if_pos (h.all a ha), if_pos hbl]
  omega
theorem Order.early (hN : RiseI N) (hE : EndsIn N E) (h : Order N E l) {k i : Nat} (hk : k < i) (hi : i < l.length) (hlt : l.getD i 0 < l.getD k 0) : ∃ j, k ≤ j ∧ j < i ∧ EdR E (l.getD j 0) (l.getD i 0) := by
  obtain ⟨h1, h2, h3⟩ := h.at hi
  obtain ⟨rest, hr⟩ := h.free k (by omega)
  have hnf : l.getD i 0 ∉ freeN N E (l.take k) := fun hm => by
    have h4 := (head_least (l := freeN N E (l.take k)) (hN.filter _) (x := l.getD k 0) (by rw [hr]; rfl)).2 _ hm
    omega
  have hnk : l.getD i 0 ∉ l.take k := fun hm => h2 (by
    obtain ⟨j, h4, h5, h6⟩ := in_take hm
    rw [← h6]
    exact mem_take_getD (by omega) h5)
  have hh : holdN N E (l.take k) (l.getD i 0) ≠ 0 := fun e => hnf (mem_freeN.2 ⟨h1, hnk, e⟩)
  have hx : ∃ a, EdR E a (l.getD i 0) ∧ a ∉ l.take k := by
    refine Classical.byContradiction fun hno => hh ((holdN_zero hE).2 fun a ha => ?_)
    exact Classical.byContradiction fun hna => hno ⟨a, ha, hna⟩
  obtain ⟨a, ha, hna⟩ := hx
  obtain ⟨j, h4, h5, rfl⟩ := in_take ((holdN_zero hE).1 h3 a ha)
  exact ⟨j, Nat.le_of_not_lt fun hjk => hna (mem_take_getD hjk h5), h4, ha⟩
theorem Order.none (hE : EndsIn N E) (h : Order N E l) : startZ (EdR E) N = none := by
  have hl : ∀ {a b : Int}, Leads (EdR E) a b → placeZ l a ≤ placeZ l b := fun {a b} hab => by
    induction hab with
    | refl => exact Int.le_refl _
    | step h1 _ ih => have := (h.edge hE h1).2; omega
  refine startZ_no.2 fun y _ hy => ?_
  obtain ⟨c, h1, h2⟩ := hy
  have h3 := (h.edge hE h1).2
  have h4 := hl h2
  omega
theorem filter_fewer {p q : Int → Bool} {a : Int} : ∀ {l : List Int}, (∀ z ∈ l, p z = true → q z = true) → a ∈ l → p a = false → q a = true → (l.filter p).length < (l.filter q).length
  | [], _, h, _, _ => by simp at h
  | b :: l, hpq, h, hp, hq => by
    have hle : (l.filter p).length ≤ (l.filter q).length := by
      have : ∀ {m : List Int}, (∀ z ∈ m, p z = true → q z = true) → (m.filter p).length ≤ (m.filter q).length := fun {m} => by
        induction m with
        | nil => intro _; exact Nat.le_refl _
        | cons c m ih =>
          intro hm
          have h1 := ih fun z hz => hm z (List.mem_cons_of_mem _ hz)
          have h2 := hm c (List.mem_cons_self ..)
          rw [List.filter_cons, List.filter_cons]
          cases hc : p c with
          | false => cases hd : q c <;> simp <;> omega
          | true => rw [h2 hc]; simp; omega
      exact this fun z hz => hpq z (List.mem_cons_of_mem _ hz)
    rw [List.filter_cons, List.filter_cons]
    by_cases e : b = a
    · subst e
      rw [hp, hq]
      simp
      omega
    · have h1 := filter_fewer (l := l) (fun z hz => hpq z (List.mem_cons_of_mem _ hz)) ((List.mem_cons.1 h).resolve_left fun e2 => e e2.symm) hp hq
      have h2 := hpq b (List.mem_cons_self ..)
      cases hc : p b with
      | false => cases hd : q b <;> simp <;> omega
      | true => rw [h2 hc]; simp; omega
/-- Where nothing goes round and nothing is free, all is out. -/
theorem all_out (hE : EndsIn N E) (hno : ∀ y ∈ N, ¬ TCR (EdR E) y y) {O : List Int} (hf : freeN N E O = []) : ∀ x ∈ N, x ∈ O := by
  classical
  have key : ∀ (m : Nat) (x : Int), x ∈ N → (N.filter fun a => decide (TCR (EdR E) a x)).length ≤ m → x ∈ O := by
    intro m
    induction m with
    | zero =>
      intro x hx hm
      refine Classical.byContradiction fun hxO => ?_
      have h1 : x ∉ freeN N E O := by rw [hf]; simp
      have h2 : holdN N E O x ≠ 0 := fun e => h1 (mem_freeN.2 ⟨hx, hxO, e⟩)
      refine h2 ((holdN_zero hE).2 fun a ha => ?_)
      have h3 : a ∈ N.filter fun a => decide (TCR (EdR E) a x) := List.mem_filter.2 ⟨(hE a x ha).1, decide_eq_true ⟨x, ha, .refl _⟩⟩
      have h4 := List.length_pos_of_mem h3
      omega
    | succ m ih =>
      intro x hx hm
      refine Classical.byContradiction fun hxO => ?_
      have h1 : x ∉ freeN N E O := by rw [hf]; simp
      have h2 : holdN N E O x ≠ 0 := fun e => h1 (mem_freeN.2 ⟨hx, hxO, e⟩)
      refine h2 ((holdN_zero hE).2 fun a ha => ih a (hE a x ha).1 ?_)
      have h3 : (N.filter fun z => decide (TCR (EdR E) z a)).length < (N.filter fun z => decide (TCR (EdR E) z x)).length := by
        refine filter_fewer (a := a) (fun z _ hz => ?_) (hE a x ha).1 (decide_eq_false (hno a (hE a x ha).1)) (decide_eq_true ⟨x, ha, .refl _⟩)
        obtain ⟨c, k1, k2⟩ := of_decide_eq_true hz
        exact decide_eq_true ⟨c, k1, k2.trans (.step ha (.refl _))⟩
      omega
  exact fun x hx => key _ x hx (Nat.le_refl _)
theorem topo_stuck : ∀ (k : Nat) (O : List Int), topoZ N E k O = Option.none → ∃ O', freeN N E O' = [] ∧ O'.length < O.length + k
  | 0, O, h => by simp [topoZ] at h
  | k + 1, O, h => by
    unfold topoZ at h
    split at h
    · rename_i hf
      exact ⟨O, hf, by omega⟩
    · rename_i n rest hf
      obtain ⟨O', h1, h2⟩ := topo_stuck k (O ++ [n]) h
      exact ⟨O', h1, by rw [List.length_append, List.length_singleton] at h2; omega⟩
theorem topo_none_start (hN : N.Nodup) (hE : EndsIn N E) (h : topoZ N E N.length [] = Option.none) : startZ (EdR E) N ≠ Option.none := fun hs => by
  obtain ⟨O, h1, h2⟩ := topo_stuck _ _ h
  have h3 := all_out hE (startZ_no.1 hs) h1
  have h4 := len_le hN h3
  simp at h2
  omega
theorem single_iff (hN : RiseI N) (hE : EndsIn N E) : (∀ p ∈ partsOf (EdR E) N, p.length = 1 ∧ kindsE E (p.headD 0) (p.headD 0) = []) ↔ startZ (EdR E) N = Option.none := by
  have h1 := start_parts (R := EdR E) hN hE
  rw [← h1]
  rw [Option.map_eq_none_iff, List.find?_eq_none]
  have hk : ∀ a b, kindsE E a b = [] ↔ ¬ EdR E a b := fun a b => by
    rw [← kinds_some (E := E), ← List.length_eq_zero_iff]
    omega
  constructor
  · intro h p hp e
    obtain ⟨h2, h3⟩ := h p hp
    rcases of_decide_eq_true e with h4 | h4
    · exact (hk _ _).1 h3 h4
    · omega
  · intro h p hp
    have h2 : ¬ loopP (EdR E) p := fun e => h p hp (decide_eq_true e)
    obtain ⟨_, -, -, h3⟩ := parts_ne hp
    have h4 : 0 < p.length := List.length_pos_iff.2 h3
    refine ⟨?_, (hk _ _).2 fun e => h2 (.inl e)⟩
    have : ¬ 1 < p.length := fun e => h2 (.inr e)
    omega
end
end Go.Proofs.YthgkloapnihpaaaGreat

/- What graphs tell, by contracts as the statements take them. -/
namespace Go.Proofs.YthgkloapnihpaaaGreat
open Go.RowKit Go.Maps Go.WideMaps Go.WideElems Go.ChangeShapes Go.WideShapes

theorem mem_foldl_putE {p : Ed} : ∀ {es : List Ed} {E : List Ed}, p ∈ es.foldl putE E ↔ p ∈ E ∨ p ∈ es
  | [], E => by simp
  | x :: es, E => by
    rw [List.foldl_cons, mem_foldl_putE, mem_putE, List.mem_cons]
    constructor
    · rintro ((rfl | h) | h)
      · exact .inr (.inl rfl)
      · exact .inl h
      · exact .inr (.inr h)
    · rintro (h | rfl | h)
      · exact .inl (.inr h)
      · exact .inl (.inl rfl)
      · exact .inr h
theorem mem_edgesUp {p : Ed} {es : List Ed} : p ∈ edgesUp es ↔ p ∈ es := by
  unfold edgesUp
  rw [mem_foldl_putE]
  simp
/-- What holds of a graph in memory, whatever the world. -/
theorem gr_facts {Z : Nat → Prop} {B g c : Nat} {N : List Int} {E : List Ed} {W : World} (h : GrAt Z B g c N E W) : RiseI N ∧ EndsIn N E ∧ (∀ x ∈ N, fit64 x) ∧ RiseE E := by
  obtain ⟨ob, DO, F, DI, f, hG, -⟩ := h
  exact ⟨hG.nodes, hG.ends, fun a ha => hG.dom.fit a ha, hG.edges⟩
/-- A graph, whatever blocks it has. -/
def Gr (g c : Nat) (N : List Int) (E : List Ed) (W : World) : Prop := ∃ Z B, GrAt Z B g c N E W
section
variable {g c : Nat} {N : List Int} {E : List Ed} {W : World}
theorem Gr.below {W' : World} (h : Gr g c N E W) (hb : Below W.heap.size W W') : Gr g c N E W' := gat_below h hb
theorem Gr.facts (h : Gr g c N E W) : RiseI N ∧ EndsIn N E ∧ (∀ x ∈ N, fit64 x) ∧ RiseE E := by
  obtain ⟨Z, B, h⟩ := h
  exact gr_facts h
set_option maxRecDepth 100000 in
theorem Gr.topN (h : Gr g c N E W) (hc : c ≤ 100000) (hN : N.length ≤ 500) (ht : topoZ N E N.length [] = none) : Calls Tryz.prog 15 #[.pointer (some ⟨g, 0, none⟩)] W fun e w' => ∃ p c, e = .returned (.tuple #[.slice p 0 c, .bool false]) ∧ Hid (Below W.heap.size W w') := by
  obtain ⟨Z, B, h⟩ := h
  refine (topo_p hc hN W h).mono ?_
  rintro e w' ⟨v, O, ok, rfl, K⟩
  obtain ⟨k1, k2, k3⟩ := K.out
  rw [ht] at k2
  rcases k2 with ⟨-, rfl, rfl⟩ | ⟨h2, -⟩
  · obtain ⟨p, c, rfl, -⟩ := k1.sl
    exact ⟨p, c, rfl, k3⟩
  · cases h2
set_option maxRecDepth 100000 in
theorem Gr.topS (h : Gr g c N E W) (hc : c ≤ 100000) (hN : N.length ≤ 500) {l : List Int} (ht : topoZ N E N.length [] = some l) : Calls Tryz.prog 15 #[.pointer (some ⟨g, 0, none⟩)] W fun e w' => ∃ p c, e = .returned (.tuple #[.slice p l.length c, .bool true]) ∧ Hid (SlI w' p l ∧ Below W.heap.size W w') := by
  obtain ⟨Z, B, h⟩ := h
  refine (topo_p hc hN W h).mono ?_
  rintro e w' ⟨v, O, ok, rfl, K⟩
  obtain ⟨k1, k2, k3⟩ := K.out
  rw [ht] at k2
  rcases k2 with ⟨h2, -, -⟩ | ⟨h2, rfl⟩
  · cases h2
  · cases h2
    obtain ⟨p, c, rfl, hs⟩ := k1.sl
    exact ⟨p, c, rfl, hs, k3⟩
set_option maxRecDepth 100000 in
theorem Gr.cycN (h : Gr g c N E W) (hc : c ≤ 100000) (hN : N.length ≤ 500) (ht : startZ (EdR E) N = none) : Calls Tryz.prog 16 #[.pointer (some ⟨g, 0, none⟩)] W fun e w' => ∃ p c, e = .returned (.slice p 0 c) ∧ Hid (Below W.heap.size W w') := by
  obtain ⟨Z, B, h⟩ := h
  refine (cycle_p hc hN W h).mono ?_
  rintro e w' ⟨v, l, rfl, K⟩
  obtain ⟨k1, k2, k3⟩ := K.out
  have e := cycIs_same k2 (.inl ⟨ht, rfl⟩)
  subst e
  obtain ⟨p, c, rfl, -⟩ := k1.sl
  exact ⟨p, c, rfl, k3⟩
set_option maxRecDepth 100000 in
theorem Gr.cycS (h : Gr g c N E W) (hc : c ≤ 100000) (hN : N.length ≤ 500) (ht : startZ (EdR E) N ≠ none) : Calls Tryz.prog 16 #[.pointer (some ⟨g, 0, none⟩)] W fun e w' => ∃ p n c, e = .returned (.slice p (n + 1) c) ∧ Hid (Below W.heap.size W w') := by
  obtain ⟨Z, B, h⟩ := h
  refine (cycle_p hc hN W h).mono ?_
  rintro e w' ⟨v, l, rfl, K⟩
  obtain ⟨k1, k2, k3⟩ := K.out
  rcases k2 with ⟨h1, -⟩ | ⟨s, L, -, -, h4⟩
  · exact absurd h1 ht
  · subst h4
    obtain ⟨p, c, rfl, -⟩ := k1.sl
    exact ⟨p, _, c, rfl, k3⟩
set_option maxRecDepth 100000 in
theorem Gr.nodes (h : Gr g c N E W) (hc : c ≤ 100000) : Calls Tryz.prog 21 #[.pointer (some ⟨g, 0, none⟩)] W fun e w' => ∃ p c, e = .returned (.slice p N.length c) ∧ Hid (SlI w' p N ∧ Below W.heap.size W w') := by
  obtain ⟨Z, B, h⟩ := h
  refine (nodes_any hc W h).mono ?_
  rintro e w' ⟨v, rfl, K⟩
  obtain ⟨p, c, rfl, hs⟩ := (intsO_row K.out.1).sl
  exact ⟨p, c, rfl, hs, K.out.2⟩
theorem pts_cells {R : Int → Int → Prop} {B n cp : Nat} {p : Option Addr} {ps : Pts} {V : World} (h : PtsAt B (.slice p n cp) ps V) (hp : ps.map (·.2) = partsOf R N) (hn : ps.length = n) {q : Nat} (hq : q < n) :
    ∃ g10 gx ox cx a l, p = some ⟨g10, 0, none⟩ ∧ (partsOf R N).getD q [] = a :: l ∧ a ∈ N ∧ (a :: l).length ≤ N.length ∧ (∀ x ∈ a :: l, x ∈ N) ∧ ∀ W, Below V.heap.size V W → W.cell? ⟨g10, q, none⟩ = some (.slice (some ⟨gx, ox, none⟩) (l.length + 1) cx) ∧ W.cell? ⟨gx, ox, none⟩ = some (iv a) ∧ SlI W (some ⟨gx, ox, none⟩) (a :: l) := by
  have hqp : q < ps.length := by omega
  have hqP : q < (partsOf R N).length := by rw [← hp, List.length_map]; exact hqp
  have hpe : (partsOf R N).getD q [] = (ps[q]).2 := by
    rw [← hp, List.getD_eq_getElem?_getD, List.getElem?_map, List.getElem?_eq_getElem hqp]
    rfl
  obtain ⟨x, hx⟩ : ∃ x, ps[q] = x := ⟨_, rfl⟩
  have hxm : x ∈ ps := by rw [← hx]; exact List.getElem_mem hqp
  rw [hx] at hpe
  obtain ⟨k, -, hxk, hxne⟩ := parts_ne (by rw [← hpe]; exact getD_in hqP : x.2 ∈ partsOf R N)
  have hxi := h.each x hxm
  have hrow := h.row
  rw [hn] at hrow
  have hg : ∃ g10, p = some ⟨g10, 0, none⟩ := by
    rcases hrow.2 with ⟨e, h0⟩ | ⟨g', cap, cur, e, -⟩
    · omega
    · simp only [Value.slice.injEq] at e
      exact ⟨g', e.1⟩
  obtain ⟨g10, rfl⟩ := hg
  obtain ⟨vx, px⟩ := x
  simp only at hxi hpe hxk hxne
  obtain ⟨p2, cx, rfl, hcx, h2⟩ := hxi.form
  obtain ⟨gx, ox, rfl, -, -, -⟩ := h2 hxne
  obtain ⟨a, l, rfl⟩ : ∃ a l, px = a :: l := by cases px with
    | nil => exact absurd rfl hxne
    | cons a l => exact ⟨a, l, rfl⟩
  have hsub : ∀ z ∈ a :: l, z ∈ N := fun z hz => by
    rw [hxk] at hz
    exact (mem_cls.1 hz).1
  refine ⟨g10, gx, ox, cx, a, l, rfl, hpe, hsub a (by simp), by rw [hxk]; exact List.length_filter_le _ _, hsub, fun W hb => ?_⟩
  have hxi2 := hxi.below hb
  obtain ⟨p3, c3, e3, hs⟩ := hxi2.sl
  simp only [Value.slice.injEq] at e3
  obtain ⟨rfl, -, rfl⟩ := e3
  refine ⟨?_, hs.cell1 (k := 0) (by simp) rfl, hs⟩
  have h3 := (row_kept hrow hb).cells (g := g10) rfl q (.slice (some ⟨gx, ox, none⟩) (a :: l).length cx) (by rw [List.getElem?_map, List.getElem?_eq_getElem hqp, hx]; rfl)
  rwa [Addr.add_lit, Nat.zero_add] at h3
end
/-- Are all parts so far single nodes without an edge to themselves? -/
def sgl (E : List Ed) (ps : List (List Int)) (q : Nat) : Bool := (ps.take q).all fun p => p.length == 1 && (kindsE E (p.headD 0) (p.headD 0)).length == 0
theorem sgl_next {E : List Ed} {ps : List (List Int)} {q : Nat} (h : q < ps.length) {a : Int} {l : List Int} (he : ps.getD q [] = a :: l) : sgl E ps (q + 1) = (sgl E ps q && (((a :: l).length == 1) && ((kindsE E a a).length == 0))) := by
  unfold sgl
  rw [List.take_add_one, List.getElem?_eq_getElem h, List.all_append]
  have h1 : ps[q] = a :: l := by
    rw [← he, List.getD_eq_getElem?_getD, List.getElem?_eq_getElem h]
    rfl
  rw [h1]
  simp
theorem sgl_all {N : List Int} {E : List Ed} (hN : RiseI N) (hE : EndsIn N E) {n : Nat} (hn : (partsOf (EdR E) N).length = n) : sgl E (partsOf (EdR E) N) n = true ↔ startZ (EdR E) N = none := by
  rw [← single_iff hN hE]
  unfold sgl
  rw [List.take_of_length_le (by omega), List.all_eq_true]
  constructor
  · intro h p hp
    have h1 := Bool.and_eq_true_iff.1 (h p hp)
    exact ⟨eq_of_beq h1.1, List.length_eq_zero_iff.1 (eq_of_beq h1.2)⟩
  · intro h p hp
    obtain ⟨h1, h2⟩ := h p hp
    rw [h1, h2]
    rfl
end Go.Proofs.YthgkloapnihpaaaGreat

/- Has the program's graph just the document's nodes and edges: is, by a contract. -/
namespace Go.Proofs.YthgkloapnihpaaaGreat
open Go.RowKit Go.Maps Go.WideMaps Go.WideElems Go.ChangeShapes Go.WideShapes

set_option maxRecDepth 100000 in
theorem Gr.edgesAt {g c : Nat} {N : List Int} {E : List Ed} {W : World} (h : Gr g c N E W) (hc : c ≤ 100000) (hE : E.length ≤ 1000) (hN : N.length ≤ 1000) : Calls Tryz.prog 22 #[.pointer (some ⟨g, 0, none⟩)] W fun e w' => ∃ p c, e = .returned (.slice p E.length c) ∧ Hid (SlE w' p E ∧ Below W.heap.size W w') := by
  obtain ⟨Z, B, h⟩ := h
  refine (edges_at hc hE hN W h).mono ?_
  rintro e w' ⟨v, rfl, K⟩
  obtain ⟨p, c, rfl, -, hs⟩ := row_slE K.out.1
  exact ⟨p, c, rfl, hs, K.out.2⟩
set_option maxRecDepth 100000 in
theorem same_n (a1 a2 : Option Addr) (c1 c2 n : Nat) {l : List Int} (hl : l.length = n) (hn : n ≤ 100000) (w : World) (h1 : SlI w a1 l) (h2 : SlI w a2 l) :
    Calls Tryz.prog 13 #[.slice a1 n c1, .slice a2 n c2] w fun e w' => e = .returned (.bool true) ∧ Hid (Below w.heap.size w w') := by
  subst hl
  exact same_ints a1 a2 c1 c2 l hn w h1 h2
set_option maxHeartbeats 128000000 in
set_option maxRecDepth 100000 in
theorem is_any {g c : Nat} {N : List Int} {E : List Ed} (a a' : Option Addr) (k k' n m : Nat) (hn : N.length = n) (hm : E.length = m) (hc : c ≤ 100000) (hN : n ≤ 500) (hE : m ≤ 500) (w : World) (h : Gr g c N E w) (hd : DgAt w a a' N E) :
    Calls Tryz.prog 14 #[.pointer (some ⟨g, 0, none⟩), gval a n k a' m k'] w fun e w' => e = .returned (.bool true) ∧ Hid (Below w.heap.size w w') := by
  obtain ⟨W1, hW1, Hb1, hs1, Hx1⟩ := two_any w (.slice a n k) (.slice a' m k') 28
  have HG := Lib.hid (h.below Hb1.out)
  have HD := Lib.hid (hd.below Hb1.out)
  have Hn := Lib.hid hn
  have Hm := Lib.hid hm
  have HNd := Lib.hid ((HG.out.below (Below.refl _ W1).drew).nodes hc)
  rw [hn] at HNd
  have HSall : Hid (∀ W, Below W1.heap.size W1 W → W.cell? ⟨w.heap.size, 0, none⟩ = some (.slice a n k) ∧ W.cell? ⟨w.heap.size, 1, none⟩ = some (.slice a' m k')) := fun W hb => two_at ((hb.block _ hs1.out).trans Hx1.out)
  obtain ⟨x0, x1⟩ := HSall.out W1 (Below.refl _ _)
  clear h hd hn hm
  go_enter Tryz.func14, Tryz.ntmps14
  go_wp2
  go_region_held3 (fun w' => w'.cell? ⟨w.heap.size, 0, none⟩ = some (.slice a n k) ∧ w'.cell? ⟨w.heap.size, 1, none⟩ = some (.slice a' m k')) (first | (with_reducible exact HSall.out _ HB4.out) | (with_reducible exact HSall.out _ HB3.out) | go_keep)
    (first
      | (go_at_call 21; refine HNd.out.mono ?_; rintro e w3 ⟨p3, c3, rfl, K3⟩
         have HB3 : Hid (Below W1.heap.size W1 w3) := (Below.refl _ W1).drew.trans K3.out.2
         have HS := Lib.hid (same_n p3 a c3 k n Hn.out (by omega) w3 K3.out.1 (HD.out.nodes.gro HB3.out (Nat.le_refl _))))
      | (go_at_call 13; (with_reducible refine HS.out.mono ?_); rintro e w4 ⟨rfl, K4⟩
         have HB4 : Hid (Below W1.heap.size W1 w4) := HB3.out.trans (K4.out.mono HB3.out.size)))
  have HEd := Lib.hid ((HG.out.below HB4.out).edgesAt hc (by rw [Hm.out]; omega) (by rw [Hn.out]; omega))
  rw [Hm.out] at HEd
  go_wp2_with (first
    | (go_at_call 22; (with_reducible refine HEd.out.mono ?_); rintro e w5 ⟨p5, c5, rfl, K5⟩
       have HB5 : Hid (Below W1.heap.size W1 w5) := HB4.out.trans (K5.out.2.mono HB4.out.size)
       obtain ⟨y0, y1⟩ := HSall.out w5 HB5.out)
    | go_in)
  try go_frame
  go_loopw [7] (fun i wr => ∃ q : Nat, q ≤ m ∧ i = .int .i64 ((q : Nat) : Int) ∧ Hid (Below w5.heap.size w5 wr)) (fun i _ => m - (intOf i).toNat)
  case atStart => exact ⟨0, Nat.zero_le _, rfl, Below.refl _ _⟩
  case round =>
    obtain ⟨q, hq, rfl, HR⟩ := hrel
    obtain ⟨wa, hwa⟩ : ∃ wa, wa = wr := ⟨_, rfl⟩
    subst hwa
    by_cases hlt : q < m
    · have hqo : q < E.length := by rw [Hm.out]; exact hlt
      obtain ⟨x, hx⟩ : ∃ x, E.getD q e0 = x := ⟨_, rfl⟩
      obtain ⟨f1, f2, f3⟩ := x
      obtain ⟨b5, o5, rfl, -⟩ := (K5.out.1.gro HR.out (Nat.le_refl _)).at hqo
      obtain ⟨c0, c1, c2⟩ := (K5.out.1.gro HR.out (Nat.le_refl _)).cells hqo hx
      have hb1 := HB5.out.trans (HR.out.mono HB5.out.size)
      obtain ⟨b6, o6, rfl, -⟩ := (HD.out.edges.gro hb1 (Nat.le_refl _)).at hqo
      obtain ⟨d0, d1, d2⟩ := (HD.out.edges.gro hb1 (Nat.le_refl _)).cells hqo hx
      obtain ⟨z0, z1⟩ := HSall.out wa hb1
      have hltI : (q : Int) < (m : Int) := by omega
      have hq0 : (0 : Int) ≤ (q : Int) := by omega
      have Hlt := Lib.hid hlt
      clear hqo hx hb1
      go_wp2
      go_quiet (fail)
      go_wp2
      go_roundw
      case rel => exact ⟨q + 1, Hlt.out, by go_num, HR.out.trans ((drewN_below wa nq).mono HR.out.size)⟩
      case measure => simp [intOf]; omega
    · have hqm : q = m := by omega
      subst hqm
      go_wp2
      go_ret
      exact ⟨rfl, Hb1.out.trans ((HB5.out.trans (HR.out.mono HB5.out.size)).mono Hb1.out.size)⟩
end Go.Proofs.YthgkloapnihpaaaGreat

/- A graph mapped: plain lists; what stands while it is made. -/
namespace Go.Proofs.YthgkloapnihpaaaGreat
open Go.RowKit Go.Maps Go.WideMaps Go.WideElems Go.ChangeShapes Go.WideShapes

/-- The nodes of a graph mapped, and its edges. -/
def mapN (φ : Int → Int) (N : List Int) : List Int := N.foldl (fun M x => putI M (φ x)) []
def mapE (φ : Int → Int) (E : List Ed) : List Ed := E.foldl (fun M x => putE M (φ x.1, φ x.2.1, x.2.2)) []
theorem mapN_next {φ : Int → Int} {N : List Int} {q : Nat} (h : q < N.length) : mapN φ (N.take (q + 1)) = putI (mapN φ (N.take q)) (φ (N.getD q 0)) := by
  unfold mapN
  rw [List.take_add_one, List.getElem?_eq_getElem h, List.getD_eq_getElem?_getD, List.getElem?_eq_getElem h, List.foldl_append]
  rfl
theorem mapE_next {φ : Int → Int} {E : List Ed} {q : Nat} (h : q < E.length) : mapE φ (E.take (q + 1)) = putE (mapE φ (E.take q)) (φ (E.getD q e0).1, φ (E.getD q e0).2.1, (E.getD q e0).2.2) := by
  unfold mapE
  rw [List.take_add_one, List.getElem?_eq_getElem h, List.getD_eq_getElem?_getD, List.getElem?_eq_getElem h, List.foldl_append]
  rfl
theorem mem_foldl_map {φ : Int → Int} {x : Int} : ∀ {N M : List Int}, x ∈ N.foldl (fun M x => putI M (φ x)) M ↔ x ∈ M ∨ ∃ y ∈ N, φ y = x
  | [], M => by simp
  | y :: N, M => by
    rw [List.foldl_cons, mem_foldl_map, mem_putI]
    constructor
    · rintro ((rfl | h) | ⟨z, h, e⟩)
      · exact .inr ⟨y, by simp, rfl⟩
      · exact .inl h
      · exact .inr ⟨z, by simp [h], e⟩
    · rintro (h | ⟨z, h, e⟩)
      · exact .inl (.inr h)
      · rcases List.mem_cons.1 h with rfl | h
        · exact .inl (.inl e.symm)
        · exact .inr ⟨z, h, e⟩
theorem mem_mapN {φ : Int → Int} {x : Int} {N : List Int} : x ∈ mapN φ N ↔ ∃ y ∈ N, φ y = x := by
  unfold mapN
  rw [mem_foldl_map]
  simp
theorem foldl_map_rise {φ : Int → Int} : ∀ (N : List Int) {M : List Int}, RiseI M → RiseI (N.foldl (fun M x => putI M (φ x)) M)
  | [], _, h => h
  | x :: N, _, h => foldl_map_rise N (rise_putI (φ x) h)
theorem mapN_rise (φ : Int → Int) (N : List Int) : RiseI (mapN φ N) := foldl_map_rise N List.Pairwise.nil
theorem foldl_map_len {φ : Int → Int} : ∀ (N M : List Int), (N.foldl (fun M x => putI M (φ x)) M).length ≤ M.length + N.length
  | [], M => by simp
  | x :: N, M => by
    have h1 := foldl_map_len (φ := φ) N (putI M (φ x))
    have h2 := putI_length M (φ x)
    rw [List.foldl_cons, List.length_cons]
    omega
theorem mapN_len (φ : Int → Int) (N : List Int) : (mapN φ N).length ≤ N.length := by
  have := foldl_map_len (φ := φ) N []
  simpa [mapN] using this
theorem foldl_mapE_len {φ : Int → Int} : ∀ (E M : List Ed), (E.foldl (fun M x => putE M (φ x.1, φ x.2.1, x.2.2)) M).length ≤ M.length + E.length
  | [], M => by simp
  | x :: E, M => by
    have h1 := foldl_mapE_len (φ := φ) E (putE M (φ x.1, φ x.2.1, x.2.2))
    have h2 := putE_length M (φ x.1, φ x.2.1, x.2.2)
    rw [List.foldl_cons, List.length_cons]
    omega
theorem mapE_len (φ : Int → Int) (E : List Ed) : (mapE φ E).length ≤ E.length := by
  have := foldl_mapE_len (φ := φ) E []
  simpa [mapE] using this

/-- A map of numbers to their places. -/
def PlaceAt (pb : Nat) (L : List Int) (W : World) : Prop := ∃ D, DomAt Tryz.prog 3 il fit64 asIs pb L.length L D W ∧ ∀ j, j < L.length → ∀ z, D.atKey (il (L.getD j 0)) z = .held (iv (j : Int))
theorem PlaceAt.off {pb : Nat} {L : List Int} {W W' : World} {Z : Nat → Prop} (h : PlaceAt pb L W) (g : Off Z W W') (hz : ¬ Z pb) : PlaceAt pb L W' := by
  obtain ⟨D, hd, ha⟩ := h
  refine ⟨D, ?_, ha⟩
  obtain ⟨es, clock, hb, r⟩ := hd.own
  exact ⟨⟨es, clock, (g.block pb (Array.getElem?_eq_some_iff.1 hb).1 hz).trans hb, r⟩, hd.has, hd.only, hd.fit⟩
theorem PlaceAt.lt {pb : Nat} {L : List Int} {W : World} (h : PlaceAt pb L W) : pb < W.heap.size := by
  obtain ⟨D, hd, -⟩ := h
  exact hd.own.lt
theorem PlaceAt.look {pb : Nat} {L : List Int} {W : World} (h : PlaceAt pb L W) {j : Nat} (hj : j < L.length) : (Instr.lookup 54 (.map (some pb)) (iv (L.getD j 0)) false).run Tryz.prog W = .ok (iv (j : Int)) W := by
  obtain ⟨D, hd, ha⟩ := h
  have hm : L.getD j 0 ∈ L := by
    rw [List.getD_eq_getElem?_getD, List.getElem?_eq_getElem hj]
    exact List.getElem_mem hj
  exact look_as hd Tryz.underlying54 (z := iv 0) (by kernel_rfl) (hd.fit _ hm) (ha j hj _)
theorem PlaceAt.put {pb : Nat} {L : List Int} {W : World} (h : PlaceAt pb L W) {x : Int} (hx : fit64 x) (hn : x ∉ L) (hl : L.length < maxLen) : ∃ W', (Instr.mapUpdate 54 (.map (some pb)) (iv x) (iv (L.length : Int))).run Tryz.prog W = .ok () W' ∧ PlaceAt pb (L ++ [x]) W' ∧ W.grownBy W' (some pb) := by
  obtain ⟨D, hd, ha⟩ := h
  obtain ⟨W', h1, h2, h3⟩ := put_as hd Tryz.underlying54 hl hx (iv (L.length : Int)) (L' := L ++ [x]) (fun y => by simp)
  refine ⟨W', h1, ⟨_, by rw [List.length_append]; exact h2, fun j hj z => ?_⟩, h3⟩
  rw [List.length_append] at hj
  simp only [List.length_singleton] at hj
  by_cases e : j = L.length
  · subst e
    have e1 : (L ++ [x]).getD L.length 0 = x := by simp
    rw [e1, at_put hd hx hx, if_pos rfl]
  · have hj2 : j < L.length := by omega
    have e1 : (L ++ [x]).getD j 0 = L.getD j 0 := by
      rw [List.getD_eq_getElem?_getD, List.getD_eq_getElem?_getD, List.getElem?_append_left hj2]
    have hm : L.getD j 0 ∈ L := by
      rw [List.getD_eq_getElem?_getD, List.getElem?_eq_getElem hj2]
      exact List.getElem_mem hj2
    rw [e1, at_put hd hx (hd.fit _ hm), if_neg (fun (e2 : L.getD j 0 = x) => hn (e2 ▸ hm))]
    exact ha j hj2 z
theorem GrAt.grown {Z : Nat → Prop} {B g c : Nat} {N : List Int} {E : List Ed} {W W' : World} {row : Option Nat} (h : GrAt Z B g c N E W) (hg : W.grownBy W' row) (hr : ∀ k, row = some k → k ≠ g ∧ ¬ Z k) : GrAt Z B g c N E W' := by
  obtain ⟨ob, DO, F, DI, f, h1, h2⟩ := h
  exact ⟨ob, DO, F, DI, f, h1.kept hg (fun k e => ⟨(hr k e).1, fun hf => (hr k e).2 (h2 k hf)⟩), h2⟩
theorem GrAt.boxed {Z : Nat → Prop} {B g c : Nat} {N : List Int} {E : List Ed} {W : World} (h : GrAt Z B g c N E W) : ∃ v, W.heap[g]? = some (.cells #[v] 73) := by
  obtain ⟨ob, DO, F, DI, f, h1, h2⟩ := h
  exact ⟨_, h1.box⟩
/-- A graph that is being made, the places of nodes, their images; a row that is read lies as it lay in V. -/
structure MapSt (V : World) (B0 g pb c : Nat) (L I M : List Int) (E : List Ed) (v : Value) (a : Option Addr) (W : World) : Prop where
  gr : ∃ Z B, B ≤ W.heap.size ∧ GrAt Z B g c M E W ∧ (∀ q, Z q → B0 ≤ q ∧ q < W.heap.size ∧ q ≠ pb) ∧ (∀ q, v.ownBlock = some q → ¬ Z q) ∧ ∀ q o, a = some ⟨q, o, none⟩ → ¬ Z q
  place : PlaceAt pb L W
  images : IntsO W B0 v I
  lay : ∀ q o, a = some ⟨q, o, none⟩ → W.heap[q]? = V.heap[q]?
  src : ∀ q o, a = some ⟨q, o, none⟩ → v.ownBlock ≠ some q ∧ q ≠ pb ∧ q < V.heap.size
  base : B0 ≤ pb
  below : Below B0 V W
section
variable {V : World} {B0 g pb c : Nat} {L I M : List Int} {E : List Ed} {v : Value} {a : Option Addr} {W W' : World}
theorem MapSt.b0 (h : MapSt V B0 g pb c L I M E v a W) : B0 ≤ W.heap.size := Nat.le_of_lt (Nat.lt_of_le_of_lt h.base h.place.lt)
/-- What writes at none of its blocks. -/
theorem MapSt.grown {row : Option Nat} (h : MapSt V B0 g pb c L I M E v a W) (hg : W.grownBy W' row) (hb : ∀ k, row = some k → B0 ≤ k) (hpl : PlaceAt pb L W') (hi : IntsO W' B0 v I) (h1 : ∀ k Z B, row = some k → GrAt Z B g c M E W → (∀ q, Z q → B0 ≤ q ∧ q < W.heap.size ∧ q ≠ pb) → (∀ q, v.ownBlock = some q → ¬ Z q) → k ≠ g ∧ ¬ Z k) (h2 : ∀ k q o, row = some k → a = some ⟨q, o, none⟩ → k ≠ q) : MapSt V B0 g pb c L I M E v a W' := by
  obtain ⟨Z, B, hB, hgr, hz, hv, ha⟩ := h.gr
  exact ⟨⟨Z, B, Nat.le_trans hB hg.size, hgr.grown hg (fun k e => h1 k Z B e hgr hz hv), fun q hq => ⟨(hz q hq).1, Nat.lt_of_lt_of_le (hz q hq).2.1 hg.size, (hz q hq).2.2⟩, hv, ha⟩, hpl, hi,
    fun q o e => (hg.block q (Nat.lt_of_lt_of_le (h.src q o e).2.2 h.below.size) (fun e2 => h2 q q o e2.symm e rfl)).trans (h.lay q o e), h.src, h.base, h.below.grown hg h.b0 hb⟩
theorem MapSt.on (h : MapSt V B0 g pb c L I M E v a W) (hb : Below W.heap.size W W') : MapSt V B0 g pb c L I M E v a W' :=
  h.grown (grown_below hb) (fun k e => by cases e) (h.place.off (Z := fun _ => False) (Off.below hb) id) (h.images.below hb) (fun k Z B e => by cases e) (fun k q o e => by cases e)
theorem MapSt.put (h : MapSt V B0 g pb c L I M E v a W) {x : Int} (hx : fit64 x) (hn : x ∉ L) (hl : L.length < maxLen) : ∃ W', (Instr.mapUpdate 54 (.map (some pb)) (iv x) (iv (L.length : Int))).run Tryz.prog W = .ok () W' ∧ Hid (MapSt V B0 g pb c (L ++ [x]) I M E v a W') := by
  obtain ⟨W', h1, h2, h3⟩ := h.place.put hx hn hl
  obtain ⟨D, hd, -⟩ := h.place
  obtain ⟨o, ho, hc⟩ := dom_obj hd
  have hvp : v.ownBlock ≠ some pb := h.images.no ho hc
  have h4 : MapSt V B0 g pb c (L ++ [x]) I M E v a W' := by
    obtain ⟨Z, B, hB, hgr, hz, hv, ha⟩ := h.gr
    have hpg : pb ≠ g := by
      intro e
      subst e
      obtain ⟨u, hu⟩ := hgr.boxed
      rw [hu] at ho
      cases ho
      cases hc
    exact ⟨⟨Z, B, Nat.le_trans hB h3.size, hgr.grown h3 (fun k e => by cases e; exact ⟨hpg, fun hz2 => (hz _ hz2).2.2 rfl⟩), fun q hq => ⟨(hz q hq).1, Nat.lt_of_lt_of_le (hz q hq).2.1 h3.size, (hz q hq).2.2⟩, hv, ha⟩, h2, h.images.kept h3 (.inr hvp),
      fun q o e => (h3.block q (Nat.lt_of_lt_of_le (h.src q o e).2.2 h.below.size) (fun e2 => (h.src q o e).2.1 (Option.some.inj e2))).trans (h.lay q o e), h.src, h.base, h.below.grown h3 h.b0 (fun k e => by cases e; exact h.base)⟩
  exact ⟨W', h1, h4⟩
theorem MapSt.app (h : MapSt V B0 g pb c L I M E v a W) {v' : Value} {y : Int} (h1 : IntsO W' B0 v' (I ++ [y])) (h2 : W.grownBy W' v.ownBlock) (h3 : ∀ k, v'.ownBlock = some k → v.ownBlock = some k ∨ W.heap.size ≤ k) : MapSt V B0 g pb c L (I ++ [y]) M E v' a W' := by
  obtain ⟨Z, B, hB, hgr, hz, hv, ha⟩ := h.gr
  obtain ⟨D, hd, hat⟩ := h.place
  obtain ⟨o, ho, hc⟩ := dom_obj hd
  have hvp : v.ownBlock ≠ some pb := h.images.no ho hc
  obtain ⟨u, hu⟩ := hgr.boxed
  have hvg : v.ownBlock ≠ some g := h.images.ne hu fun cur2 e3 => by cases e3
  refine ⟨⟨Z, B, Nat.le_trans hB h2.size, hgr.grown h2 (fun k e => ⟨fun e2 => hvg (e.trans (congrArg some e2)), hv k e⟩), fun q hq => ⟨(hz q hq).1, Nat.lt_of_lt_of_le (hz q hq).2.1 h2.size, (hz q hq).2.2⟩, fun q e hq => ?_, ha⟩, ⟨D, hd.kept h2 (fun e => hvp e.symm), hat⟩, h1,
    fun q o e => (h2.block q (Nat.lt_of_lt_of_le (h.src q o e).2.2 h.below.size) (fun e2 => (h.src q o e).1 e2.symm)).trans (h.lay q o e), fun q o e => ⟨fun e2 => ?_, (h.src q o e).2⟩, h.base, h.below.grown h2 h.b0 (fun k e => (h.images.lt e).1)⟩
  · rcases h3 q e with g1 | g1
    · exact hv q g1 hq
    · have := (hz q hq).2.1
      omega
  · rcases h3 q e2 with g1 | g1
    · exact (h.src q o e).1 g1
    · have h4 := (h.src q o e).2.2
      have h5 := h.below.size
      omega
theorem mapSt_wrote {c2 B : Nat} {M2 : List Int} {E2 : List Ed} {Z : Nat → Prop} (h : MapSt V B0 g pb c L I M E v a W) (hB : B ≤ W.heap.size) (hz : ∀ q, Z q → B0 ≤ q ∧ q < W.heap.size ∧ q ≠ pb) (hv : ∀ q, v.ownBlock = some q → ¬ Z q) (ha : ∀ q o, a = some ⟨q, o, none⟩ → ¬ Z q)
    (k1 : GrAt (More Z W W') B g c2 M2 E2 W') (k2 : Off Z W W') : MapSt V B0 g pb c2 L I M2 E2 v a W' := by
  have hpl := h.place.lt
  have hB0 := h.b0
  have hVs := h.below.size
  refine ⟨⟨_, B, Nat.le_trans hB k2.size, k1, fun q hq => ?_, fun q e hq => ?_, fun q o e hq => ?_⟩, h.place.off k2 (fun hz2 => (hz _ hz2).2.2 rfl), ?_, fun q o e => (k2.block q (Nat.lt_of_lt_of_le (h.src q o e).2.2 hVs) (ha q o e)).trans (h.lay q o e), h.src, h.base, ⟨k2.os.trans h.below.os, k2.tape.trans h.below.tape, k2.output.trans h.below.output, Nat.le_trans hVs k2.size, fun i hi => (k2.block i (Nat.lt_of_lt_of_le hi hB0) (fun hz2 => by have := (hz _ hz2).1; omega)).trans (h.below.block i hi)⟩⟩
  · rcases hq with g1 | g1
    · exact ⟨(hz q g1).1, Nat.lt_of_lt_of_le (hz q g1).2.1 k2.size, (hz q g1).2.2⟩
    · exact ⟨by omega, g1.2, by omega⟩
  · rcases hq with g1 | g1
    · exact hv q e g1
    · have := (h.images.lt e).2
      omega
  · rcases hq with g1 | g1
    · exact ha q o e g1
    · have := (h.src q o e).2.2
      omega
  · have hi := h.images
    rcases hi with hn | ⟨b, off, cap, cur, e, hb, hc, r⟩
    · exact .inl hn
    · exact .inr ⟨b, off, cap, cur, e, hb, (k2.block b (Array.getElem?_eq_some_iff.1 hc).1 (hv b (by rw [e]; rfl))).trans hc, r⟩
set_option maxRecDepth 100000 in
theorem MapSt.node (h : MapSt V B0 g pb c L I M E v a W) (y : Int) (hy : fit64 y) (hc : c < maxLen) : Calls Tryz.prog 20 #[.pointer (some ⟨g, 0, none⟩), iv y] W fun e w' => ∃ b, e = .returned (.bool b) ∧ Hid (MapSt V B0 g pb (c + 1) L I (putI M y) E v a w' ∧ W.heap.size ≤ w'.heap.size) := by
  obtain ⟨Z, B, hB, hgr, hz, hv, ha⟩ := h.gr
  refine (node_any y hy hc W hgr).mono ?_
  rintro e w' ⟨rfl, K⟩
  refine ⟨_, rfl, ?_, K.out.2.size⟩
  obtain ⟨k1, k2⟩ := K.out
  exact mapSt_wrote h hB hz hv ha k1 k2
set_option maxRecDepth 100000 in
theorem MapSt.edge (h : MapSt V B0 g pb c L I M E v a W) (x y z : Int) (hx : fit64 x) (hy : fit64 y) (hzf : fit64 z) (hc : c ≤ 100000) (hE : E.length ≤ 100000) : Calls Tryz.prog 19 #[.pointer (some ⟨g, 0, none⟩), iv x, iv y, iv z] W fun e w' => ∃ b, e = .returned (.bool b) ∧ Hid (MapSt V B0 g pb (c + 3) L I (putI (putI M x) y) (putE E (x, y, z)) v a w' ∧ W.heap.size ≤ w'.heap.size) := by
  obtain ⟨Z, B, hB, hgr, hz, hv, ha⟩ := h.gr
  refine (edge_any x y z hx hy hzf hc hE W hB hgr).mono ?_
  rintro e w' ⟨rfl, K⟩
  obtain ⟨k1, k2⟩ := K.out
  exact ⟨_, rfl, mapSt_wrote h hB hz hv ha k1 k2, k2.size⟩
/-- Another row is read. -/
theorem MapSt.turn {a' : Option Addr} (h : MapSt V B0 g pb c L I M E v a W) (hb : Below W.heap.size W W') (ha : ∀ q o, a' = some ⟨q, o, none⟩ → W.heap.size ≤ q ∧ q < W'.heap.size) : MapSt W' B0 g pb c L I M E v a' W' := by
  obtain ⟨Z, B, hB, hgr, hz, hv, -⟩ := h.gr
  have hpl := h.place.lt
  refine ⟨⟨Z, B, Nat.le_trans hB hb.size, hgr.below hb, fun q hq => ⟨(hz q hq).1, Nat.lt_of_lt_of_le (hz q hq).2.1 hb.size, (hz q hq).2.2⟩, hv, fun q o e hq => ?_⟩, h.place.off (Z := fun _ => False) (Off.below hb) id, h.images.below hb, fun _ _ _ => rfl, fun q o e => ⟨fun e2 => ?_, ?_, (ha q o e).2⟩, h.base, Below.refl _ _⟩
  · have h1 := (ha q o e).1
    have h2 := (hz q hq).2.1
    omega
  · have h1 := (ha q o e).1
    have h2 := (h.images.lt e2).2
    omega
  · have h1 := (ha q o e).1
    omega
theorem SlI.lay {W W' : World} {a : Option Addr} {l : List Int} (h : SlI W a l) (g : ∀ q o, a = some ⟨q, o, none⟩ → W'.heap[q]? = W.heap[q]?) (hs : W.heap.size ≤ W'.heap.size) : SlI W' a l := by
  rcases h with h | ⟨b, off, e, hl, h⟩
  · exact .inl h
  · exact .inr ⟨b, off, e, fun hx => Nat.lt_of_lt_of_le (hl hx) hs, fun k x hk => (World.cell?_of_block (g b off e)).trans (h k x hk)⟩
theorem SlE.lay {W W' : World} {a : Option Addr} {l : List Ed} (h : SlE W a l) (g : ∀ q o, a = some ⟨q, o, none⟩ → W'.heap[q]? = W.heap[q]?) (hs : W.heap.size ≤ W'.heap.size) : SlE W' a l := by
  rcases h with h | ⟨b, off, e, hl, h⟩
  · exact .inl h
  · refine .inr ⟨b, off, e, fun hx => Nat.lt_of_lt_of_le (hl hx) hs, fun k p hk => ?_⟩
    obtain ⟨h1, h2, h3⟩ := h k p hk
    exact ⟨(World.cell?_of_block (g b off e)).trans h1, (World.cell?_of_block (g b off e)).trans h2, (World.cell?_of_block (g b off e)).trans h3⟩
/-- At the start. -/
theorem mapSt_start {w w1 : World} {g : Nat} (hg : GrAt (fun k => w.heap.size ≤ k ∧ k < w1.heap.size) w.heap.size g 0 [] [] w1) (hb : Below w.heap.size w w1) : MapSt (w1.alloc (.map #[] 0)) w.heap.size g w1.heap.size 0 [] [] [] [] (.slice none 0 0) none (w1.alloc (.map #[] 0)) := by
  have hb2 : Below w1.heap.size w1 (w1.alloc (.map #[] 0)) := (Below.refl _ _).alloc (Nat.le_refl _) _
  have hs : (w1.alloc (.map #[] 0)).heap.size = w1.heap.size + 1 := by simp
  exact ⟨⟨_, w.heap.size, by rw [hs]; have := hb.size; omega, hg.below hb2, fun q hq => ⟨hq.1, by rw [hs]; omega, by omega⟩, fun q e => by simp [Value.ownBlock] at e, fun _ _ e => (nomatch e)⟩, ⟨_, dom_made Tryz.prog 3 il fit64 asIs w1, fun j hj => by simp at hj⟩, intsO_nil _ _, fun _ _ e => (nomatch e), fun _ _ e => (nomatch e), hb.size, Below.refl _ _⟩
end
end Go.Proofs.YthgkloapnihpaaaGreat

/- A graph mapped: Map, by a contract. -/
namespace Go.Proofs.YthgkloapnihpaaaGreat
open Go.RowKit Go.Maps Go.WideMaps Go.WideElems Go.ChangeShapes Go.WideShapes

theorem three_any (w : World) (x y z : Value) (t : TypeId) : ∃ W, w.alloc (.cells #[x, y, z] t) = W ∧ Hid (Below w.heap.size w W) ∧ Hid (w.heap.size < W.heap.size) ∧ Hid (W.heap[w.heap.size]? = some (.cells #[x, y, z] t)) :=
  ⟨_, rfl, (Below.refl _ _).alloc (Nat.le_refl _) _, by show _ < _; simp, World.alloc_heap_new w _⟩
theorem three_at {W : World} {g : Nat} {x y z : Value} {t : TypeId} (h : W.heap[g]? = some (.cells #[x, y, z] t)) : W.cell? ⟨g, 0, none⟩ = some x ∧ W.cell? ⟨g, 1, none⟩ = some y ∧ W.cell? ⟨g, 2, none⟩ = some z :=
  ⟨(cell_of_row _ _ 0 _ _ _ h).trans rfl, (cell_of_row _ _ 1 _ _ _ h).trans rfl, (cell_of_row _ _ 2 _ _ _ h).trans rfl⟩
theorem getD_at {l : List Int} {q : Nat} (h : q < l.length) : l.getD q 0 ∈ l := by
  rw [List.getD_eq_getElem?_getD, List.getElem?_eq_getElem h]
  exact List.getElem_mem h
theorem getD_map {φ : Int → Int} {l : List Int} {q : Nat} (h : q < l.length) : (l.map φ).getD q 0 = φ (l.getD q 0) := by
  rw [List.getD_eq_getElem?_getD, List.getD_eq_getElem?_getD, List.getElem?_map, List.getElem?_eq_getElem h]
  rfl
theorem rise_fresh {N : List Int} (h : RiseI N) {q : Nat} (hq : q < N.length) : N.getD q 0 ∉ N.take q := by
  intro hm
  obtain ⟨i, hi, he⟩ := List.mem_iff_getElem.1 hm
  rw [List.length_take] at hi
  rw [List.getElem_take] at he
  have h1 := List.pairwise_iff_getElem.1 h i q (by omega) hq (by omega)
  rw [List.getD_eq_getElem?_getD, List.getElem?_eq_getElem hq] at he
  simp only [Option.getD_some] at he
  omega
end Go.Proofs.YthgkloapnihpaaaGreat
