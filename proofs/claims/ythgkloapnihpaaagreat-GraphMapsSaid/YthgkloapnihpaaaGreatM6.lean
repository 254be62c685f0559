/- Helpers, joined: Hf, Hg, Hh. -/
import Derived.Test.YthgkloapnihpaaaGreatM5

/- Graphs: the edges turned round, by a contract. -/
namespace Go.Proofs.YthgkloapnihpaaaGreat
open Go.RowKit Go.Maps Go.WideMaps Go.WideElems Go.ChangeShapes Go.WideShapes

/-- Those that stand ahead of one, in so many pairs. -/
def predsP (dn : List Pr) (b : Int) : List Int := (dn.filter fun p => p.2 == b).map (·.1)
theorem mem_predsP {dn : List Pr} {a b : Int} : a ∈ predsP dn b ↔ (a, b) ∈ dn := by
  unfold predsP
  rw [List.mem_map]
  constructor
  · rintro ⟨⟨x, y⟩, h, rfl⟩
    rw [List.mem_filter, beq_iff_eq] at h
    obtain ⟨h1, h2⟩ := h
    subst h2
    exact h1
  · intro h
    exact ⟨(a, b), List.mem_filter.2 ⟨h, by simp⟩, rfl⟩
theorem predsP_nodup {dn : List Pr} (h : dn.Nodup) (b : Int) : (predsP dn b).Nodup := by
  unfold predsP
  rw [List.nodup_iff_pairwise_ne, List.pairwise_map]
  refine List.Pairwise.imp_of_mem ?_ (List.nodup_iff_pairwise_ne.1 (List.Pairwise.sublist List.filter_sublist h))
  intro p q hp hq hne e
  rw [List.mem_filter, beq_iff_eq] at hp hq
  exact hne (Prod.ext e (hp.2.trans hq.2.symm))
theorem predsP_snoc (dn : List Pr) (a b c : Int) : predsP (dn ++ [(a, b)]) c = if c = b then predsP dn c ++ [a] else predsP dn c := by
  unfold predsP
  rw [List.filter_append, List.map_append]
  by_cases e : c = b
  · subst e
    rw [if_pos rfl]
    simp
  · rw [if_neg e]
    have : (b == c) = false := by simpa using fun g => e g.symm
    simp [this]
theorem predsP_len (dn : List Pr) (b : Int) : (predsP dn b).length ≤ dn.length := by
  unfold predsP
  rw [List.length_map]
  exact List.length_filter_le _ _
/-- The map so far. -/
structure TrnSt (w : World) (tb k : Nat) (dn : List Pr) (DT : DV) (h : Int → Value) (W : World) : Prop where
  dom : DomAt Tryz.prog 3 il fit64 asIs tb k (dn.map (·.2)) DT W
  at_ : ∀ b, fit64 b → DT.atKey (il b) (.held (.slice none 0 0)) = .held (h b)
  row : ∀ b, fit64 b → IntsO W w.heap.size (h b) (predsP dn b)
  apart : ∀ b b', fit64 b → fit64 b' → b ≠ b' → ∀ q, (h b).ownBlock = some q → (h b').ownBlock ≠ some q
  gro : w.grownBy W none
  lo : w.heap.size ≤ tb
theorem TrnSt.kept {w : World} {tb k : Nat} {dn : List Pr} {DT : DV} {h : Int → Value} {W W' : World} (H : TrnSt w tb k dn DT h W) (hg : W.grownBy W' none) : TrnSt w tb k dn DT h W' :=
  ⟨H.dom.kept hg (by simp), H.at_, fun b hb => (H.row b hb).kept hg (by cases (h b).ownBlock <;> simp), H.apart, H.gro.trans hg, H.lo⟩
theorem TrnSt.keptAt {w : World} {tb k : Nat} {dn : List Pr} {DT : DV} {h : Int → Value} {W W' : World} {rg : Nat} (H : TrnSt w tb k dn DT h W) (hg : W.grownBy W' (some rg)) (hne : tb ≠ rg) (hlo : w.heap.size ≤ rg) {o : Obj} (ho : W.heap[rg]? = some o) (hc : o.isCells = false) : TrnSt w tb k dn DT h W' :=
  ⟨H.dom.kept hg (by simpa using hne), H.at_, fun b hb => (H.row b hb).kept hg (.inr ((H.row b hb).no ho hc)), H.apart, H.gro.andThen hg (fun j e => .inl (by cases e; exact hlo)), H.lo⟩
theorem trn_made (w : World) : TrnSt w w.heap.size 0 [] (.map []) (fun _ => .slice none 0 0) (w.alloc (.map #[] 0)) :=
  ⟨dom_made Tryz.prog 3 il fit64 asIs w, fun _ _ => rfl, fun _ _ => intsO_nil _ _, fun _ _ _ _ _ q e => by simp [Value.ownBlock] at e, World.grownBy_alloc w _ none, Nat.le_refl _⟩
theorem TrnSt.look {w : World} {tb k : Nat} {dn : List Pr} {DT : DV} {h : Int → Value} {W : World} (H : TrnSt w tb k dn DT h W) {b : Int} (hb : fit64 b) : (Instr.lookup 74 (.map (some tb)) (iv b) false).run Tryz.prog W = .ok (h b) W :=
  look_as H.dom Tryz.underlying74 (zero23 W) hb (H.at_ b hb)
/-- A row of it has grown by one, and is laid in. -/
theorem TrnSt.put {w : World} {tb k : Nat} {dn : List Pr} {DT : DV} {h : Int → Value} {W W6 : World} (H : TrnSt w tb k dn DT h W) {a b : Int} (hb : fit64 b) {v6 : Value} (hk : k < maxLen) (hg6 : W.grownBy W6 (h b).ownBlock) (ho6 : IntsO W6 w.heap.size v6 (predsP dn b ++ [a]))
    (hl6 : ∀ q, v6.ownBlock = some q → (h b).ownBlock = some q ∨ W.heap.size ≤ q) :
    ∃ W7, (Instr.mapUpdate 74 (.map (some tb)) (iv b) v6).run Tryz.prog W6 = .ok () W7 ∧ TrnSt w tb (k + 1) (dn ++ [(a, b)]) (DT.put (il b) (.held v6)) (fun c => if c = b then v6 else h c) W7 ∧ W6.grownBy W7 (some tb) := by
  obtain ⟨o, ho, hc⟩ := dom_obj H.dom
  have hd6 := H.dom.kept hg6 (fun e => (H.row b hb).no ho hc e.symm)
  obtain ⟨o6, ho6', hc6⟩ := dom_obj hd6
  obtain ⟨W7, h1, h2, h3⟩ := put_as hd6 Tryz.underlying74 hk hb v6 (L' := (dn ++ [(a, b)]).map (·.2)) (fun y => by simp)
  have row6 : ∀ c, fit64 c → c ≠ b → IntsO W6 w.heap.size (h c) (predsP dn c) := fun c hc hne => (H.row c hc).beside hg6 fun q e => H.apart b c hb hc (fun e => hne e.symm) q e
  refine ⟨W7, h1, ⟨h2, fun c hc => ?_, fun c hc => ?_, fun c c' hc hc' hne q e1 e2 => ?_, ?_, H.lo⟩, h3⟩
  · rw [at_put hd6 hb hc]
    by_cases e : c = b
    · rw [if_pos e, if_pos e]
    · rw [if_neg e, if_neg e]
      exact H.at_ c hc
  · rw [predsP_snoc]
    by_cases e : c = b
    · subst e
      rw [if_pos rfl]
      simp only [if_true]
      exact ho6.kept h3 (.inr (ho6.no ho6' hc6))
    · rw [if_neg e]
      simp only [e, if_false]
      have := row6 c hc e
      exact this.kept h3 (.inr (this.no ho6' hc6))
  · have old : ∀ c, fit64 c → c ≠ b → (h c).ownBlock = some q → v6.ownBlock = some q → False := fun c hc hne g1 g2 => by
      rcases hl6 q g2 with g3 | g3
      · exact H.apart b c hb hc (fun e => hne e.symm) q g3 g1
      · have := ((H.row c hc).lt g1).2
        omega
    by_cases e : c = b
    · by_cases e' : c' = b
      · exact hne (e.trans e'.symm)
      · simp only [e, if_true] at e1
        simp only [e', if_false] at e2
        exact old c' hc' e' e2 e1
    · simp only [e, if_false] at e1
      by_cases e' : c' = b
      · simp only [e', if_true] at e2
        exact old c hc e e1 e2
      · simp only [e', if_false] at e2
        exact H.apart c c' hc hc' hne q e1 e2
  · refine (H.gro.andThen hg6 (fun q e => .inl ((H.row b hb).lt e).1)).andThen h3 (fun q e => .inl ?_)
    cases e
    exact H.lo
theorem rngX_off {X : Type} {H : Type} {P : Program} {k : TypeId} {lit : X → Lit} {Fit : X → Prop} {R : Value → Option (DataW H × List MemPlace)} {b r n : Nat} {L done : List X} {D : DataW H} {left : Lit → Bool} {cnt B B2 : Nat} {W W' : World} {v : Value} {zs : List Int}
    (h : RngX P k lit Fit R b r n L done D left cnt W) (hv : IntsO W B v zs) (hb : b < B2) (hB : B2 ≤ B) (hg : W.grownBy W' v.ownBlock) : RngX P k lit Fit R b r n L done D left cnt W' :=
  h.keep hg (fun e => by have := (hv.lt e.symm).1; omega) (fun e => by
    obtain ⟨-, ⟨o, ho, hc⟩⟩ := rngX_objs h
    exact hv.no ho hc e.symm)
/-- Within a row of edges. -/
structure TrIn (w : World) (tb ob rgo ib rgi c k : Nat) (N doneO : List Int) (DO : DV) (leftO : Lit → Bool) (cntO : Nat) (a : Int) (dn0 : List Pr) (outs done : List Int) (DI : DV) (left : Lit → Bool) (cnt : Nat) (DT : DV) (h : Int → Value) (W : World) : Prop where
  st : TrnSt w tb k (dn0 ++ done.map fun b => (a, b)) DT h W
  rngo : RngX Tryz.prog 3 il fit64 asIs ob rgo c N doneO DO leftO cntO W
  rngi : RngX Tryz.prog 3 il fit64 asIs ib rgi c outs done DI left cnt W
  len : k = dn0.length + done.length
structure TrOut (w : World) (tb ob rgo c k : Nat) (N : List Int) (E : List Ed) (doneO : List Int) (DO : DV) (leftO : Lit → Bool) (cntO : Nat) (dn : List Pr) (DT : DV) (h : Int → Value) (W : World) : Prop where
  st : TrnSt w tb k dn DT h W
  rngo : RngX Tryz.prog 3 il fit64 asIs ob rgo c N doneO DO leftO cntO W
  once : dn.Nodup
  mem : ∀ p, p ∈ dn ↔ p.1 ∈ doneO ∧ EdR E p.1 p.2
  len : k = dn.length
theorem nodup_pairs (a : Int) : ∀ {R : List Int}, R.Nodup → (R.map fun y => (a, y)).Nodup
  | [], _ => by simp
  | y :: R, h => by
    have h' := List.nodup_cons.1 h
    rw [List.map_cons]
    refine List.nodup_cons.2 ⟨fun hm => ?_, nodup_pairs a h'.2⟩
    obtain ⟨z, hz, e⟩ := List.mem_map.1 hm
    cases e
    exact h'.1 hz
theorem pairs_len {dn : List Pr} {N : List Int} (h : dn.Nodup) (hs : ∀ p ∈ dn, p.1 ∈ N ∧ p.2 ∈ N) (hN : N.length ≤ 500) : dn.length ≤ 250000 := by
  have h1 := nodup_len (L := dn) (G := N.flatMap fun x => N.map fun y => (x, y)) h fun p hp => by
    obtain ⟨g1, g2⟩ := hs p hp
    exact List.mem_flatMap.2 ⟨p.1, g1, List.mem_map.2 ⟨p.2, g2, rfl⟩⟩
  have h2 : (N.flatMap fun x => N.map fun y => (x, y)).length = N.length * N.length := by
    have : ∀ l : List Int, (l.flatMap fun x => N.map fun y => (x, y)).length = l.length * N.length := by
      intro l
      induction l with
      | nil => simp
      | cons x l ih => rw [List.flatMap_cons, List.length_append, ih, List.length_map, List.length_cons, Nat.add_mul, Nat.one_mul, Nat.add_comm]
    exact this N
  have h3 : N.length * N.length ≤ 500 * 500 := Nat.mul_le_mul hN hN
  omega
set_option maxHeartbeats 64000000 in
set_option maxRecDepth 100000 in
theorem turned_any {Z : Nat → Prop} {B g c : Nat} {N : List Int} {E : List Ed} (hN : N.length ≤ 500) (w : World) (h : GrAt Z B g c N E w) :
    Calls Tryz.prog 37 #[.pointer (some ⟨g, 0, none⟩)] w fun e w' => ∃ tb, e = .returned (.map (some tb)) ∧ Hid (TurnAt w.heap.size tb E w' ∧ Below w.heap.size w w' ∧ w.heap.size ≤ tb) := by
  obtain ⟨ob, DO, F, DI, f, h, hZ⟩ := h
  have hmm := @run_makeMap Tryz.prog
  have H := Lib.hid h
  have Hfit : Hid (∀ a ∈ N, fit64 a) := fun a ha => h.dom.fit a ha
  have HN := Lib.hid hN
  obtain ⟨W1, hW1⟩ : ∃ W, w.alloc (.map #[] 0) = W := ⟨_, rfl⟩
  have hg1 : w.grownBy W1 none := by rw [← hW1]; exact World.grownBy_alloc w _ none
  have hs1 : W1.heap.size = w.heap.size + 1 := by rw [← hW1]; simp
  have hG := h.kept hg1 (fun k e => by cases e)
  have c0 := hG.box.cell
  have Hd := Lib.hid hG.dom
  have Hob : Hid (ob < w.heap.size) := h.dom.own.lt
  have Hs1 := Lib.hid hs1
  have HT1 : Hid (TrnSt w w.heap.size 0 [] (.map []) (fun _ => .slice none 0 0) W1) := by rw [← hW1]; exact trn_made w
  clear h hZ hN hg1 hs1 hG
  go_enter Tryz.func37, Tryz.ntmps37
  go_wp2_with (first
    | (at_range; refine wpList_range_own _ rfl _ 71 rfl 3 74 K3 Tryz.underlying71 asIs ob c DO rfl Hd.out.own ?_; intro w2 hrg2 hg2 hs2)
    | go_in)
  obtain ⟨rgo, hrg⟩ : ∃ rg, W1.heap.size = rg := ⟨_, rfl⟩
  have Hrgo : Hid (rgo = w.heap.size + 1) := by show _ = _; rw [← hrg]; exact Hs1.out
  have H2 : Hid (TrOut w w.heap.size ob rgo c 0 N E [] DO (has DO) (Maps.size DO) [] (.map []) (fun _ => .slice none 0 0) w2) := by
    refine ⟨HT1.out.kept hg2, ?_, by simp, by simp, rfl⟩
    rw [← hrg]
    exact rngX_start Hd.out hrg2
  rw [hrg] at *
  clear hrg2 hg2 hs2 c0 Hd
  go_frame
  go_loopw [4] (fun _ wr => ∃ k doneO leftO cntO dn DT hh, Hid (TrOut w w.heap.size ob rgo c k N E doneO DO leftO cntO dn DT hh wr)) (fun _ wr => wr.rangeLeft ob rgo)
  case atStart => exact ⟨0, [], _, _, [], _, _, H2⟩
  case round =>
    obtain ⟨k, doneO, leftO, cntO, dn, DT, hh, HR⟩ := hrel
    obtain ⟨wa, hwa⟩ : ∃ wa, wa = wr := ⟨_, rfl⟩
    subst hwa
    have hmaps : ∀ (v : Value) (y : DV × List MemPlace), asIs v = some y → ∃ c : Value, v = c := fun v _ _ => ⟨v, rfl⟩
    go_wp2_with (first | (at_next; refine wpList_next_ranges _ rfl _ rfl 3 K3 asIs (Value.int .i64) (fun c : Value => c) invI hmaps ob rgo c DO leftO cntO rfl HR.out.rngo.rng ?_ ?_) | go_in)
    · intro hc0 hl0
      have hall := rngX_all HR.out.rngo Hfit.out hl0
      have HE : Hid (∀ p, p ∈ dn ↔ EdR E p.1 p.2) := fun p => by
        rw [HR.out.mem p, hall p.1]
        exact ⟨fun h => h.2, fun h => ⟨(H.out.ends p.1 p.2 h).1, h⟩⟩
      clear hc0 hl0 hall
      go_wp2
      go_ret
      refine ⟨w.heap.size, rfl, ⟨fun a ha => ⟨hh a, predsP dn a, fun W' hb => ?_, HR.out.st.row a ha, predsP_nodup HR.out.once a, fun y => mem_predsP.trans (HE.out (y, a))⟩⟩, grown_of_below HR.out.st.gro, Nat.le_refl _⟩
      exact (HR.out.st.kept (grown_below hb)).look ha
    · intro a cv kl y1 y2 w3 cnt3 hkx hlk hv hat hrg3 hlt3 hg3 hs3 hen
      obtain ⟨b, left3, e, rfl, hfb, hbN, hbn, hrng⟩ := rngX_more enc3 HR.out.rngo Hfit.out hkx hlk hrg3
      obtain rfl : a = b := by simpa using e
      obtain ⟨-, ⟨o3, ho3, hc3⟩⟩ := rngX_objs HR.out.rngo
      have hst := HR.out.st.keptAt hg3 (by have := Hrgo.out; omega) (by have := Hrgo.out; omega) ho3 hc3
      have hcv : cv = .map (some (F a)) := by
        have h1 := hat (.held (.map none))
        rw [H.out.atO a hfb, if_pos hbN] at h1
        have h2 : (DataW.held cv : DV) = y1 := (Prod.mk.inj (Option.some.inj hv)).1
        rw [← h2] at h1
        injection h1 with h1
        exact h1.symm
      subst hcv
      obtain ⟨ib, hib⟩ : ∃ ib, F a = ib := ⟨_, rfl⟩
      have hdi := ((H.out.kept HR.out.st.gro (fun k e => by cases e)).domI a hbN).kept hg3 (fun e => by
        have h1 := (H.out.domI a hbN).own.lt
        have h2 := Hrgo.out
        have h3 : F a = rgo := by simpa using e
        omega)
      have Hilt : Hid (ib < w.heap.size) := by show _ < _; rw [← hib]; exact (H.out.domI a hbN).own.lt
      rw [hib] at hdi hen ⊢
      have Hdi := Lib.hid hdi
      have Hst := Lib.hid hst
      have Hrng := Lib.hid hrng
      have HbN := Lib.hid hbN
      have Hbn := Lib.hid hbn
      have Hlt3 : Hid (cnt3 < wa.rangeLeft ob rgo) := by show _ < _; rw [HR.out.rngo.rng.left_eq]; exact hlt3
      clear hkx hlk hv hat hrg3 hlt3 hg3 hs3 hfb hbN hbn hrng ho3 hc3 hst hdi hib hmaps e
      go_wp2_with (first | (at_range; refine wpList_range_own _ rfl _ 74 rfl 3 23 K3 Tryz.underlying74 asIs ib c (DI a) rfl Hdi.out.own ?_; intro w4 hrg4 hg4 hs4) | go_in)
      obtain ⟨rgi, hri⟩ : ∃ rg, w3.heap.size = rg := ⟨_, rfl⟩
      have Hrgi : Hid (rgo < rgi) := by
        show _ < _
        rw [← hri]
        obtain ⟨-, ⟨o, ho, -⟩⟩ := rngX_objs Hrng.out
        exact (Array.getElem?_eq_some_iff.1 ho).1
      have H4 : Hid (TrIn w w.heap.size ob rgo ib rgi c k N (doneO ++ [a]) DO left3 cnt3 a dn (outsE N E a) [] (DI a) (has (DI a)) (Maps.size (DI a)) DT hh w4) := by
        refine ⟨by rw [List.map_nil, List.append_nil]; exact Hst.out.kept hg4, Hrng.out.keep hg4 (by simp) (by simp), ?_, HR.out.len⟩
        rw [← hri]
        exact rngX_start Hdi.out hrg4
      rw [hri] at *
      clear hrg4 hg4 hs4 Hdi Hst Hrng hri
      go_frame
      go_loopw [6] (fun _ wr => ∃ k done left cnt DT hh, Hid (TrIn w w.heap.size ob rgo ib rgi c k N (doneO ++ [a]) DO left3 cnt3 a dn (outsE N E a) done (DI a) left cnt DT hh wr)) (fun _ wr => wr.rangeLeft ib rgi)
      case atStart => exact ⟨k, [], _, _, _, _, H4⟩
      case round =>
        obtain ⟨k2, done, left, cnt, DT2, hh2, HI⟩ := hrel
        have hfl : ∀ x ∈ outsE N E a, fit64 x := fun x hx => Hfit.out x (List.mem_filter.1 hx).1
        have hany : ∀ (v : Value) (y : DV × List MemPlace), asIs v = some y → ∃ c : Value, v = c := fun v _ _ => ⟨v, rfl⟩
        go_wp2_with (first | (at_next; refine wpList_next_ranges _ rfl _ rfl 3 K3 asIs (Value.int .i64) (fun c : Value => c) invI hany ib rgi c (DI a) left cnt rfl HI.out.rngi.rng ?_ ?_) | go_in)
        · intro hc0 hl0
          have hall := rngX_all HI.out.rngi hfl hl0
          have HO : Hid (TrOut w w.heap.size ob rgo c k2 N E (doneO ++ [a]) DO left3 cnt3 (dn ++ done.map fun b => (a, b)) DT2 hh2 wr) := by
            refine ⟨HI.out.st, HI.out.rngo, ?_, fun p => ?_, by rw [HI.out.len, List.length_append, List.length_map]⟩
            · rw [List.nodup_append]
              refine ⟨HR.out.once, nodup_pairs a HI.out.rngi.once, fun p hp q hq e => ?_⟩
              subst e
              obtain ⟨z, hz, rfl⟩ := List.mem_map.1 hq
              exact Hbn.out ((HR.out.mem _).1 hp).1
            · rw [List.mem_append, HR.out.mem p, List.mem_append, List.mem_singleton]
              constructor
              · rintro (h1 | h1)
                · exact ⟨.inl h1.1, h1.2⟩
                · obtain ⟨z, hz, rfl⟩ := List.mem_map.1 h1
                  exact ⟨.inr rfl, (mem_outsE H.out.ends).1 ((hall z).1 hz)⟩
              · rintro ⟨h1 | h1, h2⟩
                · exact .inl ⟨h1, h2⟩
                · right
                  obtain ⟨p1, p2⟩ := p
                  simp only at h1 h2
                  subst h1
                  exact List.mem_map.2 ⟨p2, (hall p2).2 ((mem_outsE H.out.ends).2 h2), rfl⟩
          clear hc0 hl0 hall hfl hany
          go_wp2
          refine ⟨⟨k2, _, _, _, _, _, _, HO.out⟩, ?_⟩
          rw [HO.out.rngo.rng.left_eq]
          exact Hlt3.out
        · intro x cv kl y1 y2 w5 cnt5 hkx hlk hv hat hrg5 hlt5 hg5 hs5 hen
          obtain ⟨b, left5, e, rfl, hfb, hbL, hbn, hrng⟩ := rngX_more enc3 HI.out.rngi hfl hkx hlk hrg5
          obtain rfl : x = b := by simpa using e
          obtain ⟨-, ⟨o5, ho5, hc5⟩⟩ := rngX_objs HI.out.rngi
          have hne1 := Hrgo.out
          have hne2 := Hrgi.out
          have hst := HI.out.st.keptAt hg5 (by omega) (by omega) ho5 hc5
          have hro := HI.out.rngo.keep hg5 (by have := Hob.out; simp; omega) (by simp; omega)
          have hlook := hst.look hfb
          have Hst := Lib.hid hst
          have Hro := Lib.hid hro
          have Hrng := Lib.hid hrng
          have Hfb := Lib.hid hfb
          have HbL := Lib.hid hbL
          have Hbn2 := Lib.hid hbn
          have Hlt5 : Hid (cnt5 < wr.rangeLeft ib rgi) := by show _ < _; rw [HI.out.rngi.rng.left_eq]; exact hlt5
          have hk2 : k2 ≤ 250000 := by
            have h1 := nodup_pairs a HI.out.rngi.once
            have h2 : (dn ++ done.map fun b => (a, b)).Nodup := by
              rw [List.nodup_append]
              refine ⟨HR.out.once, h1, fun p hp q hq e => ?_⟩
              subst e
              obtain ⟨z, hz, rfl⟩ := List.mem_map.1 hq
              exact Hbn.out ((HR.out.mem _).1 hp).1
            have h3 := pairs_len h2 (N := N) (fun p hp => by
              rcases List.mem_append.1 hp with h4 | h4
              · have := (HR.out.mem p).1 h4
                exact ⟨(H.out.ends _ _ this.2).1, (H.out.ends _ _ this.2).2⟩
              · obtain ⟨z, hz, rfl⟩ := List.mem_map.1 h4
                exact ⟨HbN.out, (List.mem_filter.1 (HI.out.rngi.sub z hz)).1⟩) HN.out
            rw [List.length_append, List.length_map] at h3
            have := HI.out.len
            omega
          have hpl : (predsP (dn ++ done.map fun b => (a, b)) x).length ≤ 1000000 := by
            have h1 := predsP_len (dn ++ done.map fun b => (a, b)) x
            rw [List.length_append, List.length_map] at h1
            have := HI.out.len
            omega
          have Hk2 := Lib.hid hk2
          obtain ⟨v0, hv0⟩ : ∃ v, hh2 x = v := ⟨_, rfl⟩
          have Hv0 := Lib.hid hv0
          rw [hv0] at hlook
          have HRow : Hid (IntsO w5 w.heap.size v0 (predsP (dn ++ done.map fun b => (a, b)) x)) := by
            have h1 := hst.row x hfb
            rw [hv0] at h1
            exact h1
          clear hkx hlk hv hat hrg5 hlt5 hg5 hs5 hfb hbL hbn hrng ho5 hc5 hst hro hfl hany e hne1 hne2 hk2 hv0
          go_wp2_with (first
            | (at_builtin; refine wpList_append_o rfl _ _ rfl w.heap.size v0 (predsP (dn ++ done.map fun b => (a, b)) x) a rfl (HRow.out.alloc _) ⟨w5.heap.size, 0, none⟩ 1 rfl (news_new w5 #[iv a] 3) hpl (by have := Hst.out.gro.size; simp; omega) ?_
               intro v6 w6 hf6 hg6 hl6
               have hA := World.grownBy_alloc w5 (.cells #[iv a] 3) none
               have hrow := HRow.out.alloc (.cells #[iv a] 3)
               obtain ⟨W7, hup, hst7, hg7⟩ := (Hst.out.kept hA).put Hfb.out (by unfold maxLen; have := Hk2.out; omega) (by rw [Hv0.out]; exact hg6) hf6 (by rw [Hv0.out]; exact hl6)
               have hro7 := (rngX_off (Hro.out.keep hA (by simp) (by simp)) hrow Hob.out (Nat.le_refl _) hg6).keep hg7 (by have := Hob.out; simp; omega) (by have := Hrgo.out; simp; omega)
               have hri7 := (rngX_off (Hrng.out.keep hA (by simp) (by simp)) hrow Hilt.out (Nat.le_refl _) hg6).keep hg7 (by have := Hilt.out; simp; omega) (by have := Hrgo.out; have := Hrgi.out; simp; omega)
               have H7 : Hid (TrIn w w.heap.size ob rgo ib rgi c (k2 + 1) N (doneO ++ [a]) DO left3 cnt3 a dn (outsE N E a) (done ++ [x]) (DI a) left5 cnt5 (DT2.put (il x) (.held v6)) (fun c => if c = x then v6 else hh2 c) W7) := by
                 refine ⟨?_, hro7, hri7, by rw [HI.out.len, List.length_append]; rfl⟩
                 rw [List.map_append, ← List.append_assoc]
                 exact hst7
               clear hf6 hg6 hl6 hA hrow hst7 hg7 hro7 hri7)
            | go_in)
          refine ⟨⟨_, done ++ [x], left5, cnt5, _, _, H7.out⟩, ?_⟩
          rw [H7.out.rngi.rng.left_eq]
          exact Hlt5.out
end Go.Proofs.YthgkloapnihpaaaGreat

/- Graphs: counts in a map; how many nodes a graph has. -/
namespace Go.Proofs.YthgkloapnihpaaaGreat
open Go.RowKit Go.Maps Go.WideMaps Go.WideElems Go.ChangeShapes Go.WideShapes

theorem zero3 (w : World) : (zeroValue 3).run Tryz.prog w = .ok (.int .i64 0) w := by kernel_rfl
/-- A map of counts. -/
structure CntAt (hm k : Nat) (hf : Int → Int) (W : World) : Prop where
  ex : ∃ L DH, DomAt Tryz.prog 3 il fit64 asIs hm k L DH W ∧ ∀ b, fit64 b → DH.atKey (il b) (.held (iv 0)) = .held (iv (hf b))
section
variable {hm k : Nat} {hf : Int → Int} {W W' : World}
theorem cnt_made (w : World) : CntAt w.heap.size 0 (fun _ => 0) (w.alloc (.map #[] 0)) := ⟨⟨[], .map [], dom_made Tryz.prog 3 il fit64 asIs w, fun _ _ => rfl⟩⟩
theorem CntAt.kept {row : Option Nat} (h : CntAt hm k hf W) (hg : W.grownBy W' row) (hne : some hm ≠ row) : CntAt hm k hf W' := by
  obtain ⟨L, DH, h1, h2⟩ := h.ex
  exact ⟨⟨L, DH, h1.kept hg hne, h2⟩⟩
theorem CntAt.look (h : CntAt hm k hf W) {b : Int} (hb : fit64 b) : (Instr.lookup 54 (.map (some hm)) (iv b) false).run Tryz.prog W = .ok (iv (hf b)) W := by
  obtain ⟨L, DH, h1, h2⟩ := h.ex
  exact look_as h1 Tryz.underlying54 (zero3 W) hb (h2 b hb)
theorem CntAt.obj (h : CntAt hm k hf W) : ∃ o, W.heap[hm]? = some o ∧ o.isCells = false := by
  obtain ⟨L, DH, h1, h2⟩ := h.ex
  exact dom_obj h1
theorem CntAt.lt (h : CntAt hm k hf W) : hm < W.heap.size := by
  obtain ⟨L, DH, h1, h2⟩ := h.ex
  exact h1.own.lt
theorem CntAt.put (h : CntAt hm k hf W) {b v : Int} (hb : fit64 b) (hk : k < maxLen) : ∃ W7, (Instr.mapUpdate 54 (.map (some hm)) (iv b) (iv v)).run Tryz.prog W = .ok () W7 ∧ CntAt hm (k + 1) (fun c => if c = b then v else hf c) W7 ∧ W.grownBy W7 (some hm) := by
  obtain ⟨L, DH, h1, h2⟩ := h.ex
  obtain ⟨W7, g1, g2, g3⟩ := put_as h1 Tryz.underlying54 hk hb (iv v) (L' := L ++ [b]) (fun y => by simp)
  refine ⟨W7, g1, ⟨⟨_, _, g2, fun c hc => ?_⟩⟩, g3⟩
  rw [at_put h1 hb hc]
  by_cases e : c = b
  · rw [if_pos e, if_pos e]
  · rw [if_neg e, if_neg e]
    exact h2 c hc
theorem CntAt.congr {hf' : Int → Int} (h : CntAt hm k hf W) (he : ∀ b, fit64 b → hf' b = hf b) : CntAt hm k hf' W := by
  obtain ⟨L, DH, h1, h2⟩ := h.ex
  exact ⟨⟨L, DH, h1, fun b hb => by rw [he b hb]; exact h2 b hb⟩⟩
end
theorem perm_of_mem {l m : List Int} (hl : l.Nodup) (hm : m.Nodup) (h : ∀ x, x ∈ l ↔ x ∈ m) : l.length = m.length :=
  Nat.le_antisymm (len_le hl fun x hx => (h x).1 hx) (len_le hm fun x hx => (h x).2 hx)
theorem predsP_hold {N : List Int} {E : List Ed} (hN : N.Nodup) (hE : EndsIn N E) {dn : List Pr} (hd : dn.Nodup) (hm : ∀ p, p ∈ dn ↔ EdR E p.1 p.2) (b : Int) : (predsP dn b).length = holdN N E [] b := by
  unfold holdN
  refine perm_of_mem (predsP_nodup hd b) (hN.filter _) fun x => ?_
  rw [mem_predsP, hm, List.mem_filter]
  simp only [List.not_mem_nil, not_false_eq_true, decide_true, Bool.true_and, edB_iff]
  exact ⟨fun h => ⟨(hE _ _ h).1, h⟩, fun h => h.2⟩
end Go.Proofs.YthgkloapnihpaaaGreat

/- Graphs: Topo, by a contract. -/
namespace Go.Proofs.YthgkloapnihpaaaGreat
open Go.RowKit Go.Maps Go.WideMaps Go.WideElems Go.ChangeShapes Go.WideShapes

theorem dom_count {b n : Nat} {L : List Int} {D : DV} {W : World} (h : DomAt Tryz.prog 3 il fit64 asIs b n L D W) (hn : L.Nodup) : Maps.size D = L.length := by
  have h1 := (dom_keys h hn).length_eq
  obtain ⟨es, hD, -⟩ := h.own.entries K3
  subst hD
  rw [h1]
  simp [intKeys, Maps.size]
/-- Plainly: those that are free among the first ones. -/
def freeQ (N : List Int) (E : List Ed) (q : Nat) : List Int := (N.take q).filter fun n => holdN N E [] n == 0
theorem freeQ_zero (N : List Int) (E : List Ed) : freeQ N E 0 = [] := by simp [freeQ]
theorem freeQ_next {N : List Int} {E : List Ed} {q : Nat} (hq : q < N.length) : freeQ N E (q + 1) = if holdN N E [] (N.getD q 0) = 0 then freeQ N E q ++ [N.getD q 0] else freeQ N E q := by
  unfold freeQ
  rw [take_more hq, List.filter_append]
  by_cases h : holdN N E [] (N.getD q 0) = 0
  · rw [if_pos h]
    have : (holdN N E [] (N.getD q 0) == 0) = true := by simpa using h
    simp only [List.filter_cons, this, if_true, List.filter_nil]
  · rw [if_neg h]
    have : (holdN N E [] (N.getD q 0) == 0) = false := by simpa using h
    simp only [List.filter_cons, this, List.filter_nil]
    simp
theorem freeQ_all (N : List Int) (E : List Ed) : freeQ N E N.length = freeN N E [] := by
  unfold freeQ freeN
  rw [List.take_length]
  apply List.filter_congr
  intro n _
  simp
/-- One is taken out, and what it holds back is looked at: so many so far. -/
structure KIn (N : List Int) (E : List Ed) (O : List Int) (a : Int) (done free : List Int) : Prop where
  rise : RiseI free
  mem : ∀ n, n ∈ free ↔ (n ∈ freeN N E O ∧ n ≠ a) ∨ (n ∈ done ∧ holdN N E (O ++ [a]) n = 0)
def hfIn (N : List Int) (E : List Ed) (O done : List Int) (b : Int) : Int := if b ∈ done then (holdN N E O b : Int) - 1 else holdN N E O b
theorem rise_freeN {N : List Int} {E : List Ed} {O : List Int} (hN : RiseI N) : RiseI (freeN N E O) := hN.filter _
theorem KIn.start {N : List Int} {E : List Ed} {O l : List Int} {a : Int} (hN : RiseI N) (hf : freeN N E O = a :: l) : KIn N E O a [] l := by
  have hr := rise_freeN (E := E) (O := O) hN
  rw [hf] at hr
  have hr' := List.pairwise_cons.1 hr
  refine ⟨hr'.2, fun n => ?_⟩
  rw [hf, List.mem_cons]
  constructor
  · intro h
    exact .inl ⟨.inr h, fun e => by have := hr'.1 n h; omega⟩
  · rintro (⟨h1 | h1, h2⟩ | h)
    · exact absurd h1 h2
    · exact h1
    · simp at h
section
variable {N : List Int} {E : List Ed} {O done free : List Int} {a b : Int}
theorem KIn.stay (h : KIn N E O a done free) (h0 : holdN N E (O ++ [a]) b ≠ 0) : KIn N E O a (done ++ [b]) free := by
  refine ⟨h.rise, fun n => ?_⟩
  rw [h.mem n, List.mem_append, List.mem_singleton]
  constructor
  · rintro (h1 | h1)
    · exact .inl h1
    · exact .inr ⟨.inl h1.1, h1.2⟩
  · rintro (h1 | ⟨h1 | h1, h2⟩)
    · exact .inl h1
    · exact .inr ⟨h1, h2⟩
    · rw [h1] at h2; exact absurd h2 h0
theorem KIn.put (h : KIn N E O a done free) (h0 : holdN N E (O ++ [a]) b = 0) : KIn N E O a (done ++ [b]) (putI free b) := by
  refine ⟨rise_putI b h.rise, fun n => ?_⟩
  rw [mem_putI, h.mem n, List.mem_append, List.mem_singleton]
  constructor
  · rintro (h1 | h1 | h1)
    · rw [h1]; exact .inr ⟨.inr rfl, h0⟩
    · exact .inl h1
    · exact .inr ⟨.inl h1.1, h1.2⟩
  · rintro (h1 | ⟨h1 | h1, h2⟩)
    · exact .inr (.inl h1)
    · exact .inr (.inr ⟨h1, h2⟩)
    · exact .inl h1
theorem KIn.notIn (hN : N.Nodup) (h : KIn N E O a done free) (ha : a ∈ N) (haO : a ∉ O) (hb : EdR E a b) (hd : b ∉ done) : b ∉ free := by
  intro hf
  rcases (h.mem b).1 hf with h1 | h1
  · have h2 := (mem_freeN.1 h1.1).2.2
    have h3 := holdN_step (E := E) hN ha haO b
    rw [if_pos (edB_iff.2 hb)] at h3
    omega
  · exact hd h1.1
theorem KIn.fin (hN : RiseI N) (hE : EndsIn N E) (hO : TopoOk N E O) (h : KIn N E O a done free) (ha : a ∈ freeN N E O) (hall : ∀ n, n ∈ done ↔ EdR E a n) : free = freeN N E (O ++ [a]) := by
  refine riseI_ext h.rise (rise_freeN hN) fun n => ?_
  rw [h.mem n, mem_free_step (riseI_nodup hN) hE hO ha n, hall n]
theorem hfIn_done (hN : N.Nodup) (ha : a ∈ N) (haO : a ∉ O) (hall : ∀ n, n ∈ done ↔ EdR E a n) (b : Int) : hfIn N E O done b = holdN N E (O ++ [a]) b := by
  have h3 := holdN_step (E := E) hN ha haO b
  unfold hfIn
  by_cases hb : EdR E a b
  · rw [if_pos (edB_iff.2 hb)] at h3
    rw [if_pos ((hall b).2 hb)]
    omega
  · rw [if_neg (fun g => hb (edB_iff.1 g))] at h3
    rw [if_neg (fun g => hb ((hall b).1 g))]
    omega
theorem hold_le (N : List Int) (E : List Ed) (O : List Int) (b : Int) : holdN N E O b ≤ N.length := List.length_filter_le _ _
end
/-- What is answered: nothing and no, or all in order and yes. -/
def topoIs (r : Option (List Int)) (O : List Int) (ok : Bool) : Prop := (r = none ∧ O = [] ∧ ok = false) ∨ (r = some O ∧ ok = true)
/-- The counts within the first loops. -/
structure T1In (w : World) (hm ob rgo ib rgi c k : Nat) (N doneO : List Int) (DO : DV) (leftO : Lit → Bool) (cntO : Nat) (a : Int) (dn0 : List Pr) (outs done : List Int) (DI : DV) (left : Lit → Bool) (cnt : Nat) (W : World) : Prop where
  ct : CntAt hm k (fun b => ((predsP (dn0 ++ done.map fun b => (a, b)) b).length : Int)) W
  gro : w.grownBy W none
  rngo : RngX Tryz.prog 3 il fit64 asIs ob rgo c N doneO DO leftO cntO W
  rngi : RngX Tryz.prog 3 il fit64 asIs ib rgi c outs done DI left cnt W
  len : k = dn0.length + done.length
structure T1Out (w : World) (hm ob rgo c k : Nat) (N : List Int) (E : List Ed) (doneO : List Int) (DO : DV) (leftO : Lit → Bool) (cntO : Nat) (dn : List Pr) (W : World) : Prop where
  ct : CntAt hm k (fun b => ((predsP dn b).length : Int)) W
  gro : w.grownBy W none
  rngo : RngX Tryz.prog 3 il fit64 asIs ob rgo c N doneO DO leftO cntO W
  once : dn.Nodup
  mem : ∀ p, p ∈ dn ↔ p.1 ∈ doneO ∧ EdR E p.1 p.2
  len : k = dn.length
/-- Where the free ones are gathered. -/
structure T2 (w : World) (hm k : Nat) (N : List Int) (E : List Ed) (q : Nat) (v37 v8 : Value) (W : World) : Prop where
  ct : CntAt hm k (fun b => (holdN N E [] b : Int)) W
  gro : w.grownBy W none
  nodes : IntsO W w.heap.size v37 N
  free : IntsO W w.heap.size v8 (freeQ N E q)
  apart : ∀ q, v8.ownBlock = some q → v37.ownBlock ≠ some q
/-- Where they are taken out. -/
structure T3 (w : World) (hm k : Nat) (hf : Int → Int) (O free : List Int) (v8 v9 : Value) (W : World) : Prop where
  ct : CntAt hm k hf W
  gro : w.grownBy W none
  free : IntsO W w.heap.size v8 free
  ord : IntsO W w.heap.size v9 O
  apart : ∀ q, v8.ownBlock = some q → v9.ownBlock ≠ some q
theorem T3.kept {w : World} {hm k : Nat} {hf : Int → Int} {O free : List Int} {v8 v9 : Value} {W W' : World} (h : T3 w hm k hf O free v8 v9 W) (hg : W.grownBy W' none) : T3 w hm k hf O free v8 v9 W' :=
  ⟨h.ct.kept hg (by simp), h.gro.trans hg, h.free.kept hg (by cases v8.ownBlock <;> simp), h.ord.kept hg (by cases v9.ownBlock <;> simp), h.apart⟩
theorem T3.keptAt {w : World} {hm k : Nat} {hf : Int → Int} {O free : List Int} {v8 v9 : Value} {W W' : World} {rg : Nat} (h : T3 w hm k hf O free v8 v9 W) (hg : W.grownBy W' (some rg)) (hne : hm ≠ rg) (hlo : w.heap.size ≤ rg) {o : Obj} (ho : W.heap[rg]? = some o) (hc : o.isCells = false) : T3 w hm k hf O free v8 v9 W' :=
  ⟨h.ct.kept hg (by simpa using hne), h.gro.andThen hg (fun j e => .inl (by cases e; exact hlo)), h.free.kept hg (.inr (h.free.no ho hc)), h.ord.kept hg (.inr (h.ord.no ho hc)), h.apart⟩
set_option maxHeartbeats 128000000 in
set_option maxRecDepth 100000 in
theorem topo_p {Z : Nat → Prop} {B g c : Nat} {N : List Int} {E : List Ed} (hc : c ≤ 100000) (hN : N.length ≤ 500) (w : World) (h : GrAt Z B g c N E w) :
    Calls Tryz.prog 15 #[.pointer (some ⟨g, 0, none⟩)] w fun e w' => ∃ v O ok, e = .returned (.tuple #[v, .bool ok]) ∧ Hid (IntsO w' w.heap.size v O ∧ topoIs (topoZ N E N.length []) O ok ∧ Below w.heap.size w w') := by
  have HGr := Lib.hid h
  obtain ⟨ob, DO, F, DI, f, h, hZ⟩ := h
  have hmm := @run_makeMap Tryz.prog
  have H := Lib.hid h
  have Hfit : Hid (∀ a ∈ N, fit64 a) := fun a ha => h.dom.fit a ha
  have HN := Lib.hid hN
  have Hc := Lib.hid hc
  obtain ⟨W1, hW1⟩ : ∃ W, w.alloc (.map #[] 0) = W := ⟨_, rfl⟩
  have hg1 : w.grownBy W1 none := by rw [← hW1]; exact World.grownBy_alloc w _ none
  have hs1 : W1.heap.size = w.heap.size + 1 := by rw [← hW1]; simp
  have hG := h.kept hg1 (fun k e => by cases e)
  have c0 := hG.box.cell
  have Hd := Lib.hid hG.dom
  have Hob : Hid (ob < w.heap.size) := h.dom.own.lt
  have Hs1 := Lib.hid hs1
  have HC1 : Hid (CntAt w.heap.size 0 (fun _ => 0) W1) := by rw [← hW1]; exact cnt_made w
  have Hg1 := Lib.hid hg1
  obtain ⟨n, hn⟩ : ∃ n, N.length = n := ⟨_, rfl⟩
  have Hn := Lib.hid hn
  clear h hZ hN hg1 hs1 hG hc
  go_enter Tryz.func15, Tryz.ntmps15
  go_wp2_with (first
    | (at_range; refine wpList_range_own _ rfl _ 71 rfl 3 74 K3 Tryz.underlying71 asIs ob c DO rfl Hd.out.own ?_; intro w2 hrg2 hg2 hs2)
    | go_in)
  obtain ⟨rgo, hrg⟩ : ∃ rg, W1.heap.size = rg := ⟨_, rfl⟩
  have Hrgo : Hid (rgo = w.heap.size + 1) := by show _ = _; rw [← hrg]; exact Hs1.out
  have H2 : Hid (T1Out w w.heap.size ob rgo c 0 N E [] DO (has DO) (Maps.size DO) [] w2) := by
    refine ⟨HC1.out.kept hg2 (by simp), Hg1.out.trans hg2, ?_, by simp, by simp, rfl⟩
    rw [← hrg]
    exact rngX_start Hd.out hrg2
  rw [hrg] at *
  clear hrg2 hg2 hs2 c0 Hd hn
  go_frame
  go_loopw [6] (fun _ wr => ∃ k doneO leftO cntO dn, Hid (T1Out w w.heap.size ob rgo c k N E doneO DO leftO cntO dn wr)) (fun _ wr => wr.rangeLeft ob rgo)
  case atStart => exact ⟨0, [], _, _, [], H2⟩
  case round =>
    obtain ⟨k, doneO, leftO, cntO, dn, HR⟩ := hrel
    obtain ⟨wa, hwa⟩ : ∃ wa, wa = wr := ⟨_, rfl⟩
    subst hwa
    have hmaps : ∀ (v : Value) (y : DV × List MemPlace), asIs v = some y → ∃ c : Value, v = c := fun v _ _ => ⟨v, rfl⟩
    go_wp2_with (first | (at_next; refine wpList_next_ranges _ rfl _ rfl 3 K3 asIs (Value.int .i64) (fun c : Value => c) invI hmaps ob rgo c DO leftO cntO rfl HR.out.rngo.rng ?_ ?_) | go_in)
    · intro hc0 hl0
      have hall := rngX_all HR.out.rngo Hfit.out hl0
      have hE : ∀ p, p ∈ dn ↔ EdR E p.1 p.2 := fun p => by
        rw [HR.out.mem p, hall p.1]
        exact ⟨fun h => h.2, fun h => ⟨(H.out.ends p.1 p.2 h).1, h⟩⟩
      have HC : Hid (CntAt w.heap.size k (fun b => (holdN N E [] b : Int)) wa) := HR.out.ct.congr fun b hb => by
        rw [predsP_hold (riseI_nodup H.out.nodes) H.out.ends HR.out.once hE]
      have hk : k ≤ 250000 := by
        rw [HR.out.len]
        exact pairs_len HR.out.once (fun p hp => H.out.ends _ _ ((hE p).1 hp)) HN.out
      have Hk := Lib.hid hk
      have Hgro := Lib.hid HR.out.gro
      have HNod := Lib.hid (nodes_any Hc.out wa (HGr.out.below (grown_of_below HR.out.gro)))
      clear hc0 hl0 hall hE hk hmaps HR
      go_wp2_with (first
        | (go_at_call 21; (with_reducible refine HNod.out.mono ?_); rintro e w4 ⟨v37, rfl, K4⟩
           obtain ⟨p37, c37, rfl⟩ := row_sl K4.out.1
           rw [Hn.out])
        | go_in)
      have H5 : Hid (T2 w w.heap.size k N E 0 (.slice p37 n c37) (.slice none 0 0) w4) := by
        refine ⟨HC.out.kept (grown_below K4.out.2) (by simp), Hgro.out.trans (grown_below K4.out.2), ?_, by rw [freeQ_zero]; exact intsO_nil _ _, fun q e => by simp [Value.ownBlock] at e⟩
        have h1 := intsO_row K4.out.1
        rw [Hn.out] at h1
        exact h1.low Hgro.out.size
      clear K4 HC Hgro HNod
      go_loopw [8, 39] (fun v8 i wr => ∃ q : Nat, q ≤ n ∧ i = .int .i64 ((q : Nat) : Int) ∧ Hid (T2 w w.heap.size k N E q (.slice p37 n c37) v8 wr)) (fun _ i _ => n - (intOf i).toNat)
      case atStart => exact ⟨0, Nat.zero_le _, rfl, H5.out⟩
      case round =>
        obtain ⟨q, hq, rfl, HT⟩ := hrel
        obtain ⟨wb, hwb⟩ : ∃ wb, wb = wr := ⟨_, rfl⟩
        subst hwb
        by_cases hlt : q < n
        · have hqN : q < N.length := by rw [Hn.out]; exact hlt
          have hsl : SlI wb p37 N := by
            obtain ⟨p, c, e, hs⟩ := HT.out.nodes.sl
            simp only [Value.slice.injEq] at e
            rw [e.1]
            exact hs
          obtain ⟨b37, off37, rfl, hc0⟩ := hsl.at hqN
          have hfr := freeQ_next (E := E) hqN
          have haN := getD_in (d := 0) hqN
          obtain ⟨a, ha⟩ : ∃ a, N.getD q 0 = a := ⟨_, rfl⟩
          rw [ha] at hc0 hfr haN
          have hlook := HT.out.ct.look (Hfit.out a haN)
          have hml := hold_le N E [] a
          obtain ⟨m, hm⟩ : ∃ m, holdN N E [] a = m := ⟨_, rfl⟩
          rw [hm] at hlook hml hfr
          have hltI : (q : Int) < (n : Int) := by omega
          have hnb : n ≤ 500 := by rw [← Hn.out]; exact HN.out
          have hfl : (freeQ N E q).length ≤ 1000000 := by
            have h1 : (freeQ N E q).length ≤ (N.take q).length := List.length_filter_le _ _
            rw [List.length_take] at h1
            have := HN.out
            omega
          by_cases h0 : m = 0
          · subst h0
            rw [if_pos rfl] at hfr
            have Hfr := Lib.hid hfr
            have e1 : ((((0 : Nat) : Int)) == 0) = true := rfl
            clear hsl hm hml ha haN hqN hfr
            go_wp2_with (first
              | (at_builtin; refine wpList_append_o rfl _ _ rfl w.heap.size u8 (freeQ N E q) a rfl (HT.out.free.alloc _) ⟨wb.heap.size, 0, none⟩ 1 rfl (news_new wb #[iv a] 3) hfl (by have := HT.out.gro.size; simp; omega) ?_
                 intro v8 w6 hf6 hg6 hl6
                 have hA := World.grownBy_alloc wb (.cells #[iv a] 3) none
                 have H6 : Hid (T2 w w.heap.size k N E (q + 1) (.slice (some ⟨b37, off37, none⟩) n c37) v8 w6) := by
                   refine ⟨(HT.out.ct.kept hA (by simp)).kept hg6 (fun e => by
                     obtain ⟨o, ho, hc⟩ := HT.out.ct.obj
                     exact HT.out.free.no ho hc e.symm), (HT.out.gro.trans hA).andThen hg6 (fun q e => .inl (HT.out.free.lt e).1), (HT.out.nodes.alloc (.cells #[iv a] 3)).beside hg6 HT.out.apart, by rw [Hfr.out]; exact hf6, fun q h1 h2 => ?_⟩
                   rcases hl6 q h1 with h3 | h3
                   · exact HT.out.apart q h3 h2
                   · have h4 := (HT.out.nodes.lt h2).2
                     simp at h3
                     omega
                 clear hf6 hg6 hl6 hA)
              | go_in)
            go_roundw
            case rel => exact ⟨q + 1, by omega, by go_num, H6.out⟩
            case measure => simp [intOf]; omega
          · rw [if_neg h0] at hfr
            have e1 : (((m : Nat) : Int) == 0) = false := by simp; omega
            have H6 : Hid (T2 w w.heap.size k N E (q + 1) (.slice (some ⟨b37, off37, none⟩) n c37) u8 wb) := ⟨HT.out.ct, HT.out.gro, HT.out.nodes, by rw [hfr]; exact HT.out.free, HT.out.apart⟩
            clear hsl hm hml ha haN hqN hfr
            go_wp2
            go_roundw
            case rel => exact ⟨q + 1, by omega, by go_num, H6.out⟩
            case measure => simp [intOf]; omega
        · have hqn : q = n := by omega
          have H6 : Hid (T3 w w.heap.size k (fun b => (holdN N E [] b : Int)) [] (freeN N E []) u8 (.slice none 0 0) wb) := by
            refine ⟨HT.out.ct, HT.out.gro, ?_, intsO_nil _ _, fun q h1 h2 => by simp [Value.ownBlock] at h2⟩
            rw [← freeQ_all, Hn.out, ← hqn]
            exact HT.out.free
          clear HT hqn
          go_wp2
          try go_frame
          go_loopw [8, 9] (fun v8 v9 wr => ∃ k2 O, Hid (T3 w w.heap.size k2 (fun b => (holdN N E O b : Int)) O (freeN N E O) v8 v9 wr ∧ TopoOk N E O ∧ topoZ N E (N.length - O.length) O = topoZ N E N.length [] ∧ k2 ≤ 250000 + 500 * O.length)) (fun v8 v9 _ => n - lenOf v9)
          case atStart => exact ⟨k, [], H6.out, TopoOk.zero _ _, rfl, by have := Hk.out; simp; omega⟩
          case round =>
            obtain ⟨k2, O, HO⟩ := hrel
            obtain ⟨wd, hwd⟩ : ∃ wd, wd = wr := ⟨_, rfl⟩
            subst hwd
            obtain ⟨p8, c8, rfl, hc8, hsl⟩ := HO.out.1.free.form
            obtain ⟨p9, c9, rfl, -, -⟩ := HO.out.1.ord.form
            have hOl : O.length ≤ N.length := len_le HO.out.2.1.once HO.out.2.1.sub
            rw [Hn.out] at hOl
            cases hfr : freeN N E O with
            | nil =>
              have Hfr := Lib.hid hfr
              have hG := H.out.kept HO.out.1.gro (fun k e => by cases e)
              have c0 := hG.box.cell
              have hl := hG.dom.own.len Tryz.underlying71
              rw [dom_count hG.dom (riseI_nodup hG.nodes), Hn.out] at hl
              rw [hfr] at hsl hc8
              simp only [List.length_nil] at *
              obtain ⟨o, ho⟩ : ∃ o, O.length = o := ⟨_, rfl⟩
              have Ho := Lib.hid ho
              have Hord : Hid (IntsO wd w.heap.size (.slice p9 o c9) O) := by
                have h1 := HO.out.1.ord
                rw [ho] at h1
                exact h1
              rw [ho]
              clear hsl hc8 hG
              by_cases hon : o < n
              · have e1 : decide ((o : Int) < (n : Int)) = true := by simpa using hon
                have HZ : Hid (topoZ N E N.length [] = none) := by
                  show _ = _
                  rw [← HO.out.2.2.1]
                  exact topo_none Hfr.out (by rw [Hn.out, ho]; exact hon)
                clear ho hfr
                go_wp2
                go_ret2
                exact ⟨_, [], false, rfl, intsO_nil _ _, .inl ⟨HZ.out, rfl, rfl⟩, grown_of_below HO.out.1.gro⟩
              · have e1 : decide ((o : Int) < (n : Int)) = false := by simpa using hon
                have HZ : Hid (topoZ N E N.length [] = some O) := by
                  show _ = _
                  rw [← HO.out.2.2.1]
                  exact topo_some (by rw [Hn.out, ho]; exact hon)
                clear ho hfr
                go_wp2
                go_ret2
                exact ⟨_, O, true, rfl, Hord.out, .inr ⟨HZ.out, rfl⟩, grown_of_below HO.out.1.gro⟩
            | cons a l =>
              rw [hfr] at hsl hc8
              obtain ⟨g8, off8, rfl, hgb, hgl, hcell⟩ := hsl (by simp)
              have ct := hcell 0 (by simp)
              rw [List.getD_cons_zero, Nat.add_zero] at ct
              have hfree := HO.out.1.free
              rw [hfr] at hfree
              obtain ⟨-, h1c, htl⟩ := hfree.tail
              have haf := mem_freeN.1 (show a ∈ freeN N E O by rw [hfr]; simp)
              have Hft := Lib.hid (Hfit.out a haf.1)
              have Htl := Lib.hid htl
              rw [List.length_cons] at hc8 ⊢
              obtain ⟨m, hm⟩ : ∃ m, l.length = m := ⟨_, rfl⟩
              rw [hm] at hc8 ⊢
              have hmn : m ≤ 500 := by
                have h2 : (freeN N E O).length ≤ N.length := List.length_filter_le _ _
                rw [hfr, List.length_cons] at h2
                have := HN.out
                omega
              have Hfr := Lib.hid hfr
              clear hsl hcell hgb hgl hfree htl hfr
              have Hcc := Lib.hid h1c
              have hg0 : decide ((0 : Int) < (m : Int) + 1) = true := by simp
              have hix1 : (0 : Int) < (m : Int) + 1 := by omega
              have HaN := Lib.hid haf.1
              have HaO := Lib.hid haf.2.1
              have Hafr : Hid (a ∈ freeN N E O) := by show _ ∈ _; rw [Hfr.out]; simp
              obtain ⟨ib, hib⟩ : ∃ ib, F a = ib := ⟨_, rfl⟩
              have Hib := Lib.hid hib
              have Hilt : Hid (ib < w.heap.size) := by show _ < _; rw [← hib]; exact (H.out.domI a haf.1).own.lt
              have hOb : O.length ≤ 1000000 := by have := HN.out; have := Hn.out; omega
              have Hap8 : Hid (∀ q, (some g8 : Option Nat) = some q → (Value.slice p9 O.length c9).ownBlock ≠ some q) := by
                intro q h1 h2
                exact HO.out.1.apart q (by simpa [Value.ownBlock] using h1) h2
              rw [hm] at Htl
              clear haf hm hib
              by_cases hc1 : c8 = 1
              · subst hc1
                obtain rfl : m = 0 := by omega
                have HFR : Hid (IntsO wd w.heap.size (.slice (some ⟨g8, off8, none⟩) 0 0) l) := Htl.out
                have HT0 : Hid (IntsO wd w.heap.size (.slice (some ⟨g8, off8, none⟩) 0 0) l) := HFR
                have hap0 : ∀ q, (Value.slice p9 O.length c9).ownBlock = some q → (Value.slice (some ⟨g8, off8, none⟩) 0 0).ownBlock ≠ some q := fun q h1 h2 => Hap8.out q (by simpa [Value.ownBlock] using h2) h1
                have Hap0 := Lib.hid hap0
                clear hap0 HFR
                go_wp2_with (first
                  | (at_builtin; refine wpList_append_o rfl _ _ rfl w.heap.size (.slice p9 O.length c9) O a rfl (HO.out.1.ord.alloc _) ⟨wd.heap.size, 0, none⟩ 1 rfl (news_new wd #[iv a] 3) hOb (by have := HO.out.1.gro.size; simp; omega) ?_
                     intro v9 w6 hf6 hg6 hl6
                     have hA := World.grownBy_alloc wd (.cells #[iv a] 3) none
                     have hgro6 : w.grownBy w6 none := (HO.out.1.gro.trans hA).andThen hg6 (fun q e => .inl (HO.out.1.ord.lt e).1)
                     have hT6 : T3 w w.heap.size k2 (fun b => (holdN N E O b : Int)) (O ++ [a]) l (.slice (some ⟨g8, off8, none⟩) 0 0) v9 w6 := by
                       refine ⟨(HO.out.1.ct.kept hA (by simp)).kept hg6 (fun e => by
                         obtain ⟨o, ho, hc⟩ := HO.out.1.ct.obj
                         exact HO.out.1.ord.no ho hc e.symm), hgro6, (HT0.out.alloc (.cells #[iv a] 3)).beside hg6 Hap0.out, hf6, fun q h1 h2 => ?_⟩
                       rcases hl6 q h2 with h3 | h3
                       · exact Hap0.out q h3 h1
                       · have h4 := (HT0.out.lt h1).2
                         simp at h3
                         omega
                     have hG6 := H.out.kept hgro6 (fun k e => by cases e)
                     have c0 := hG6.box.cell
                     have l1 := look_as hG6.dom Tryz.underlying71 (zero65 w6) Hft.out ((hG6.atO a Hft.out).trans (by rw [if_pos HaN.out]))
                     have hdm := hG6.domI a HaN.out
                     rw [Hib.out] at l1 hdm
                     have HT6 := Lib.hid hT6
                     have Hdm := Lib.hid hdm
                     clear hf6 hg6 hl6 hA hgro6 hT6 hG6 hdm)
                  | (at_range; refine wpList_range_own _ rfl _ 74 rfl 3 23 K3 Tryz.underlying74 asIs ib c (DI a) rfl Hdm.out.own ?_; intro w7 hrg7 hg7 hs7)
                  | go_in)
                obtain ⟨rgi, hri⟩ : ∃ rg, w6.heap.size = rg := ⟨_, rfl⟩
                have Hrgi : Hid (w.heap.size < rgi) := by show _ < _; rw [← hri]; exact HT6.out.ct.lt
                have H7 : Hid (T3 w w.heap.size k2 (hfIn N E O []) (O ++ [a]) l (.slice (some ⟨g8, off8, none⟩) 0 0) v9 w7 ∧ KIn N E O a [] l ∧ RngX Tryz.prog 3 il fit64 asIs ib rgi c (outsE N E a) [] (DI a) (has (DI a)) (Maps.size (DI a)) w7 ∧ k2 = k2 + ([] : List Int).length) := by
                  refine ⟨?_, KIn.start H.out.nodes Hfr.out, ?_, rfl⟩
                  · have h1 := HT6.out.kept hg7
                    exact ⟨h1.ct.congr fun b hb => by unfold hfIn; rw [if_neg (by simp)], h1.gro, h1.free, h1.ord, h1.apart⟩
                  · rw [← hri]
                    exact rngX_start Hdm.out hrg7
                rw [hri] at *
                clear hrg7 hg7 hs7 Hdm HT6 hri HT0 Hap0 c0 l1
                try go_frame
                go_loopw [8] (fun v8 wr => ∃ k3 done left cnt fr, Hid (T3 w w.heap.size k3 (hfIn N E O done) (O ++ [a]) fr v8 v9 wr ∧ KIn N E O a done fr ∧ RngX Tryz.prog 3 il fit64 asIs ib rgi c (outsE N E a) done (DI a) left cnt wr ∧ k3 = k2 + done.length)) (fun _ wr => wr.rangeLeft ib rgi)
                case atStart => exact ⟨k2, [], _, _, l, H7.out⟩
                case round =>
                  obtain ⟨k3, done, left, cnt, fr, HI⟩ := hrel
                  have hfl : ∀ x ∈ outsE N E a, fit64 x := fun x hx => Hfit.out x (List.mem_filter.1 hx).1
                  have hany : ∀ (v : Value) (y : DV × List MemPlace), asIs v = some y → ∃ c : Value, v = c := fun v _ _ => ⟨v, rfl⟩
                  have hdl : done.length ≤ 500 := by
                    have h1 := len_le HI.out.2.2.1.once (m := N) fun x hx => (List.mem_filter.1 (HI.out.2.2.1.sub x hx)).1
                    have := HN.out
                    omega
                  have hOl2 : O.length + 1 ≤ n := by
                    have h1 := len_le (HO.out.2.1.next H.out.ends Hafr.out).once (HO.out.2.1.next H.out.ends Hafr.out).sub
                    rw [List.length_append, List.length_singleton, Hn.out] at h1
                    exact h1
                  go_wp2_with (first | (at_next; refine wpList_next_ranges _ rfl _ rfl 3 K3 asIs (Value.int .i64) (fun c : Value => c) invI hany ib rgi c (DI a) left cnt rfl HI.out.2.2.1.rng ?_ ?_) | go_in)
                  · intro hc0 hl0
                    have hall := rngX_all HI.out.2.2.1 hfl hl0
                    have hall2 : ∀ n, n ∈ done ↔ EdR E a n := fun z => (hall z).trans (mem_outsE H.out.ends)
                    have hfin := HI.out.2.1.fin H.out.nodes H.out.ends HO.out.2.1 Hafr.out hall2
                    have hT := HI.out.1
                    rw [hfin] at hT
                    have HT8 : Hid (T3 w w.heap.size k3 (fun b => (holdN N E (O ++ [a]) b : Int)) (O ++ [a]) (freeN N E (O ++ [a])) u8 v9 wr) := ⟨hT.ct.congr fun b hb => (hfIn_done (riseI_nodup H.out.nodes) HaN.out HaO.out hall2 b).symm, hT.gro, hT.free, hT.ord, hT.apart⟩
                    obtain ⟨q9, d9, hv9, -, -⟩ := HI.out.1.ord.form
                    have Hv9 := Lib.hid hv9
                    clear hc0 hl0 hall hfl hany hall2 hfin hT hv9
                    go_wp2
                    refine ⟨⟨k3, O ++ [a], HT8.out, HO.out.2.1.next H.out.ends Hafr.out, ?_, ?_⟩, ?_⟩
                    · rw [← HO.out.2.2.1]
                      exact (topo_next HO.out.2.1 Hfr.out).symm
                    · have h1 := HI.out.2.2.2
                      have h2 := HO.out.2.2.2
                      rw [List.length_append, List.length_singleton]
                      omega
                    · rw [Hv9.out]
                      simp only [lenOf, List.length_append, List.length_singleton]
                      omega
                  · intro x cv kl y1 y2 w5 cnt5 hkx hlk hv hat hrg5 hlt5 hg5 hs5 hen
                    obtain ⟨b, left5, e, rfl, hfb, hbL, hbn, hrng⟩ := rngX_more enc3 HI.out.2.2.1 hfl hkx hlk hrg5
                    obtain rfl : x = b := by simpa using e
                    obtain ⟨-, ⟨o5, ho5, hc5⟩⟩ := rngX_objs HI.out.2.2.1
                    have hRx : EdR E a x := (mem_outsE H.out.ends).1 hbL
                    have hT5 := HI.out.1.keptAt hg5 (by have := Hrgi.out; omega) (by have := Hrgi.out; omega) ho5 hc5
                    have hlook := hT5.ct.look hfb
                    have hst := holdN_step (E := E) (riseI_nodup H.out.nodes) HaN.out HaO.out x
                    rw [if_pos (edB_iff.2 hRx)] at hst
                    have hml := hold_le N E (O ++ [a]) x
                    obtain ⟨m2, hm2⟩ : ∃ m2, holdN N E (O ++ [a]) x = m2 := ⟨_, rfl⟩
                    rw [hm2] at hst hml
                    have he0 : hfIn N E O done x = ((m2 + 1 : Nat) : Int) := by unfold hfIn; rw [if_neg hbn, hst]
                    rw [he0] at hlook
                    have hk3 : k3 ≤ 600000 := by
                      have h1 := HI.out.2.2.2
                      have h2 := HO.out.2.2.2
                      have h3 : 500 * O.length ≤ 500 * 500 := Nat.mul_le_mul_left _ (by have := HN.out; have := Hn.out; omega)
                      omega
                    obtain ⟨W7, hup, hct7, hg7⟩ := hT5.ct.put (v := ((m2 : Nat) : Int)) hfb (by unfold maxLen; omega)
                    have hct7' : CntAt w.heap.size (k3 + 1) (hfIn N E O (done ++ [x])) W7 := hct7.congr fun z hz => by
                      unfold hfIn
                      by_cases e : z = x
                      · subst e
                        rw [if_pos rfl, if_pos (by simp), hst]
                        omega
                      · rw [if_neg e]
                        by_cases g : z ∈ done
                        · rw [if_pos g, if_pos (by simp [g])]
                        · rw [if_neg g, if_neg (by simp [g, e])]
                    obtain ⟨o7, ho7, hc7⟩ := hT5.ct.obj
                    have hlook2 := hct7.look hfb
                    rw [if_pos rfl] at hlook2
                    have HT7 : Hid (T3 w w.heap.size (k3 + 1) (hfIn N E O (done ++ [x])) (O ++ [a]) fr u8 v9 W7) := ⟨hct7', hT5.gro.andThen hg7 (fun j e => .inl (by cases e; exact Nat.le_refl _)), hT5.free.kept hg7 (.inr (hT5.free.no ho7 hc7)), hT5.ord.kept hg7 (.inr (hT5.ord.no ho7 hc7)), hT5.apart⟩
                    have Hr7 := Lib.hid (hrng.keep hg7 (by have := Hilt.out; simp; omega) (by have := Hrgi.out; simp; omega))
                    have Hlt5 : Hid (cnt5 < wr.rangeLeft ib rgi) := by show _ < _; rw [HI.out.2.2.1.rng.left_eq]; exact hlt5
                    have hnfr := HI.out.2.1.notIn (riseI_nodup H.out.nodes) HaN.out HaO.out hRx hbn
                    have hfrl : fr.length ≤ 500 := by
                      have h1 := len_le (riseI_nodup HI.out.2.1.rise) (m := N) fun z hz => by
                        rcases (HI.out.2.1.mem z).1 hz with g | g
                        · exact (mem_freeN.1 g.1).1
                        · exact (List.mem_filter.1 (HI.out.2.2.1.sub z g.1)).1
                      have := HN.out
                      omega
                    have hnb : n ≤ 500 := by rw [← Hn.out]; exact HN.out
                    rw [Hn.out] at hml
                    by_cases h0 : m2 = 0
                    · have Hput := Lib.hid (HI.out.2.1.put (b := x) (by rw [hm2, h0]))
                      subst h0
                      have hS := search_o x W7 HT7.out.free HI.out.2.1.rise (by omega)
                      rw [decide_eq_false hnfr] at hS
                      have HS := Lib.hid hS
                      have Hnfr := Lib.hid (putI_new hnfr)
                      have Hfrl := Lib.hid hfrl
                      have hz : ((0 : Nat) : Int) = 0 := rfl
                      rw [hz] at hup hlook2
                      simp only [Nat.zero_add] at hlook
                      clear hkx hlk hv hat hrg5 hlt5 hg5 hs5 hfb hbL hbn hrng ho5 hc5 hT5 hst hml hm2 he0 hct7 hg7 hct7' ho7 hc7 hfl hany e hS hnfr hRx
                      go_wp2_with (first
                        | (go_at_call 31; (with_reducible refine HS.out.mono ?_); rintro e w8 ⟨rfl, hb8⟩
                           have HT8 := Lib.hid (HT7.out.kept (grown_below hb8.out))
                           have Hr8 := Lib.hid (Hr7.out.keep (grown_below hb8.out) (by simp) (by simp))
                           have HI8 := Lib.hid (insert_o x (lessN x fr) w8.heap.size (w8.alloc (.cells #[iv x] 3)) (HT8.out.free.alloc _) (lessN_le _ _) (by have := Hfrl.out; omega) (by have := HT8.out.gro.size; simp; omega) (World.alloc_heap_new w8 _) (fun e => by have := (HT8.out.free.lt e).2; omega)))
                        | (go_at_call 32; (with_reducible refine HI8.out.mono ?_); rintro e w9 ⟨v8, rfl, K9⟩)
                        | go_in)
                      have hA := World.grownBy_alloc w8 (.cells #[iv x] 3) none
                      have hrow := HT8.out.free.alloc (.cells #[iv x] 3)
                      have H9 : Hid (T3 w w.heap.size (k3 + 1) (hfIn N E O (done ++ [x])) (O ++ [a]) (putI fr x) v8 v9 w9 ∧ KIn N E O a (done ++ [x]) (putI fr x) ∧ RngX Tryz.prog 3 il fit64 asIs ib rgi c (outsE N E a) (done ++ [x]) (DI a) left5 cnt5 w9 ∧ k3 + 1 = k2 + (done ++ [x]).length) := by
                        refine ⟨⟨(HT8.out.ct.kept hA (by simp)).kept K9.out.2.1 (fun e => by
                          obtain ⟨o, ho, hc⟩ := HT8.out.ct.obj
                          exact HT8.out.free.no ho hc e.symm), (HT8.out.gro.trans hA).andThen K9.out.2.1 (fun q e => .inl (HT8.out.free.lt e).1), ?_, (HT8.out.ord.alloc (.cells #[iv x] 3)).beside K9.out.2.1 HT8.out.apart, fun q h1 h2 => ?_⟩, Hput.out, rngX_off (Hr8.out.keep hA (by simp) (by simp)) hrow Hilt.out (Nat.le_refl _) K9.out.2.1, ?_⟩
                        · rw [Hnfr.out]
                          exact K9.out.1
                        · rcases K9.out.2.2 q h1 with h3 | h3
                          · exact HT8.out.apart q h3 h2
                          · have h4 := (HT8.out.ord.lt h2).2
                            simp at h3
                            omega
                        · rw [List.length_append, HI.out.2.2.2]; rfl
                      refine ⟨⟨_, done ++ [x], left5, cnt5, _, H9.out⟩, ?_⟩
                      rw [H9.out.2.2.1.rng.left_eq]
                      exact Hlt5.out
                    · have Hstay := Lib.hid (HI.out.2.1.stay (b := x) (by rw [hm2]; exact h0))
                      have e1 : (((m2 : Nat) : Int) == 0) = false := by simp; omega
                      clear hkx hlk hv hat hrg5 hlt5 hg5 hs5 hfb hbL hbn hrng ho5 hc5 hT5 hst hm2 he0 hct7 hg7 hct7' ho7 hc7 hfl hany e hnfr hRx
                      go_wp2
                      refine ⟨⟨_, done ++ [x], left5, cnt5, _, HT7.out, Hstay.out, Hr7.out, by rw [List.length_append, HI.out.2.2.2]; rfl⟩, ?_⟩
                      rw [Hr7.out.rng.left_eq]
                      exact Hlt5.out
              · have HFR : Hid (IntsO wd w.heap.size (.slice (some ⟨g8, off8 + 1, none⟩) m (c8 - 1)) l) := by
                  have h1 := Htl.out
                  rw [if_neg hc1] at h1
                  exact h1
                have HT0 : Hid (IntsO wd w.heap.size (.slice (some ⟨g8, off8 + 1, none⟩) m (c8 - 1)) l) := HFR
                have hap0 : ∀ q, (Value.slice p9 O.length c9).ownBlock = some q → (Value.slice (some ⟨g8, off8 + 1, none⟩) m (c8 - 1)).ownBlock ≠ some q := fun q h1 h2 => Hap8.out q (by simpa [Value.ownBlock] using h2) h1
                have Hap0 := Lib.hid hap0
                clear hap0 HFR
                go_wp2_with (first
                  | (at_builtin; refine wpList_append_o rfl _ _ rfl w.heap.size (.slice p9 O.length c9) O a rfl (HO.out.1.ord.alloc _) ⟨wd.heap.size, 0, none⟩ 1 rfl (news_new wd #[iv a] 3) hOb (by have := HO.out.1.gro.size; simp; omega) ?_
                     intro v9 w6 hf6 hg6 hl6
                     have hA := World.grownBy_alloc wd (.cells #[iv a] 3) none
                     have hgro6 : w.grownBy w6 none := (HO.out.1.gro.trans hA).andThen hg6 (fun q e => .inl (HO.out.1.ord.lt e).1)
                     have hT6 : T3 w w.heap.size k2 (fun b => (holdN N E O b : Int)) (O ++ [a]) l (.slice (some ⟨g8, off8 + 1, none⟩) m (c8 - 1)) v9 w6 := by
                       refine ⟨(HO.out.1.ct.kept hA (by simp)).kept hg6 (fun e => by
                         obtain ⟨o, ho, hc⟩ := HO.out.1.ct.obj
                         exact HO.out.1.ord.no ho hc e.symm), hgro6, (HT0.out.alloc (.cells #[iv a] 3)).beside hg6 Hap0.out, hf6, fun q h1 h2 => ?_⟩
                       rcases hl6 q h2 with h3 | h3
                       · exact Hap0.out q h3 h1
                       · have h4 := (HT0.out.lt h1).2
                         simp at h3
                         omega
                     have hG6 := H.out.kept hgro6 (fun k e => by cases e)
                     have c0 := hG6.box.cell
                     have l1 := look_as hG6.dom Tryz.underlying71 (zero65 w6) Hft.out ((hG6.atO a Hft.out).trans (by rw [if_pos HaN.out]))
                     have hdm := hG6.domI a HaN.out
                     rw [Hib.out] at l1 hdm
                     have HT6 := Lib.hid hT6
                     have Hdm := Lib.hid hdm
                     clear hf6 hg6 hl6 hA hgro6 hT6 hG6 hdm)
                  | (at_range; refine wpList_range_own _ rfl _ 74 rfl 3 23 K3 Tryz.underlying74 asIs ib c (DI a) rfl Hdm.out.own ?_; intro w7 hrg7 hg7 hs7)
                  | go_in)
                obtain ⟨rgi, hri⟩ : ∃ rg, w6.heap.size = rg := ⟨_, rfl⟩
                have Hrgi : Hid (w.heap.size < rgi) := by show _ < _; rw [← hri]; exact HT6.out.ct.lt
                have H7 : Hid (T3 w w.heap.size k2 (hfIn N E O []) (O ++ [a]) l (.slice (some ⟨g8, off8 + 1, none⟩) m (c8 - 1)) v9 w7 ∧ KIn N E O a [] l ∧ RngX Tryz.prog 3 il fit64 asIs ib rgi c (outsE N E a) [] (DI a) (has (DI a)) (Maps.size (DI a)) w7 ∧ k2 = k2 + ([] : List Int).length) := by
                  refine ⟨?_, KIn.start H.out.nodes Hfr.out, ?_, rfl⟩
                  · have h1 := HT6.out.kept hg7
                    exact ⟨h1.ct.congr fun b hb => by unfold hfIn; rw [if_neg (by simp)], h1.gro, h1.free, h1.ord, h1.apart⟩
                  · rw [← hri]
                    exact rngX_start Hdm.out hrg7
                rw [hri] at *
                clear hrg7 hg7 hs7 Hdm HT6 hri HT0 Hap0 c0 l1
                try go_frame
                go_loopw [8] (fun v8 wr => ∃ k3 done left cnt fr, Hid (T3 w w.heap.size k3 (hfIn N E O done) (O ++ [a]) fr v8 v9 wr ∧ KIn N E O a done fr ∧ RngX Tryz.prog 3 il fit64 asIs ib rgi c (outsE N E a) done (DI a) left cnt wr ∧ k3 = k2 + done.length)) (fun _ wr => wr.rangeLeft ib rgi)
                case atStart => exact ⟨k2, [], _, _, l, H7.out⟩
                case round =>
                  obtain ⟨k3, done, left, cnt, fr, HI⟩ := hrel
                  have hfl : ∀ x ∈ outsE N E a, fit64 x := fun x hx => Hfit.out x (List.mem_filter.1 hx).1
                  have hany : ∀ (v : Value) (y : DV × List MemPlace), asIs v = some y → ∃ c : Value, v = c := fun v _ _ => ⟨v, rfl⟩
                  have hdl : done.length ≤ 500 := by
                    have h1 := len_le HI.out.2.2.1.once (m := N) fun x hx => (List.mem_filter.1 (HI.out.2.2.1.sub x hx)).1
                    have := HN.out
                    omega
                  have hOl2 : O.length + 1 ≤ n := by
                    have h1 := len_le (HO.out.2.1.next H.out.ends Hafr.out).once (HO.out.2.1.next H.out.ends Hafr.out).sub
                    rw [List.length_append, List.length_singleton, Hn.out] at h1
                    exact h1
                  go_wp2_with (first | (at_next; refine wpList_next_ranges _ rfl _ rfl 3 K3 asIs (Value.int .i64) (fun c : Value => c) invI hany ib rgi c (DI a) left cnt rfl HI.out.2.2.1.rng ?_ ?_) | go_in)
                  · intro hc0 hl0
                    have hall := rngX_all HI.out.2.2.1 hfl hl0
                    have hall2 : ∀ n, n ∈ done ↔ EdR E a n := fun z => (hall z).trans (mem_outsE H.out.ends)
                    have hfin := HI.out.2.1.fin H.out.nodes H.out.ends HO.out.2.1 Hafr.out hall2
                    have hT := HI.out.1
                    rw [hfin] at hT
                    have HT8 : Hid (T3 w w.heap.size k3 (fun b => (holdN N E (O ++ [a]) b : Int)) (O ++ [a]) (freeN N E (O ++ [a])) u8 v9 wr) := ⟨hT.ct.congr fun b hb => (hfIn_done (riseI_nodup H.out.nodes) HaN.out HaO.out hall2 b).symm, hT.gro, hT.free, hT.ord, hT.apart⟩
                    obtain ⟨q9, d9, hv9, -, -⟩ := HI.out.1.ord.form
                    have Hv9 := Lib.hid hv9
                    clear hc0 hl0 hall hfl hany hall2 hfin hT hv9
                    go_wp2
                    refine ⟨⟨k3, O ++ [a], HT8.out, HO.out.2.1.next H.out.ends Hafr.out, ?_, ?_⟩, ?_⟩
                    · rw [← HO.out.2.2.1]
                      exact (topo_next HO.out.2.1 Hfr.out).symm
                    · have h1 := HI.out.2.2.2
                      have h2 := HO.out.2.2.2
                      rw [List.length_append, List.length_singleton]
                      omega
                    · rw [Hv9.out]
                      simp only [lenOf, List.length_append, List.length_singleton]
                      omega
                  · intro x cv kl y1 y2 w5 cnt5 hkx hlk hv hat hrg5 hlt5 hg5 hs5 hen
                    obtain ⟨b, left5, e, rfl, hfb, hbL, hbn, hrng⟩ := rngX_more enc3 HI.out.2.2.1 hfl hkx hlk hrg5
                    obtain rfl : x = b := by simpa using e
                    obtain ⟨-, ⟨o5, ho5, hc5⟩⟩ := rngX_objs HI.out.2.2.1
                    have hRx : EdR E a x := (mem_outsE H.out.ends).1 hbL
                    have hT5 := HI.out.1.keptAt hg5 (by have := Hrgi.out; omega) (by have := Hrgi.out; omega) ho5 hc5
                    have hlook := hT5.ct.look hfb
                    have hst := holdN_step (E := E) (riseI_nodup H.out.nodes) HaN.out HaO.out x
                    rw [if_pos (edB_iff.2 hRx)] at hst
                    have hml := hold_le N E (O ++ [a]) x
                    obtain ⟨m2, hm2⟩ : ∃ m2, holdN N E (O ++ [a]) x = m2 := ⟨_, rfl⟩
                    rw [hm2] at hst hml
                    have he0 : hfIn N E O done x = ((m2 + 1 : Nat) : Int) := by unfold hfIn; rw [if_neg hbn, hst]
                    rw [he0] at hlook
                    have hk3 : k3 ≤ 600000 := by
                      have h1 := HI.out.2.2.2
                      have h2 := HO.out.2.2.2
                      have h3 : 500 * O.length ≤ 500 * 500 := Nat.mul_le_mul_left _ (by have := HN.out; have := Hn.out; omega)
                      omega
                    obtain ⟨W7, hup, hct7, hg7⟩ := hT5.ct.put (v := ((m2 : Nat) : Int)) hfb (by unfold maxLen; omega)
                    have hct7' : CntAt w.heap.size (k3 + 1) (hfIn N E O (done ++ [x])) W7 := hct7.congr fun z hz => by
                      unfold hfIn
                      by_cases e : z = x
                      · subst e
                        rw [if_pos rfl, if_pos (by simp), hst]
                        omega
                      · rw [if_neg e]
                        by_cases g : z ∈ done
                        · rw [if_pos g, if_pos (by simp [g])]
                        · rw [if_neg g, if_neg (by simp [g, e])]
                    obtain ⟨o7, ho7, hc7⟩ := hT5.ct.obj
                    have hlook2 := hct7.look hfb
                    rw [if_pos rfl] at hlook2
                    have HT7 : Hid (T3 w w.heap.size (k3 + 1) (hfIn N E O (done ++ [x])) (O ++ [a]) fr u8 v9 W7) := ⟨hct7', hT5.gro.andThen hg7 (fun j e => .inl (by cases e; exact Nat.le_refl _)), hT5.free.kept hg7 (.inr (hT5.free.no ho7 hc7)), hT5.ord.kept hg7 (.inr (hT5.ord.no ho7 hc7)), hT5.apart⟩
                    have Hr7 := Lib.hid (hrng.keep hg7 (by have := Hilt.out; simp; omega) (by have := Hrgi.out; simp; omega))
                    have Hlt5 : Hid (cnt5 < wr.rangeLeft ib rgi) := by show _ < _; rw [HI.out.2.2.1.rng.left_eq]; exact hlt5
                    have hnfr := HI.out.2.1.notIn (riseI_nodup H.out.nodes) HaN.out HaO.out hRx hbn
                    have hfrl : fr.length ≤ 500 := by
                      have h1 := len_le (riseI_nodup HI.out.2.1.rise) (m := N) fun z hz => by
                        rcases (HI.out.2.1.mem z).1 hz with g | g
                        · exact (mem_freeN.1 g.1).1
                        · exact (List.mem_filter.1 (HI.out.2.2.1.sub z g.1)).1
                      have := HN.out
                      omega
                    have hnb : n ≤ 500 := by rw [← Hn.out]; exact HN.out
                    rw [Hn.out] at hml
                    by_cases h0 : m2 = 0
                    · have Hput := Lib.hid (HI.out.2.1.put (b := x) (by rw [hm2, h0]))
                      subst h0
                      have hS := search_o x W7 HT7.out.free HI.out.2.1.rise (by omega)
                      rw [decide_eq_false hnfr] at hS
                      have HS := Lib.hid hS
                      have Hnfr := Lib.hid (putI_new hnfr)
                      have Hfrl := Lib.hid hfrl
                      have hz : ((0 : Nat) : Int) = 0 := rfl
                      rw [hz] at hup hlook2
                      simp only [Nat.zero_add] at hlook
                      clear hkx hlk hv hat hrg5 hlt5 hg5 hs5 hfb hbL hbn hrng ho5 hc5 hT5 hst hml hm2 he0 hct7 hg7 hct7' ho7 hc7 hfl hany e hS hnfr hRx
                      go_wp2_with (first
                        | (go_at_call 31; (with_reducible refine HS.out.mono ?_); rintro e w8 ⟨rfl, hb8⟩
                           have HT8 := Lib.hid (HT7.out.kept (grown_below hb8.out))
                           have Hr8 := Lib.hid (Hr7.out.keep (grown_below hb8.out) (by simp) (by simp))
                           have HI8 := Lib.hid (insert_o x (lessN x fr) w8.heap.size (w8.alloc (.cells #[iv x] 3)) (HT8.out.free.alloc _) (lessN_le _ _) (by have := Hfrl.out; omega) (by have := HT8.out.gro.size; simp; omega) (World.alloc_heap_new w8 _) (fun e => by have := (HT8.out.free.lt e).2; omega)))
                        | (go_at_call 32; (with_reducible refine HI8.out.mono ?_); rintro e w9 ⟨v8, rfl, K9⟩)
                        | go_in)
                      have hA := World.grownBy_alloc w8 (.cells #[iv x] 3) none
                      have hrow := HT8.out.free.alloc (.cells #[iv x] 3)
                      have H9 : Hid (T3 w w.heap.size (k3 + 1) (hfIn N E O (done ++ [x])) (O ++ [a]) (putI fr x) v8 v9 w9 ∧ KIn N E O a (done ++ [x]) (putI fr x) ∧ RngX Tryz.prog 3 il fit64 asIs ib rgi c (outsE N E a) (done ++ [x]) (DI a) left5 cnt5 w9 ∧ k3 + 1 = k2 + (done ++ [x]).length) := by
                        refine ⟨⟨(HT8.out.ct.kept hA (by simp)).kept K9.out.2.1 (fun e => by
                          obtain ⟨o, ho, hc⟩ := HT8.out.ct.obj
                          exact HT8.out.free.no ho hc e.symm), (HT8.out.gro.trans hA).andThen K9.out.2.1 (fun q e => .inl (HT8.out.free.lt e).1), ?_, (HT8.out.ord.alloc (.cells #[iv x] 3)).beside K9.out.2.1 HT8.out.apart, fun q h1 h2 => ?_⟩, Hput.out, rngX_off (Hr8.out.keep hA (by simp) (by simp)) hrow Hilt.out (Nat.le_refl _) K9.out.2.1, ?_⟩
                        · rw [Hnfr.out]
                          exact K9.out.1
                        · rcases K9.out.2.2 q h1 with h3 | h3
                          · exact HT8.out.apart q h3 h2
                          · have h4 := (HT8.out.ord.lt h2).2
                            simp at h3
                            omega
                        · rw [List.length_append, HI.out.2.2.2]; rfl
                      refine ⟨⟨_, done ++ [x], left5, cnt5, _, H9.out⟩, ?_⟩
                      rw [H9.out.2.2.1.rng.left_eq]
                      exact Hlt5.out
                    · have Hstay := Lib.hid (HI.out.2.1.stay (b := x) (by rw [hm2]; exact h0))
                      have e1 : (((m2 : Nat) : Int) == 0) = false := by simp; omega
                      clear hkx hlk hv hat hrg5 hlt5 hg5 hs5 hfb hbL hbn hrng ho5 hc5 hT5 hst hm2 he0 hct7 hg7 hct7' ho7 hc7 hfl hany e hnfr hRx
                      go_wp2
                      refine ⟨⟨_, done ++ [x], left5, cnt5, _, HT7.out, Hstay.out, Hr7.out, by rw [List.length_append, HI.out.2.2.2]; rfl⟩, ?_⟩
                      rw [Hr7.out.rng.left_eq]
                      exact Hlt5.out
    · intro a cv kl y1 y2 w3 cnt3 hkx hlk hv hat hrg3 hlt3 hg3 hs3 hen
      obtain ⟨b, left3, e, rfl, hfb, hbN, hbn, hrng⟩ := rngX_more enc3 HR.out.rngo Hfit.out hkx hlk hrg3
      obtain rfl : a = b := by simpa using e
      obtain ⟨-, ⟨o3, ho3, hc3⟩⟩ := rngX_objs HR.out.rngo
      have hct := HR.out.ct.kept hg3 (by have := Hrgo.out; simp; omega)
      have hgro := HR.out.gro.andThen hg3 (fun j e => .inl (by cases e; have := Hrgo.out; omega))
      have hcv : cv = .map (some (F a)) := by
        have h1 := hat (.held (.map none))
        rw [H.out.atO a hfb, if_pos hbN] at h1
        have h2 : (DataW.held cv : DV) = y1 := (Prod.mk.inj (Option.some.inj hv)).1
        rw [← h2] at h1
        injection h1 with h1
        exact h1.symm
      subst hcv
      obtain ⟨ib, hib⟩ : ∃ ib, F a = ib := ⟨_, rfl⟩
      have hdi := ((H.out.kept HR.out.gro (fun k e => by cases e)).domI a hbN).kept hg3 (fun e => by
        have h1 := (H.out.domI a hbN).own.lt
        have h2 := Hrgo.out
        have h3 : F a = rgo := by simpa using e
        omega)
      have Hilt : Hid (ib < w.heap.size) := by show _ < _; rw [← hib]; exact (H.out.domI a hbN).own.lt
      rw [hib] at hdi hen ⊢
      have Hdi := Lib.hid hdi
      have Hct := Lib.hid hct
      have Hgro := Lib.hid hgro
      have Hrng := Lib.hid hrng
      have HbN := Lib.hid hbN
      have Hbn := Lib.hid hbn
      have Hlt3 : Hid (cnt3 < wa.rangeLeft ob rgo) := by show _ < _; rw [HR.out.rngo.rng.left_eq]; exact hlt3
      clear hkx hlk hv hat hrg3 hlt3 hg3 hs3 hfb hbN hbn hrng ho3 hc3 hct hgro hdi hib hmaps e
      go_wp2_with (first | (at_range; refine wpList_range_own _ rfl _ 74 rfl 3 23 K3 Tryz.underlying74 asIs ib c (DI a) rfl Hdi.out.own ?_; intro w4 hrg4 hg4 hs4) | go_in)
      obtain ⟨rgi, hri⟩ : ∃ rg, w3.heap.size = rg := ⟨_, rfl⟩
      have Hrgi : Hid (rgo < rgi) := by
        show _ < _
        rw [← hri]
        obtain ⟨-, ⟨o, ho, -⟩⟩ := rngX_objs Hrng.out
        exact (Array.getElem?_eq_some_iff.1 ho).1
      have H4 : Hid (T1In w w.heap.size ob rgo ib rgi c k N (doneO ++ [a]) DO left3 cnt3 a dn (outsE N E a) [] (DI a) (has (DI a)) (Maps.size (DI a)) w4) := by
        refine ⟨by rw [List.map_nil, List.append_nil]; exact Hct.out.kept hg4 (by simp), Hgro.out.trans hg4, Hrng.out.keep hg4 (by simp) (by simp), ?_, HR.out.len⟩
        rw [← hri]
        exact rngX_start Hdi.out hrg4
      rw [hri] at *
      clear hrg4 hg4 hs4 Hdi Hct Hgro Hrng hri
      go_frame
      go_loopw [7] (fun _ wr => ∃ k done left cnt, Hid (T1In w w.heap.size ob rgo ib rgi c k N (doneO ++ [a]) DO left3 cnt3 a dn (outsE N E a) done (DI a) left cnt wr)) (fun _ wr => wr.rangeLeft ib rgi)
      case atStart => exact ⟨k, [], _, _, H4⟩
      case round =>
        obtain ⟨k2, done, left, cnt, HI⟩ := hrel
        have hfl : ∀ x ∈ outsE N E a, fit64 x := fun x hx => Hfit.out x (List.mem_filter.1 hx).1
        have hany : ∀ (v : Value) (y : DV × List MemPlace), asIs v = some y → ∃ c : Value, v = c := fun v _ _ => ⟨v, rfl⟩
        go_wp2_with (first | (at_next; refine wpList_next_ranges _ rfl _ rfl 3 K3 asIs (Value.int .i64) (fun c : Value => c) invI hany ib rgi c (DI a) left cnt rfl HI.out.rngi.rng ?_ ?_) | go_in)
        · intro hc0 hl0
          have hall := rngX_all HI.out.rngi hfl hl0
          have HO : Hid (T1Out w w.heap.size ob rgo c k2 N E (doneO ++ [a]) DO left3 cnt3 (dn ++ done.map fun b => (a, b)) wr) := by
            refine ⟨HI.out.ct, HI.out.gro, HI.out.rngo, ?_, fun p => ?_, by rw [HI.out.len, List.length_append, List.length_map]⟩
            · rw [List.nodup_append]
              refine ⟨HR.out.once, nodup_pairs a HI.out.rngi.once, fun p hp q hq e => ?_⟩
              subst e
              obtain ⟨z, hz, rfl⟩ := List.mem_map.1 hq
              exact Hbn.out ((HR.out.mem _).1 hp).1
            · rw [List.mem_append, HR.out.mem p, List.mem_append, List.mem_singleton]
              constructor
              · rintro (h1 | h1)
                · exact ⟨.inl h1.1, h1.2⟩
                · obtain ⟨z, hz, rfl⟩ := List.mem_map.1 h1
                  exact ⟨.inr rfl, (mem_outsE H.out.ends).1 ((hall z).1 hz)⟩
              · rintro ⟨h1 | h1, h2⟩
                · exact .inl ⟨h1, h2⟩
                · right
                  obtain ⟨p1, p2⟩ := p
                  simp only at h1 h2
                  subst h1
                  exact List.mem_map.2 ⟨p2, (hall p2).2 ((mem_outsE H.out.ends).2 h2), rfl⟩
          clear hc0 hl0 hall hfl hany
          go_wp2
          refine ⟨⟨k2, _, _, _, _, HO.out⟩, ?_⟩
          rw [HO.out.rngo.rng.left_eq]
          exact Hlt3.out
        · intro x cv kl y1 y2 w5 cnt5 hkx hlk hv hat hrg5 hlt5 hg5 hs5 hen
          obtain ⟨b, left5, e, rfl, hfb, hbL, hbn, hrng⟩ := rngX_more enc3 HI.out.rngi hfl hkx hlk hrg5
          obtain rfl : x = b := by simpa using e
          have hne1 := Hrgo.out
          have hne2 := Hrgi.out
          have hct := HI.out.ct.kept hg5 (by simp; omega)
          have hgro := HI.out.gro.andThen hg5 (fun j e => .inl (by cases e; omega))
          have hro := HI.out.rngo.keep hg5 (by have := Hob.out; simp; omega) (by simp; omega)
          have hlook := hct.look hfb
          have Hlt5 : Hid (cnt5 < wr.rangeLeft ib rgi) := by show _ < _; rw [HI.out.rngi.rng.left_eq]; exact hlt5
          have hk2 : k2 ≤ 250000 := by
            have h1 := nodup_pairs a HI.out.rngi.once
            have h2 : (dn ++ done.map fun b => (a, b)).Nodup := by
              rw [List.nodup_append]
              refine ⟨HR.out.once, h1, fun p hp q hq e => ?_⟩
              subst e
              obtain ⟨z, hz, rfl⟩ := List.mem_map.1 hq
              exact Hbn.out ((HR.out.mem _).1 hp).1
            have h3 := pairs_len h2 (N := N) (fun p hp => by
              rcases List.mem_append.1 hp with h4 | h4
              · have := (HR.out.mem p).1 h4
                exact ⟨(H.out.ends _ _ this.2).1, (H.out.ends _ _ this.2).2⟩
              · obtain ⟨z, hz, rfl⟩ := List.mem_map.1 h4
                exact ⟨HbN.out, (List.mem_filter.1 (HI.out.rngi.sub z hz)).1⟩) HN.out
            rw [List.length_append, List.length_map] at h3
            have := HI.out.len
            omega
          obtain ⟨m, hm⟩ : ∃ m, (predsP (dn ++ done.map fun b => (a, b)) x).length = m := ⟨_, rfl⟩
          have hm2 : m ≤ 250000 := by
            have h1 := predsP_len (dn ++ done.map fun b => (a, b)) x
            rw [List.length_append, List.length_map] at h1
            have := HI.out.len
            omega
          rw [hm] at hlook
          obtain ⟨W7, hup, hct7, hg7⟩ := hct.put (v := ((m : Nat) : Int) + 1) hfb (by unfold maxLen; omega)
          have H7 : Hid (T1In w w.heap.size ob rgo ib rgi c (k2 + 1) N (doneO ++ [a]) DO left3 cnt3 a dn (outsE N E a) (done ++ [x]) (DI a) left5 cnt5 W7) := by
            refine ⟨?_, hgro.andThen hg7 (fun j e => .inl (by cases e; exact Nat.le_refl _)), hro.keep hg7 (by have := Hob.out; simp; omega) (by simp; omega), hrng.keep hg7 (by have := Hilt.out; simp; omega) (by simp; omega), by rw [HI.out.len, List.length_append]; rfl⟩
            refine hct7.congr fun z hz => ?_
            rw [List.map_append, ← List.append_assoc]
            show ((predsP (dn ++ done.map (fun b => (a, b)) ++ [(a, x)]) z).length : Int) = _
            rw [predsP_snoc]
            by_cases e : z = x
            · subst e
              simp only [if_true]
              rw [List.length_append, hm]
              rfl
            · simp only [e, if_false]
          clear hkx hlk hv hat hrg5 hlt5 hg5 hs5 hfb hbL hbn hrng hct hgro hro hfl hany e hne1 hne2 hk2 hm hct7 hg7
          go_wp2
          refine ⟨⟨_, done ++ [x], left5, cnt5, H7.out⟩, ?_⟩
          rw [H7.out.rngi.rng.left_eq]
          exact Hlt5.out
end Go.Proofs.YthgkloapnihpaaaGreat
