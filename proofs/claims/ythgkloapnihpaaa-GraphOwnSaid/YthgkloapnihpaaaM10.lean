/- Helpers, joined: Kh, Ki, Kj, Lc, Ld, Le, Lf. -/
import Derived.Test.YthgkloapnihpaaaM5
import Derived.Test.YthgkloapnihpaaaM9

/- Graphs: Parts, by a contract: the walk. -/
namespace Go.Proofs.Ythgkloapnihpaaa
open Go.RowKit Go.Maps Go.WideMaps Go.WideElems Go.ChangeShapes Go.WideShapes
attribute [local go_sem] Oper.semAt_some

theorem revQ_split {n : Nat} {pre : List (Fin n)} {x : Fin n} (hp : pre.length < n) (h : pre ++ [x] = revQ n (pre ++ [x]).length) : pre = revQ n pre.length ∧ x.val = n - 1 - pre.length := by
  rw [List.length_append, List.length_singleton, revQ_next hp] at h
  obtain ⟨h1, h2⟩ := List.append_inj' h rfl
  refine ⟨h1, ?_⟩
  have := List.cons.inj h2
  rw [this.1]
theorem PtsAt.low {B B' : Nat} {v : Value} {ps : Pts} {W : World} (h : PtsAt B v ps W) (hB : B' ≤ B) : PtsAt B' v ps W :=
  ⟨⟨h.row.1, h.row.2.imp id fun ⟨g, cap, cur, e, hb, r⟩ => ⟨g, cap, cur, e, Nat.le_trans hB hb, r⟩⟩, fun x hx => (h.each x hx).low hB⟩
theorem elem23 : (Try.prog.info? 23).map (fun i => (i.zero, i.size, i.bytes)) = some (some (.slice none 0 0), 1, 24) := by kernel_rfl
/-- Between the rounds. -/
structure PtInv (V W0 : World) (n₁ mb b5 : Nat) (R : Int → Int → Prop) (N O : List Int) (pre : List (Fin O.length)) (W : World) : Prop where
  env : Below V.heap.size V W
  kp : KpB n₁ mb b5 W0 W
  ex : ∃ S D v ps, SeenAt mb S.length S D W ∧ S.Nodup ∧ (∀ x ∈ S, x ∈ N) ∧ Boxed W b5 46 v ∧ PtsAt n₁ v ps W ∧ ps.length ≤ pre.length ∧ (∀ x ∈ ps, x.2 ≠ []) ∧ (pre = revQ O.length pre.length → GrpOk R N O S ps pre.length)
theorem box_any (w : World) (t : TypeId) (v : Value) : ∃ W, w.alloc (.cells #[v] t) = W ∧ Hid (Below w.heap.size w W) ∧ Hid (w.heap.size < W.heap.size) ∧ Hid (Boxed W w.heap.size t v) := ⟨_, rfl, (Below.refl _ _).alloc (Nat.le_refl _) _, by show _ < _; simp, Boxed.new w t v⟩
theorem boxed_low {W W' : World} {B : Nat} {t : TypeId} {v : Value} (h : Boxed W B t v) (hb : Below W.heap.size W W') : Boxed W' B t v := (hb.block B h.lt).trans h
theorem res30 (tmps : Array Value) (W : World) (v : Value) (h2 : tmps.getD 2 undef = v) : (results Try.f30 tmps).run Try.prog W = .ok v W := by
  have h2' : tmps[2]?.getD undef = v := by simpa using h2
  simp [results, Try.results30, h2']
theorem leave30 {R : Ending → World → Prop} {a : Act} {w : World} (D : Nat) (v : Value) (hd : a.defers = [{ target := .collected D, args := #[] }]) (hv : a.tmps.getD 2 undef = v) (hK : w.heap[D]? = some (.deferred (some [])))
    (hR : R (.returned v) (w.putObj D (.deferred none))) : bodyPostM Fence.wide 10 Try.prog Try.f30 R .ret a w := by
  show LeavesInM Fence.wide 10 Try.prog Try.f30 a.tmps R a.defers .returning w
  rw [hd]
  exact ⟨by simp, .inl ⟨_, _, rfl, run_takeDeferred hK, _, res30 _ _ v hv, hR⟩⟩
set_option maxHeartbeats 16000000 in
set_option maxRecDepth 100000 in
theorem parts_p {Z : Nat → Prop} {B g c : Nat} {N : List Int} {E : List Ed} (hc : c ≤ 100000) (hN : N.length ≤ 500) (w : World) (h : GrAt Z B g c N E w) :
    Calls Try.prog 30 #[.pointer (some ⟨g, 0, none⟩)] w fun e w' => ∃ v ps, e = .returned v ∧ Hid (PtsAt w.heap.size v ps w' ∧ ps.map (·.2) = partsOf (EdR E) N ∧ Below w.heap.size w w') := by
  obtain ⟨i0, hi, hz0, hz1, hz2⟩ := info_parts elem23
  have hmm := @run_makeMap Try.prog
  have hends : EndsIn N E := by obtain ⟨ob, DO, F, DI, f, h, hZ⟩ := h; exact h.ends
  have hnodes : RiseI N := by obtain ⟨ob, DO, F, DI, f, h, hZ⟩ := h; exact h.nodes
  have Hends := Lib.hid hends
  have Hnodes := Lib.hid hnodes
  have Hfit : Hid (∀ a ∈ N, fit64 a) := by obtain ⟨ob, DO, F, DI, f, h, hZ⟩ := h; exact fun a ha => h.dom.fit a ha
  have HN := Lib.hid hN
  have HT := Lib.hid (turned_any hN w h)
  have HL : Hid (∀ W, Below w.heap.size w W → Calls Try.prog 58 #[.pointer (some ⟨g, 0, none⟩)] W fun e w' => ∃ v O, e = .returned v ∧ Hid (IntsO w' W.heap.size v O ∧ DfsOk (EdR E) O [] ∧ (∀ x, x ∈ O ↔ x ∈ N) ∧ Below W.heap.size W w')) := fun W hb => left_any hc hN W (h.below hb)
  clear h hc hN hends hnodes
  refine callsIn_wide.1 (callsIn_of_wp_marks (F := Fence.wide) (n := 10) Try.func30 rfl trivial (wpIn_wide.2 ?_) rfl)
  simp only [Try.ntmps30, List.size_toArray, List.length_cons, List.length_nil, Nat.reduceAdd, Nat.reduceSub, Array.replicate_succ, Array.replicate_zero, List.push_toArray, List.append_toArray, List.nil_append, List.cons_append]
  go_wp2_with (first
    | (go_at_call 56; (with_reducible refine HT.out.mono ?_); rintro e V ⟨tb, rfl, KT⟩
       obtain ⟨W1, hW1, Hb1, hs1, Hx1⟩ := box_any V 65 (.map (some tb))
       obtain ⟨W2, hW2⟩ : ∃ W, W1.alloc (.map #[] 0) = W := ⟨_, rfl⟩
       have Hg2 : Hid (W1.grownBy W2 none ∧ W1.heap.size < W2.heap.size) := by
         show _ ∧ _
         rw [← hW2]
         exact ⟨World.grownBy_alloc W1 _ none, by simp⟩
       have HS2 : Hid (SeenAt W1.heap.size 0 [] (.map []) W2) := by rw [← hW2]; exact seen_made W1
       obtain ⟨W3, hW3, Hb3, hs3, Hx3⟩ := box_any W2 78 (.map (some W1.heap.size))
       obtain ⟨W4, hW4, Hb4, hs4, Hx4⟩ := box_any W3 46 (.slice none 0 0)
       have HV4 : Hid (Below V.heap.size V W4) := Hb1.out.trans ((grown_of_below Hg2.out.1).mono Hb1.out.size |>.trans ((Hb3.out.mono (Nat.le_trans Hb1.out.size Hg2.out.1.size)).trans (Hb4.out.mono (Nat.le_trans Hb1.out.size (Nat.le_trans Hg2.out.1.size Hb3.out.size)))))
       have HL4 := Lib.hid (HL.out W4 (KT.out.2.1.trans (HV4.out.mono KT.out.2.1.size))))
    | (go_at_call 58; (with_reducible refine HL4.out.mono ?_); rintro e w5 ⟨v13, O, rfl, K5⟩
       obtain ⟨p13, c13, rfl, -, -⟩ := K5.out.1.form
       obtain ⟨W6, hW6, Hb6, hs6, Hx6⟩ := box_any w5 23 (.slice p13 O.length c13)
       have HBk := Lib.hid (backward_any p13 O.length c13 w5)
       rw [hW6] at HBk)
    | (go_at_call 57; (with_reducible refine HBk.out.mono ?_); rintro e w7 ⟨rfl, rfl⟩)
    | go_in)
  have hO1 : V.heap.size < W1.heap.size ∧ W1.heap.size < W2.heap.size ∧ W2.heap.size < W3.heap.size ∧ W3.heap.size < W4.heap.size ∧ W4.heap.size ≤ w5.heap.size ∧ w5.heap.size < W6.heap.size := ⟨hs1.out, Hg2.out.2, hs3.out, hs4.out, K5.out.2.2.2.size, hs6.out⟩
  have HO1 := Lib.hid hO1
  have h46 : Below W4.heap.size W4 W6 := K5.out.2.2.2.trans (Hb6.out.mono K5.out.2.2.2.size)
  have h26 : W2.grownBy W6 none := by
    have h1 : Below W2.heap.size W2 W6 := Hb3.out.trans ((Hb4.out.mono Hb3.out.size).trans (h46.mono (Nat.le_trans Hb3.out.size Hb4.out.size)))
    exact grown_below h1
  have HX3 : Hid (Boxed W6 V.heap.size 65 (.map (some tb))) := (Hx1.out.kept Hg2.out.1 (by simp)).kept h26 (by simp)
  have HX4 : Hid (Boxed W6 W2.heap.size 78 (.map (some W1.heap.size))) := boxed_low (boxed_low Hx3.out Hb4.out) h46
  have HX5 : Hid (Boxed W6 W3.heap.size 46 (.slice none 0 0)) := boxed_low Hx4.out h46
  have HS6 : Hid (SeenAt W1.heap.size 0 [] (.map []) W6) := HS2.out.kept h26 (by simp)
  have HV6 : Hid (Below V.heap.size V W6) := HV4.out.trans (h46.mono HV4.out.size)
  have HOl : Hid (O.length ≤ 500) := by
    have h1 := K5.out.2.1.once
    have h2 := len_le (l := O) (m := N) (by simpa using h1) fun x hx => (K5.out.2.2.1 x).1 hx
    have := HN.out
    show _ ≤ _
    omega
  have hv6 : IntsO W6 W4.heap.size (.slice p13 O.length c13) O := K5.out.1.below Hb6.out
  have hvb : ∀ q, (Value.slice p13 O.length c13).ownBlock = some q → q < W6.heap.size ∧ q ≠ W1.heap.size ∧ q ≠ W3.heap.size := fun q e => by
    have h1 := K5.out.1.lt e
    omega
  have hseq := back_seq (10 - 1) (by decide) w5.heap.size W6.heap.size W1.heap.size W3.heap.size W4.heap.size (.slice p13 O.length c13) O HOl.out W6 (Nat.le_refl _) Hx6.out ⟨by omega, by omega, by omega⟩ hv6 hvb
  have H0 : Hid (PtInv V W6 W6.heap.size W1.heap.size W3.heap.size (EdR E) N O [] W6) := ⟨HV6.out, KpB.refl _ _ _ _, [], .map [], .slice none 0 0, [], HS6.out, by simp, by simp, HX5.out, pts_nil _ _, Nat.le_refl _, by simp, fun _ => GrpOk.zero _ _ _⟩
  clear hO1 h46 h26 hv6 hvb HS2 HS6 HX5 HV6
  refine (wpIn_wide (n := 10)).1 ?_
  apply wpIn_rangeFunc_ownG (F := Fence.wide) (n := 10) rfl (by decide) (gf := 73) (lb := #[.pointer (some ⟨w5.heap.size, 0, none⟩)]) rfl trivial (enters_of Try.func73 (by kernel_rfl) rfl)
    hseq (fun h k => h.trans k) (fun W l o o' hl ho hc hw => ⟨by simp [World.putObj], fun k hk _ _ => World.putObj_heap_other (by omega)⟩) (Below.refl _ _) (fun _ => rfl)
    (fun pre W => PtInv V W6 W6.heap.size W1.heap.size W3.heap.size (EdR E) N O pre W) (fun _ _ _ => False)
    (fun pre W W' row h hg hr => by
      have hlo := HO1.out
      obtain ⟨S, D, v, ps, h1, h2, h3, h4, h5, h6⟩ := h.ex
      have hrow : ∀ k, k < W6.heap.size → some k ≠ row := fun k hk e => by
        have := (hr k e.symm).1
        omega
      refine ⟨h.env.grown hg h.env.size (fun q e => by have := (hr q e).1; omega), ⟨Nat.le_trans h.kp.size hg.size, fun k hk a b => (hg.block k (Nat.lt_of_lt_of_le hk h.kp.size) (hrow k hk)).trans (h.kp.block k hk a b)⟩, S, D, v, ps, h1.kept hg (hrow _ (by omega)), h2, h3, h4.kept hg (hrow _ (by omega)), ?_, h6⟩
      refine h5.off (off_of_grown hg) (fun q e e2 => ?_) (fun x hx q e e2 => ?_)
      · obtain ⟨-, o, ho, hc⟩ := hr q e2.symm
        exact row_no h5.row ho hc e
      · obtain ⟨-, o, ho, hc⟩ := hr q e2.symm
        exact (h5.each x hx).no ho hc e)
    (fun _ _ _ _ _ h => h.elim) H0.out
    (fun x => { tmps := #[.pointer (some ⟨g, 0, none⟩), undef, .slice none 0 0, .pointer (some ⟨V.heap.size, 0, none⟩), .pointer (some ⟨W2.heap.size, 0, none⟩), .pointer (some ⟨W3.heap.size, 0, none⟩), undef, iv (O.getD x.val 0), undef, .pointer (some ⟨g, 0, none⟩), .map (some tb), .map (some W1.heap.size), .pointer (some ⟨g, 0, none⟩), .slice p13 O.length c13, .func (.func 73) #[] #[.pointer (some ⟨w5.heap.size, 0, none⟩)], .int .i64 ((x.val : Nat) : Int), iv (O.getD x.val 0), undef, undef, undef, undef, undef, undef, undef, undef, undef, undef, undef, undef, undef, undef, undef, undef], defers := [] })
  case hassign =>
    intro l x W K hK
    generalize O.getD x.val 0 = y at hK ⊢
    gi_wp2
    exact hK
  case hbody =>
    rintro l pre x W hI hlt
    have hlo := HO1.out
    obtain ⟨S, D, v, ps, hS, hSn, hSN, hbx, hps, hpl, hpne, hok⟩ := hI.ex
    have hkN : O.getD x.val 0 ∈ N := (K5.out.2.2.1 _).1 (getD_in x.isLt)
    have Hxv : Hid (∀ j, x.val = j → O.getD x.val 0 = O.getD j 0) := fun j e => by rw [e]
    obtain ⟨k, hk⟩ : ∃ k, O.getD x.val 0 = k := ⟨_, rfl⟩
    rw [hk] at hkN Hxv ⊢
    have hSl : S.length ≤ 500 := by have := len_le hSn hSN; have := HN.out; omega
    have hx3 : Boxed W V.heap.size 65 (.map (some tb)) := (hI.kp.block _ (by omega) (by omega) (by omega)).trans HX3.out
    have hx4 : Boxed W W2.heap.size 78 (.map (some W1.heap.size)) := (hI.kp.block _ (by omega) (by omega) (by omega)).trans HX4.out
    have y3 := hx3.cell
    have y4 := hx4.cell
    have HG := Lib.hid (gather_any V Hends.out KT.out.1 k hkN Hfit.out HN.out (by omega : S.length ≤ 1000) (Nat.le_of_lt hlo.1) W hI.env hS)
    have HI := Lib.hid hI
    have HSn := Lib.hid hSn
    have HSN := Lib.hid hSN
    have Hbx := Lib.hid hbx
    have Hps := Lib.hid hps
    have Hpl := Lib.hid hpl
    have Hpne := Lib.hid hpne
    have Hok := Lib.hid hok
    have HkN := Lib.hid hkN
    have hW : W6.heap.size ≤ W.heap.size := hI.kp.size
    have HW := Lib.hid hW
    clear hS hSn hSN hbx hps hpl hpne hok hI hkN hk hx3 hx4 hW
    gi_wp2_with (first
      | (refine ⟨trivial, ?_⟩; gi_at_call 59; refine (CallsIn.inRound l (callsIn_wide.2 HG.out)).mono ?_; rintro e w8 ⟨v8, F, D8, rfl, K8⟩
         obtain ⟨p8, c8, rfl, -, -⟩ := K8.out.2.1.form
         obtain ⟨f, hf⟩ : ∃ f, F.length = f := ⟨_, rfl⟩
         have Hf := Lib.hid hf
         have hF8 := K8.out.2.1
         rw [hf] at hF8 ⊢
         have HF8 := Lib.hid hF8
         have hfl : f ≤ 500 := by
           have h1 := len_le K8.out.2.2.2.1 K8.out.2.2.2.2.1
           have := HN.out
           omega
         have HS := Lib.hid (sort_o _ _ F w8 hF8 (by omega) K8.out.2.2.2.1)
         have hx8 := Hbx.out.kept K8.out.2.2.1 (by simp; omega)
         obtain ⟨o8, ho8, hc8⟩ := (show ∃ o, W.heap[W1.heap.size]? = some o ∧ o.isCells = false from by
           obtain ⟨S0, D0, -, -, h1, -⟩ := HI.out.ex
           exact h1.obj)
         have hp8 : PtsAt W6.heap.size v ps w8 := Hps.out.keptAt K8.out.2.2.1 ho8 hc8
         have Hx8 := Lib.hid hx8
         have Hp8 := Lib.hid hp8
         have hk8 : KpB W6.heap.size W1.heap.size W3.heap.size W w8 := ⟨K8.out.2.2.1.size, fun q h1 h2 _ => K8.out.2.2.1.block q (Nat.lt_of_lt_of_le h1 HW.out) (by simpa using h2)⟩
         have Hk8 := Lib.hid hk8
         have He8 : Hid (Below V.heap.size V w8) := HI.out.env.grown K8.out.2.2.1 HI.out.env.size (fun q e => by cases e; exact Nat.le_of_lt HO1.out.1)
         clear hF8 hx8 hp8 ho8 hc8 hk8 hf)
      | (refine ⟨trivial, ?_⟩; gi_at_call 48; refine (CallsIn.inRound l (callsIn_wide.2 HS.out)).mono ?_; rintro e w9 ⟨rfl, F', K9⟩
         have hx9 := Hx8.out.kept K9.out.2.2.2.2 (fun e => HF8.out.ne (show w8.heap[W3.heap.size]? = _ from Hx8.out) (fun cur e2 => by cases e2) e.symm)
         have hp9 : PtsAt W6.heap.size v ps w9 := Hp8.out.off (off_of_grown K9.out.2.2.2.2) (fun q e e2 => Hp8.out.apart HF8.out q e e2.symm) (fun y hy q e e2 => by
           have h1 := (HF8.out.lt e2.symm).1
           have h2 := ((Hps.out.each y hy).lt e).2
           omega)
         obtain ⟨pv, cv, hv⟩ := row_sl hp9.row
         rw [hv] at hx9 hp9
         have Hx9 := Lib.hid hx9
         have Hp9 := Lib.hid hp9
         have x9 := hx9.cell
         have hps500 : ps.length ≤ 500 := by have := Hpl.out; have := HOl.out; omega
         clear hx9 hp9)
      | (gi_at_builtin; refine wpListIn_append_own _ rfl _ _ 46 rfl W6.heap.size 23 i0 (.slice none 0 0) 1 24 Try.underlying46 hi hz0 hz1 hz2 rfl (by decide) (.slice pv ps.length cv) ps.length (ps.map (·.1)) rfl (Hp9.out.row.alloc _) ⟨w9.heap.size, 0, none⟩ 1 1 [.slice p8 f c8] rfl rfl (news_new w9 #[.slice p8 f c8] 23) (by intro u hu; simp at hu; subst hu; rfl) (by unfold maxLen; omega) (by omega) (by have := HW.out; have := K8.out.2.2.1.size; have := K9.out.2.2.2.2.size; simp; omega) ?_)
      | go_in)
    · intro v10 w10 hown hgrow hnil
      have hf0 : 0 < f := by assumption
      have hA := World.grownBy_alloc w9 (.cells #[.slice p8 f c8] 23) none
      have hx10 : Boxed w10 W3.heap.size 46 (.slice pv ps.length cv) := (Hx9.out.alloc _).kept hgrow (Boxed.not_row Hx9.out (by decide) Hp9.out.row)
      obtain ⟨p10, c10, rfl⟩ := row_sl hown
      have y10 := hx10.cell
      have z10 := hx10.frozen
      have Hown := Lib.hid hown
      have Hgrow := Lib.hid hgrow
      have Hx10 := Lib.hid hx10
      have Hf0 := Lib.hid hf0
      clear hown hgrow hnil hx10 hA hf0
      gi_wp2
      have hA := World.grownBy_alloc w9 (.cells #[.slice p8 f c8] 23) none
      have hap9 : ∀ {v2 : Value} {zs : List Int}, IntsO w9 W6.heap.size v2 zs → IntsO w10 W6.heap.size v2 zs := fun h2 => (h2.alloc (.cells #[.slice p8 f c8] 23)).beside Hgrow.out (fun q e => Hp9.out.apart h2 q e)
      have hset : ∀ q, q ≠ W3.heap.size → ∀ u, (w10.setCell ⟨W3.heap.size, 0, none⟩ u).heap[q]? = w10.heap[q]? := fun q hq u => Below.heap_setCell _ _ _ _ (fun e => hq e)
      have hgs : ∀ u, w10.grownBy (w10.setCell ⟨W3.heap.size, 0, none⟩ u) (some W3.heap.size) := fun u => ⟨rfl, rfl, rfl, by simp [World.setCell], fun q _ hq => hset q (fun e => hq (by rw [e])) u⟩
      have hf9 : IntsO w9 W6.heap.size (.slice p8 f c8) F' := K9.out.2.2.2.1.low HW.out
      have hne3 : ∀ {v2 : Value} {zs : List Int}, IntsO w10 W6.heap.size v2 zs → ∀ u, IntsO (w10.setCell ⟨W3.heap.size, 0, none⟩ u) W6.heap.size v2 zs := fun h2 u => h2.kept (hgs u) (.inr (h2.ne (show w10.heap[W3.heap.size]? = _ from Hx10.out) (fun cur e2 => by cases e2)))
      have hs9 : SeenAt W1.heap.size (S.length + F.length) (S ++ F) D8 w9 := K8.out.1.kept K9.out.2.2.2.2 (fun e => by
        obtain ⟨o, ho, hc⟩ := K8.out.1.obj
        exact HF8.out.no ho hc e.symm)
      have hs10 : SeenAt W1.heap.size (S.length + F.length) (S ++ F) D8 w10 := (hs9.kept hA (by simp)).kept Hgrow.out (fun e => by
        obtain ⟨o, ho, hc⟩ := hs9.obj
        exact row_no Hp9.out.row ho hc e.symm)
      have hlo := HO1.out
      have hW9 := K9.out.2.2.2.2
      have hrow9 : ∀ q, (Value.slice pv ps.length cv).ownBlock = some q → W6.heap.size ≤ q := fun q e => (Hp9.out.row.lt q e).1
      have hrow8 : ∀ q, (Value.slice p8 f c8).ownBlock = some q → W6.heap.size ≤ q := fun q e => Nat.le_trans HW.out (HF8.out.lt e).1
      have hblk : ∀ q, q < W.heap.size → q ≠ W1.heap.size → q ≠ W3.heap.size → some q ≠ (Value.slice pv ps.length cv).ownBlock → ∀ u, (w10.setCell ⟨W3.heap.size, 0, none⟩ u).heap[q]? = W.heap[q]? := fun q h1 h2 h3 h4 u => by
        have e8 := K8.out.2.2.1.size
        have e9 := hW9.size
        refine (hset q h3 u).trans ((Hgrow.out.block q (by simp; omega) h4).trans ((hA.block q (by omega) (by simp)).trans ((hW9.block q (by omega) (fun e => ?_)).trans (K8.out.2.2.1.block q h1 (by simpa using h2)))))
        have := (HF8.out.lt e.symm).1
        omega
      refine ⟨⟨?_, fun q o hq ho hc => ?_⟩, ⟨?_, fun q h1 h2 h3 => ?_⟩, ⟨?_, ?_, S ++ F, D8, .slice p10 (ps.length + 1) c10, ps ++ [(.slice p8 f c8, F')], ?_, ?_, ?_, ?_, ⟨?_, ?_⟩, ?_, ?_, ?_⟩⟩
      · have e8 := K8.out.2.2.1.size
        have e9 := hW9.size
        have e10 := Hgrow.out.size
        simp [World.setCell] at e10 ⊢
        omega
      · have hlt := (Array.getElem?_eq_some_iff.1 ho).1
        by_cases hr : some q = (Value.slice pv ps.length cv).ownBlock
        · exfalso
          obtain ⟨v0, h5⟩ : ∃ v0, PtsAt W6.heap.size v0 ps W ∧ v0 = .slice pv ps.length cv := ⟨_, Hps.out, by assumption⟩
          exact row_no h5.1.row ho hc (by rw [h5.2]; exact hr.symm)
        · exact (hblk q hlt (by omega) (by omega) hr _).trans ho
      · have e8 := K8.out.2.2.1.size
        have e9 := hW9.size
        have e10 := Hgrow.out.size
        simp [World.setCell] at e10 ⊢
        omega
      · exact hblk q (Nat.lt_of_lt_of_le h1 HW.out) h2 h3 (fun e => by have := hrow9 q e.symm; omega) _
      · refine ((He8.out.grown hW9 He8.out.size (fun q e => ?_)).grown hA (by have := He8.out.size; have := hW9.size; omega) (fun q e => by cases e)).grown Hgrow.out (by have := He8.out.size; have := hW9.size; have := hA.size; omega) (fun q e => ?_) |>.grown (hgs _) (by have := He8.out.size; have := hW9.size; have := hA.size; have := Hgrow.out.size; omega) (fun q e => by cases e; omega)
        · have := hrow8 q e
          omega
        · have := hrow9 q e
          omega
      · refine ⟨?_, fun q h1 h2 h3 => ?_⟩
        · have e0 := HI.out.kp.size
          have e8 := K8.out.2.2.1.size
          have e9 := hW9.size
          have e10 := Hgrow.out.size
          simp [World.setCell] at e10 ⊢
          omega
        · exact (hblk q (Nat.lt_of_lt_of_le h1 HW.out) h2 h3 (fun e => by have := hrow9 q e.symm; omega) _).trans (HI.out.kp.block q h1 h2 h3)
      · rw [List.length_append]
        exact hs10.kept (hgs _) (by simp; omega)
      · rw [List.nodup_append]
        refine ⟨HSn.out, K8.out.2.2.2.1, fun a ha b hb e => ?_⟩
        subst e
        obtain ⟨h1, h2⟩ := (K8.out.2.2.2.2.2 a).1 hb
        have h3 : ∀ {k a : Int}, Leads (within (flipR E) fun z => z ∉ S) k a → k ∉ S → a ∉ S := by
          intro k a hl
          induction hl with
          | refl => exact id
          | step g _ ih => exact fun _ => ih g.2.2
        exact h3 h2 h1 ha
      · intro y hy
        rcases List.mem_append.1 hy with h1 | h1
        · exact HSN.out y h1
        · exact K8.out.2.2.2.2.1 y h1
      · exact Hx10.out.set _
      · rw [List.length_append, List.length_singleton, List.map_append]
        refine row_off Hown.out (off_of_grown (hgs _)) (fun q e e2 => ?_)
        have h1 := Boxed.not_row Hx10.out (by decide) Hown.out
        exact h1 (by rw [e]; exact e2.symm ▸ rfl)
      · intro y hy
        rcases List.mem_append.1 hy with h1 | h1
        · exact hne3 (hap9 (Hp9.out.each y h1)) _
        · rw [List.mem_singleton] at h1
          subst h1
          exact hne3 (hap9 hf9) _
      · rw [List.length_append, List.length_append, List.length_singleton, List.length_singleton]
        have := Hpl.out
        omega
      · intro y hy
        rcases List.mem_append.1 hy with h1 | h1
        · exact Hpne.out y h1
        · rw [List.mem_singleton] at h1
          subst h1
          intro e
          have h2 := K9.out.2.2.1
          have e3 : F' = [] := e
          rw [e3, Hf.out] at h2
          have := Hf0.out
          simp at h2
          omega
      · intro hpre
        obtain ⟨h1, h2⟩ := revQ_split hlt hpre
        have hok := Hok.out h1
        have hkq := Hxv.out _ h2
        rw [List.length_append, List.length_singleton]
        obtain ⟨y0, hy0⟩ : ∃ y, y ∈ F := by
          cases hF : F with
          | nil => have := Hf.out; rw [hF] at this; have := Hf0.out; simp at *; omega
          | cons a l => exact ⟨a, by simp⟩
        have hkS := ((K8.out.2.2.2.2.2 y0).1 hy0).1
        have hfound := hok.found K5.out.2.1 K5.out.2.2.1 Hends.out hlt hkq.symm hkS K8.out.2.2.2.2.2
        exact hok.add Hnodes.out hlt hkq.symm HkN.out hkS hfound K8.out.2.2.2.2.1 K9.out.1 K9.out.2.1 _
    · have hf0 : ¬ 0 < f := by assumption
      have hF : F = [] := List.eq_nil_of_length_eq_zero (by have := Hf.out; omega)
      have hs8 := K8.out.1
      rw [hF, List.append_nil, List.length_nil, Nat.add_zero] at hs8
      refine ⟨KeepsFrom.of_grownBy K8.out.2.2.1 (fun q e => by cases e; have := HO1.out; omega), Hk8.out, He8.out, HI.out.kp.trans Hk8.out, S, D8, v, ps, hs8, HSn.out, HSN.out, Hx8.out, Hp8.out, ?_, Hpne.out, fun hpre => ?_⟩
      · rw [List.length_append]
        have := Hpl.out
        omega
      · obtain ⟨h1, h2⟩ := revQ_split hlt hpre
        have hok := Hok.out h1
        have hkq := Hxv.out _ h2
        rw [List.length_append, List.length_singleton]
        refine hok.skip hlt ?_
        rw [← hkq]
        refine Classical.byContradiction fun hkS => ?_
        have := (K8.out.2.2.2.2.2 k).2 ⟨hkS, .refl _⟩
        rw [hF] at this
        simp at this
  case hdone =>
    rintro D xs W hD rfl hI hK
    obtain ⟨S, D2, v, ps, hS, hSn, hSN, hbx, hps, hpl, hpne, hok⟩ := hI.ex
    rw [revQ_len (Nat.le_refl _)] at hpl hok
    have Hok := Lib.hid (hok rfl)
    have Hso := Lib.hid (sort_parts W6.heap.size v ps W hps hpne (by have := HOl.out; omega))
    obtain ⟨pv, cv, hv⟩ := row_sl hps.row
    rw [hv] at hbx Hso hps
    have x5 := hbx.cell
    have Hbx := Lib.hid hbx
    have Hps := Lib.hid hps
    have HI := Lib.hid hI
    have HK := Lib.hid hK
    have HD := Lib.hid hD
    have Hnb : Hid (some W3.heap.size ≠ (Value.slice pv ps.length cv).ownBlock) := Boxed.not_row hbx (by decide) hps.row
    clear hS hSn hSN hbx hps hpl hpne hok hI hK hD
    go_wp2_with (first
      | (go_at_call 60; (with_reducible refine Hso.out.mono ?_); rintro e w9 ⟨rfl, ps', K9⟩
         have x9 := (Hbx.out.kept K9.out.2.2.2 Hnb.out).cell
         have H9 := Lib.hid (Hbx.out.kept K9.out.2.2.2 Hnb.out))
      | go_in)
    have hlo := HO1.out
    have hrow : ∀ q, (Value.slice pv ps.length cv).ownBlock = some q → W6.heap.size ≤ q := fun q e => (Hps.out.row.lt q e).1
    have hk9 : w9.heap[D]? = some (.deferred (some [])) := (K9.out.2.2.2.block D (Array.getElem?_eq_some_iff.1 HK.out).1 (fun e => row_no Hps.out.row HK.out rfl e.symm)).trans HK.out
    refine leave30 D (.slice pv ps.length cv) rfl rfl hk9 ⟨_, ps', rfl, ?_, ?_, ?_⟩
    · have hlw : w.heap.size ≤ W6.heap.size := by have := KT.out.2.1.size; omega
      exact (K9.out.2.2.1.keptAt (grownBy_putObj' w9 D _) hk9 rfl).low hlw
    · exact Hok.out.parts Hnodes.out K5.out.2.2.1 K9.out.1 K9.out.2.1
    · have hV : Below V.heap.size V w9 := HI.out.env.grown K9.out.2.2.2 HI.out.env.size (fun q e => by have := hrow q e; omega)
      exact KT.out.2.1.trans ((hV.grown (grownBy_putObj' w9 D _) hV.size (fun q e => by cases e; have := HD.out; omega)).mono KT.out.2.1.size)
  case hstop =>
    rintro D c pre W hD hSp hI hK
    exact hI.elim
end Go.Proofs.Ythgkloapnihpaaa

/- Graphs: the least node that reaches itself (leastOnCycle), by a contract. -/
namespace Go.Proofs.Ythgkloapnihpaaa
open Go.RowKit Go.Maps Go.WideMaps Go.WideElems Go.ChangeShapes Go.WideShapes
open Classical

theorem parts_ne {R : Int → Int → Prop} {N : List Int} {p : List Int} (h : p ∈ partsOf R N) : ∃ k ∈ reps R N, p = cls R N k ∧ p ≠ [] := by
  obtain ⟨k, h1, rfl⟩ := List.mem_map.1 h
  refine ⟨k, h1, rfl, fun e => ?_⟩
  have : k ∈ cls R N k := mem_cls.2 ⟨(mem_reps.1 h1).1, Mutual.refl k⟩
  rw [e] at this
  simp at this
/-- The first that meets it, found by places. -/
theorem find_at_place {α : Type} {p : α → Bool} {d : α} : ∀ {l : List α} {q : Nat}, q < l.length → (∀ j, j < q → p (l.getD j d) = false) → p (l.getD q d) = true → l.find? p = some (l.getD q d)
  | [], q, h, _, _ => by simp at h
  | a :: l, 0, _, _, h => by
    rw [List.getD_cons_zero] at h ⊢
    rw [List.find?_cons, h]
  | a :: l, q + 1, hq, h1, h2 => by
    have h0 := h1 0 (by omega)
    rw [List.getD_cons_zero] at h0
    rw [List.find?_cons, h0, List.getD_cons_succ]
    rw [List.getD_cons_succ] at h2
    exact find_at_place (by simpa using hq) (fun j hj => by have := h1 (j + 1) (by omega); rwa [List.getD_cons_succ] at this) h2
theorem find_no_place {α : Type} {p : α → Bool} {d : α} {l : List α} (h : ∀ j, j < l.length → p (l.getD j d) = false) : l.find? p = none := by
  rw [List.find?_eq_none]
  intro x hx
  obtain ⟨j, hj, e⟩ := List.getElem_of_mem hx
  have := h j hj
  rw [List.getD_eq_getElem?_getD, List.getElem?_eq_getElem hj] at this
  rw [← e]
  simpa using this
set_option maxHeartbeats 16000000 in
set_option maxRecDepth 100000 in
theorem least_any {Z : Nat → Prop} {B g c : Nat} {N : List Int} {E : List Ed} (hc : c ≤ 100000) (hN : N.length ≤ 500) (w : World) (h : GrAt Z B g c N E w) :
    Calls Try.prog 50 #[.pointer (some ⟨g, 0, none⟩)] w fun e w' => ∃ s ok, e = .returned (.tuple #[iv s, .bool ok]) ∧ Hid ((startZ (EdR E) N = if ok = true then some s else none) ∧ Below w.heap.size w w') := by
  have HP := Lib.hid (parts_p hc hN w h)
  obtain ⟨ob, DO, F, DI, f, h, hZ⟩ := h
  have H := Lib.hid h
  have Hfit : Hid (∀ a ∈ N, fit64 a) := fun a ha => h.dom.fit a ha
  have HN := Lib.hid hN
  have Hst := Lib.hid (start_parts h.nodes h.ends)
  clear h hZ hc hN
  go_enter Try.func50, Try.ntmps50
  go_wp2_with (first
    | (go_at_call 30; (with_reducible refine HP.out.mono ?_); rintro e V ⟨pv, ps, rfl, KP⟩
       obtain ⟨p10, c10, rfl⟩ := row_sl KP.out.1.row
       obtain ⟨n, hn⟩ : ∃ n, ps.length = n := ⟨_, rfl⟩
       have Hn := Lib.hid hn
       have hnb : n ≤ 500 := by
         have h1 : ps.length = (reps (EdR E) N).length := by
           have := congrArg List.length KP.out.2.1
           rw [List.length_map] at this
           rw [this]
           unfold partsOf
           rw [List.length_map]
         have h2 : (reps (EdR E) N).length ≤ N.length := List.length_filter_le _ _
         have := HN.out
         omega
       rw [hn])
    | go_in)
  have Hrow : Hid (V.ownsRow w.heap.size 23 1 (.slice p10 n c10) n (ps.map (·.1))) := by
    have h1 := KP.out.1.row
    rw [Hn.out] at h1
    exact h1
  clear hn HP
  try go_frame
  go_loopw [12] (fun i wr => ∃ q : Nat, q ≤ n ∧ i = .int .i64 ((q : Nat) : Int) ∧ Hid (Below V.heap.size V wr ∧ ∀ j, j < q → ¬ loopP (EdR E) ((partsOf (EdR E) N).getD j []))) (fun i _ => n - (intOf i).toNat)
  case atStart => exact ⟨0, Nat.zero_le _, rfl, Below.refl _ _, fun j hj => absurd hj (by omega)⟩
  case round =>
    obtain ⟨q, hq, rfl, HR⟩ := hrel
    obtain ⟨wa, hwa⟩ : ∃ wa, wa = wr := ⟨_, rfl⟩
    subst hwa
    by_cases hlt : q < n
    · have hqp : q < ps.length := by rw [Hn.out]; exact hlt
      have hqP : q < (partsOf (EdR E) N).length := by rw [← KP.out.2.1, List.length_map]; exact hqp
      have hpe : (partsOf (EdR E) N).getD q [] = (ps[q]).2 := by
        rw [← KP.out.2.1, List.getD_eq_getElem?_getD, List.getElem?_map, List.getElem?_eq_getElem hqp]
        rfl
      obtain ⟨x, hx⟩ : ∃ x, ps[q] = x := ⟨_, rfl⟩
      have hxm : x ∈ ps := by rw [← hx]; exact List.getElem_mem hqp
      have hrow := row_kept Hrow.out HR.out.1
      obtain ⟨g10, d0⟩ : ∃ g10, p10 = some ⟨g10, 0, none⟩ ∧ wa.cell? ⟨g10, q, none⟩ = some x.1 := by
        rcases hrow.2 with ⟨e, h0⟩ | ⟨g', cap, cur, e, hb, hg, hn', hm, hs, ht⟩
        · omega
        · simp only [Value.slice.injEq] at e
          refine ⟨g', e.1, ?_⟩
          have h2 := hrow.cells (g := g') (by rw [e.1]; rfl) q x.1 (by rw [List.getElem?_map, List.getElem?_eq_getElem hqp, hx]; rfl)
          rwa [Addr.add_lit, Nat.zero_add] at h2
      obtain ⟨rfl, d1⟩ := d0
      have hxi := (KP.out.1.each x hxm).below HR.out.1
      rw [hx] at hpe
      obtain ⟨k, hkr, hxk, hxne⟩ := parts_ne (by rw [← hpe]; exact getD_in hqP : x.2 ∈ partsOf (EdR E) N)
      obtain ⟨vx, px⟩ := x
      simp only at d1 hxi hpe hxk hxne
      obtain ⟨px', cx, rfl, hcx, h2⟩ := hxi.form
      obtain ⟨gx, ox, rfl, -, -, hcell⟩ := h2 hxne
      obtain ⟨a, l, rfl⟩ : ∃ a l, px = a :: l := by cases px with
        | nil => exact absurd rfl hxne
        | cons a l => exact ⟨a, l, rfl⟩
      have d2 := hcell 0 (by simp)
      rw [List.getD_cons_zero, Nat.add_zero] at d2
      have haN : a ∈ N := by
        have h1 : a ∈ cls (EdR E) N k := by rw [← hxk]; simp
        exact (mem_cls.1 h1).1
      have hVw : Below w.heap.size w wa := KP.out.2.2.trans (HR.out.1.mono KP.out.2.2.size)
      have hG := H.out.kept (grown_below hVw) (fun k e => by cases e)
      have c0 := hG.box.cell
      have hfa := Hfit.out a haN
      have l1 : ∀ q, (Instr.lookup 59 (.map (some ob)) (iv a) false).run Try.prog (wa.drewN q) = .ok (.map (some (F a))) (wa.drewN q) := fun q => look_as (hG.dom.kept (grown_below (drewN_below wa q)) (by simp)) Try.underlying59 (zero65 _) hfa ((hG.atO a hfa).trans (by rw [if_pos haN]))
      have l2 : ∀ q, (Instr.lookup 65 (.map (some (F a))) (iv a) true).run Try.prog (wa.drewN q) = .ok (.tuple #[f a a, .bool (decide (a ∈ outsE N E a))]) (wa.drewN q) := fun q => look_ok_as ((hG.domI a haN).kept (grown_below (drewN_below wa q)) (by simp)) Try.underlying65 (zero23 _) hfa (hG.atI a haN a hfa)
      obtain ⟨m, hm⟩ : ∃ m, l.length = m := ⟨_, rfl⟩
      have hml : m ≤ 500 := by
        have h1 : (a :: l).length ≤ N.length := by
          rw [hxk]
          exact List.length_filter_le _ _
        rw [List.length_cons] at h1
        have := HN.out
        omega
      have hloop : loopP (EdR E) ((partsOf (EdR E) N).getD q []) ↔ (a ∈ outsE N E a ∨ 1 < m + 1) := by
        rw [hpe]
        unfold loopP
        rw [List.headD_cons, List.length_cons, hm, mem_outsE H.out.ends]
      have Hloop := Lib.hid hloop
      have Hpe := Lib.hid hpe
      have HqP := Lib.hid hqP
      rw [List.length_cons, hm] at d1
      have hltI : (q : Int) < (n : Int) := by omega
      have hix1 : (0 : Int) < (m : Int) + 1 := by omega
      generalize F a = fa at l1 l2
      generalize f a a = fv at l2
      by_cases hlp : a ∈ outsE N E a ∨ 1 < m + 1
      · have HF : Hid ((partsOf (EdR E) N).find? (fun p => decide (loopP (EdR E) p)) = some (a :: l)) := by
          show _ = _
          rw [← Hpe.out]
          exact find_at_place HqP.out (fun j hj => decide_eq_false (HR.out.2 j hj)) (decide_eq_true (Hloop.out.2 hlp))
        have HZ : Hid (startZ (EdR E) N = some a) := by
          show _ = _
          rw [← Hst.out, HF.out]
          rfl
        have HW := Lib.hid hVw
        by_cases hao : a ∈ outsE N E a
        · rw [decide_eq_true hao] at l2
          clear hqp hqP hpe hx hxm hrow hxi hkr hxk hxne hcx h2 hcell haN hG hfa hm hloop hlp hao hVw HF
          go_wp2
          go_quiet (fail)
          go_wp2
          go_ret2
          exact ⟨a, true, rfl, by rw [HZ.out]; rfl, HW.out.trans ((drewN_below _ _).mono HW.out.size)⟩
        · rw [decide_eq_false hao] at l2
          have hm1 : 1 < m + 1 := hlp.resolve_left hao
          have hm2 : (1 : Int) < (m : Int) + 1 := by omega
          have e3 : decide ((1 : Int) < (m : Int) + 1) = true := by simpa using hm2
          have e4 : decide (1 < m + 1) = true := by simpa using hm1
          have hm0 : 0 < m := by omega
          clear hqp hqP hpe hx hxm hrow hxi hkr hxk hxne hcx h2 hcell haN hG hfa hm hloop hlp hao hVw HF
          go_wp2
          go_quiet (fail)
          go_wp2
          go_ret2
          exact ⟨a, true, rfl, by rw [HZ.out]; rfl, HW.out.trans ((drewN_below _ _).mono HW.out.size)⟩
      · have hao : a ∉ outsE N E a := fun h => hlp (.inl h)
        have hm0 : m = 0 := by omega
        rw [decide_eq_false hao] at l2
        subst hm0
        have HNo : Hid (∀ j, j < q + 1 → ¬ loopP (EdR E) ((partsOf (EdR E) N).getD j [])) := fun j hj => by
          by_cases e : j = q
          · subst e
            exact fun h => hlp (Hloop.out.1 h)
          · exact HR.out.2 j (by omega)
        have HB := Lib.hid HR.out.1
        clear hqp hqP hpe hx hxm hrow hxi hkr hxk hxne hcx h2 hcell haN hG hfa hm hloop hlp hao hVw
        go_wp2
        go_quiet (fail)
        go_wp2
        go_roundw
        case rel => exact ⟨q + 1, by omega, by go_num, HB.out.trans ((drewN_below _ _).mono HB.out.size), HNo.out⟩
        case measure => simp [intOf]; omega
    · have hqn : q = n := by omega
      have HZ : Hid (startZ (EdR E) N = none) := by
        show _ = _
        rw [← Hst.out, find_no_place (d := []) fun j hj => decide_eq_false (HR.out.2 j (by rw [hqn, ← Hn.out]; rw [← KP.out.2.1, List.length_map] at hj; exact hj))]
        rfl
      clear hqn
      go_wp2
      go_ret2
      exact ⟨0, false, rfl, by rw [HZ.out]; rfl, KP.out.2.2.trans (HR.out.1.mono KP.out.2.2.size)⟩
end Go.Proofs.Ythgkloapnihpaaa

/- Graphs: Cycle, by a contract. -/
namespace Go.Proofs.Ythgkloapnihpaaa
open Go.RowKit Go.Maps Go.WideMaps Go.WideElems Go.ChangeShapes Go.WideShapes
open Classical

/-- The way round: none, or from the least node on a cycle on. -/
def cycIs (R : Int → Int → Prop) (N : List Int) (O : Int → List Int) (l : List Int) : Prop :=
  (startZ R N = none ∧ l = []) ∨ ∃ s L, startZ R N = some s ∧ Near R s s L ∧ l = s :: wayZ R s O L s
theorem cycIs_same {R : Int → Int → Prop} {N : List Int} {O : Int → List Int} {l m : List Int} (h : cycIs R N O l) (k : cycIs R N O m) : l = m := by
  rcases h with ⟨h1, h2⟩ | ⟨s, L, h1, h2, h3⟩ <;> rcases k with ⟨k1, k2⟩ | ⟨t, M, k1, k2, k3⟩
  · rw [h2, k2]
  · rw [h1] at k1; cases k1
  · rw [k1] at h1; cases h1
  · rw [h1] at k1
    cases k1
    have := near_same h2 k2
    subst this
    rw [h3, k3]
/-- While it goes back. -/
structure CyAt (V : World) (am ka : Nat) (La : List Int) (fa : Int → Nat) (R : Int → Int → Prop) (s : Int) (O : Int → List Int) (T : Nat) (now : Int) (k : Nat) (l : List Int) (v6 : Value) (W : World) : Prop where
  aw : AwAt am ka La fa W
  row : IntsO W V.heap.size v6 l
  gro : V.grownBy W none
  whole : l ++ wayZ R s O k now = s :: wayZ R s O T s
  len : l.length + k = T + 1
theorem wayZ_len {R : Int → Int → Prop} {s : Int} {O : Int → List Int} : ∀ (k : Nat) (a : Int), (wayZ R s O k a).length = k
  | 0, _ => rfl
  | k + 1, a => by
    show ((pickD R s (O a) (k + 1)).getD a :: wayZ R s O k _).length = k + 1
    rw [List.length_cons, wayZ_len k]
set_option maxHeartbeats 16000000 in
set_option maxRecDepth 100000 in
theorem cycle_p {Z : Nat → Prop} {B g c : Nat} {N : List Int} {E : List Ed} (hc : c ≤ 100000) (hN : N.length ≤ 500) (w : World) (h : GrAt Z B g c N E w) :
    Calls Try.prog 26 #[.pointer (some ⟨g, 0, none⟩)] w fun e w' => ∃ v l, e = .returned v ∧ Hid (IntsO w' w.heap.size v l ∧ cycIs (EdR E) N (outsE N E) l ∧ Below w.heap.size w w') := by
  have HL := Lib.hid (least_any hc hN w h)
  have HGr := Lib.hid h
  obtain ⟨ob, DO, F, DI, f, h, hZ⟩ := h
  have Hends := Lib.hid h.ends
  have Hnodes := Lib.hid h.nodes
  have Hfit : Hid (∀ a ∈ N, fit64 a) := fun a ha => h.dom.fit a ha
  have HN := Lib.hid hN
  have Hc := Lib.hid hc
  have hout : ∀ a b, b ∈ outsE N E a ↔ EdR E a b := fun a b => mem_outsE h.ends
  have Hout := Lib.hid hout
  clear h hZ hc hN hout
  cases hz : startZ (EdR E) N with
  | none =>
    have HL0 : Hid (Calls Try.prog 50 #[.pointer (some ⟨g, 0, none⟩)] w fun e w' => ∃ s, e = .returned (.tuple #[iv s, .bool false]) ∧ Hid (Below w.heap.size w w')) := by
      refine HL.out.mono ?_
      rintro e w' ⟨s, ok, rfl, K⟩
      have h1 := K.out.1
      rw [hz] at h1
      cases ok with
      | false => exact ⟨s, rfl, K.out.2⟩
      | true => simp at h1
    have HZ : Hid (startZ (EdR E) N = none) := hz
    clear hz
    go_enter Try.func26, Try.ntmps26
    go_wp2_with (first
      | (go_at_call 50; (with_reducible refine HL0.out.mono ?_); rintro e w1 ⟨s, rfl, K1⟩)
      | go_in)
    go_ret
    exact ⟨_, [], rfl, intsO_nil _ _, .inl ⟨HZ.out, rfl⟩, K1.out⟩
  | some s =>
    have HL0 : Hid (Calls Try.prog 50 #[.pointer (some ⟨g, 0, none⟩)] w fun e w' => e = .returned (.tuple #[iv s, .bool true]) ∧ Hid (Below w.heap.size w w')) := by
      refine HL.out.mono ?_
      rintro e w' ⟨t, ok, rfl, K⟩
      have h1 := K.out.1
      rw [hz] at h1
      cases ok with
      | false => simp at h1
      | true =>
        simp at h1
        rw [h1]
        exact ⟨rfl, K.out.2⟩
    have HZ : Hid (startZ (EdR E) N = some s) := hz
    clear hz
    obtain ⟨hsN, hsc, -⟩ := (startZ_is Hnodes.out).1 HZ.out
    obtain ⟨T, hT⟩ := near_ex hsc
    have HsN := Lib.hid hsN
    have HT := Lib.hid hT
    have hTn : T ≤ 500 := by
      obtain ⟨b, h1, h2⟩ := hT.1
      have := dst_lt (N := N) Hends.out (Hends.out s b h1).2 h2
      have := HN.out
      omega
    have hAw := fun (w1 : World) (hb : Below w.heap.size w w1) => away_any s hsN HN.out w1 (HGr.out.below hb)
    have HA := Lib.hid hAw
    clear hsN hsc hT hAw
    go_enter Try.func26, Try.ntmps26
    go_wp2_with (first
      | (go_at_call 50; (with_reducible refine HL0.out.mono ?_); rintro e w1 ⟨rfl, K1⟩)
      | (go_at_call 51; (with_reducible refine (HA.out w1 K1.out).mono ?_); rintro e V ⟨am, ka, La, fa, rfl, KA⟩
         obtain ⟨V1, hV1⟩ : ∃ W, V.alloc (.cells #[iv s] 3) = W := ⟨_, rfl⟩
         have Hg1 : Hid (V.grownBy V1 none) := by show V.grownBy _ _; rw [← hV1]; exact World.grownBy_alloc V _ none
         have HR1 : Hid (IntsO V1 V.heap.size (.slice (some ⟨V.heap.size, 0, none⟩) 1 1) [s]) := by
           show IntsO _ _ _ _
           rw [← hV1]
           exact intsO_one V _ (Nat.le_refl _) s
         have hwV : Below w.heap.size w V := K1.out.trans (KA.out.2.2.2.mono K1.out.size)
         have HwV := Lib.hid hwV
         have HNe := Lib.hid (nearest_any s s HsN.out HN.out V1 (HGr.out.below (hwV.trans ((grown_of_below Hg1.out).mono hwV.size))) (KA.out.1.kept Hg1.out (by simp)) KA.out.2.1 KA.out.2.2.1 T HT.out))
      | (go_at_call 52; (with_reducible refine HNe.out.mono ?_); rintro e V2 ⟨rfl, K2⟩)
      | go_in)
    have H0 : Hid (CyAt V am ka La fa (EdR E) s (outsE N E) T s T [s] (.slice (some ⟨V.heap.size, 0, none⟩) 1 1) V2) := ⟨(KA.out.1.kept Hg1.out (by simp)).kept (grown_below K2.out) (by simp), HR1.out.below K2.out, Hg1.out.trans (grown_below K2.out), rfl, by simp; omega⟩
    clear HNe HA
    try go_frame
    go_loopw [6, 7, 8] (fun v6 v7 v8 wr => ∃ (now : Int) (k : Nat) (l : List Int), v7 = iv now ∧ v8 = .int .i64 ((k : Nat) : Int) ∧ now ∈ N ∧ Hid (CyAt V am ka La fa (EdR E) s (outsE N E) T now k l v6 wr)) (fun _ _ v8 _ => (intOf v8).toNat)
    case atStart => exact ⟨s, T, [s], rfl, rfl, HsN.out, H0.out⟩
    case round =>
      obtain ⟨now, k, l, rfl, rfl, hnN, HC⟩ := hrel
      obtain ⟨wa, hwa⟩ : ∃ wa, wa = wr := ⟨_, rfl⟩
      subst hwa
      have HnN := Lib.hid hnN
      cases k with
      | zero =>
        have HE : Hid (l = s :: wayZ (EdR E) s (outsE N E) T s) := by
          have := HC.out.whole
          rw [show wayZ (EdR E) s (outsE N E) 0 now = [] from rfl, List.append_nil] at this
          exact this
        clear hnN
        go_wp2
        go_ret
        refine ⟨_, l, rfl, HC.out.row.low HwV.out.size, .inr ⟨s, T, HZ.out, HT.out, HE.out⟩, HwV.out.trans ((grown_of_below HC.out.gro).mono HwV.out.size)⟩
      | succ k =>
        have hk5 : k ≤ 500 := by have := HC.out.len; omega
        have hll : l.length ≤ 1000000 := by have := HC.out.len; omega
        have hg0 : decide ((0 : Int) < (k : Int) + 1) = true := decide_eq_true (by omega)
        have hg1 : decide (0 < k + 1) = true := decide_eq_true (by omega)
        have HO := Lib.hid (out_any now (Hfit.out now hnN) Hc.out wa (HGr.out.below (HwV.out.trans ((grown_of_below HC.out.gro).mono HwV.out.size))))
        obtain ⟨m, hm⟩ : ∃ m, (outsE N E now).length = m := ⟨_, rfl⟩
        have Hm := Lib.hid hm
        have hm5 : m ≤ 500 := by
          have : (outsE N E now).length ≤ N.length := List.length_filter_le _ _
          have := HN.out
          omega
        clear hnN hm
        go_wp2_with (first
          | (go_at_call 20; (with_reducible refine HO.out.mono ?_); rintro e w3 ⟨vo, rfl, K3⟩
             have ho3 := intsO_row K3.out.1
             obtain ⟨p3, c3, rfl⟩ := row_sl K3.out.1
             rw [Hm.out] at ho3 ⊢
             have Ho3 := Lib.hid ho3
             clear ho3)
          | go_in)
        have HA3 := Lib.hid (HC.out.aw.kept (grown_below K3.out.2) (by simp))
        have HR3 := Lib.hid (HC.out.row.below K3.out.2)
        have Hg3 : Hid (V.grownBy w3 none) := HC.out.gro.trans (grown_below K3.out.2)
        try go_frame
        go_loopw [7, 38] (fun v7 i wr => ∃ q : Nat, q ≤ m ∧ i = .int .i64 ((q : Nat) : Int) ∧ v7 = iv now ∧ wr = w3 ∧ Hid (∀ j, j < q → ¬ Dst (EdR E) s ((outsE N E now).getD j 0) (k + 1))) (fun _ i _ => m - (intOf i).toNat)
        case atStart => exact ⟨0, Nat.zero_le _, rfl, rfl, rfl, fun j hj => absurd hj (by omega)⟩
        case round =>
          obtain ⟨q, hq, rfl, rfl, rfl, HQ⟩ := hrel
          by_cases hlt : q < m
          · have hqo : q < (outsE N E now).length := by rw [Hm.out]; exact hlt
            have hsl : SlI wr p3 (outsE N E now) := by
              obtain ⟨p, c, e, hs⟩ := Ho3.out.sl
              simp only [Value.slice.injEq] at e
              rw [e.1]
              exact hs
            obtain ⟨b3, off3, rfl, hc0⟩ := hsl.at hqo
            have hbo := getD_in (d := 0) hqo
            obtain ⟨b, hb⟩ : ∃ b, (outsE N E now).getD q 0 = b := ⟨_, rfl⟩
            rw [hb] at hc0 hbo
            have hbN : b ∈ N := (List.mem_filter.1 hbo).1
            have hlk := HA3.out.lookOk (Hfit.out b hbN)
            have hltI : (q : Int) < (m : Int) := by omega
            by_cases hbL : b ∈ La
            · rw [decide_eq_true hbL, if_pos hbL] at hlk
              have hd := KA.out.2.2.1 b hbL
              have hdn := dst_lt (N := N) Hends.out hbN hd
              obtain ⟨d, hde⟩ : ∃ d, fa b = d := ⟨_, rfl⟩
              rw [hde] at hlk hd hdn
              have hd5 : d ≤ 500 := by have := HN.out; omega
              by_cases hdk : d = k + 1
              · have HP : Hid (pickD (EdR E) s (outsE N E now) (k + 1) = some b) := by
                  show List.find? _ _ = _
                  rw [← hb]
                  exact find_at_place hqo (fun j hj => decide_eq_false (HQ.out j hj)) (decide_eq_true (by rw [hb, ← hdk]; exact hd))
                have HbN := Lib.hid hbN
                subst hdk
                have e1 : (((k + 1 : Nat) : Int) == ((k + 1 : Nat) : Int)) = true := by simp
                have e2 : ((k : Int) + 1 == (k : Int) + 1) = true := by simp
                clear hsl hbo hb hbN hbL hd hdn hde hqo
                go_wp2_with (first
                  | (at_builtin; refine wpList_append_o rfl _ _ rfl V.heap.size u6 l b rfl (HR3.out.alloc _) ⟨wr.heap.size, 0, none⟩ 1 rfl (news_new wr #[iv b] 3) hll (by have := Hg3.out.size; simp; omega) ?_
                     intro v6 w6 hf6 hg6 hl6
                     have hA := World.grownBy_alloc wr (.cells #[iv b] 3) none
                     have H6 : Hid (CyAt V am ka La fa (EdR E) s (outsE N E) T b k (l ++ [b]) v6 w6) := by
                       refine ⟨(HA3.out.kept hA (by simp)).kept hg6 (fun e => by
                         obtain ⟨o, ho, hc⟩ := HA3.out.obj
                         exact HR3.out.no ho hc e.symm), hf6, (Hg3.out.trans hA).andThen hg6 (fun q e => .inl (HR3.out.lt e).1), ?_, by rw [List.length_append, List.length_singleton]; have := HC.out.len; omega⟩
                       have h1 := HC.out.whole
                       have h2 : wayZ (EdR E) s (outsE N E) (k + 1) now = b :: wayZ (EdR E) s (outsE N E) k b := by
                         show (pickD (EdR E) s (outsE N E now) (k + 1)).getD now :: wayZ (EdR E) s (outsE N E) k ((pickD (EdR E) s (outsE N E now) (k + 1)).getD now) = _
                         rw [HP.out]
                         rfl
                       rw [h2] at h1
                       rw [List.append_assoc]
                       exact h1
                     clear hf6 hg6 hl6 hA)
                  | go_in)
                try go_roundw
                first
                  | (case rel => exact ⟨b, k, l ++ [b], rfl, by first | rfl | go_num, HbN.out, H6.out⟩)
                  | exact ⟨⟨b, k, l ++ [b], rfl, by first | rfl | go_num, HbN.out, H6.out⟩, by simp [intOf]; omega⟩
                try (case measure => simp only [intOf]; omega)
              · have e1 : (((d : Nat) : Int) == (k : Int) + 1) = false := by simp; omega
                have e2 : (((d : Nat) : Int) == ((k + 1 : Nat) : Int)) = false := by simp; omega
                have HQ2 : Hid (∀ j, j < q + 1 → ¬ Dst (EdR E) s ((outsE N E now).getD j 0) (k + 1)) := fun j hj => by
                  by_cases e : j = q
                  · subst e
                    rw [hb]
                    exact fun h => hdk (hd.same h)
                  · exact HQ.out j (by omega)
                clear hsl hbo hb hbN hbL hd hdn hde hqo
                go_wp2
                go_roundw
                case rel => exact ⟨q + 1, by omega, by go_num, by first | rfl | trivial, by first | rfl | trivial, HQ2.out⟩
                case measure => simp [intOf]; omega
            · rw [decide_eq_false hbL, if_neg hbL] at hlk
              have HQ2 : Hid (∀ j, j < q + 1 → ¬ Dst (EdR E) s ((outsE N E now).getD j 0) (k + 1)) := fun j hj => by
                by_cases e : j = q
                · subst e
                  rw [hb]
                  exact fun h => hbL ((KA.out.2.1 b).2 ⟨_, h⟩)
                · exact HQ.out j (by omega)
              clear hsl hbo hb hbN hbL hqo
              go_wp2
              go_roundw
              case rel => exact ⟨q + 1, by omega, by go_num, by first | rfl | trivial, by first | rfl | trivial, HQ2.out⟩
              case measure => simp [intOf]; omega
          · have HP : Hid (pickD (EdR E) s (outsE N E now) (k + 1) = none) := by
              show List.find? _ _ = _
              exact find_no_place (d := 0) fun j hj => decide_eq_false (HQ.out j (by rw [Hm.out] at hj; omega))
            have HbN := Lib.hid HnN.out
            go_wp2_with (first
              | (at_builtin; refine wpList_append_o rfl _ _ rfl V.heap.size u6 l now rfl (HR3.out.alloc _) ⟨wr.heap.size, 0, none⟩ 1 rfl (news_new wr #[iv now] 3) hll (by have := Hg3.out.size; simp; omega) ?_
                 intro v6 w6 hf6 hg6 hl6
                 have hA := World.grownBy_alloc wr (.cells #[iv now] 3) none
                 have H6 : Hid (CyAt V am ka La fa (EdR E) s (outsE N E) T now k (l ++ [now]) v6 w6) := by
                   refine ⟨(HA3.out.kept hA (by simp)).kept hg6 (fun e => by
                     obtain ⟨o, ho, hc⟩ := HA3.out.obj
                     exact HR3.out.no ho hc e.symm), hf6, (Hg3.out.trans hA).andThen hg6 (fun q e => .inl (HR3.out.lt e).1), ?_, by rw [List.length_append, List.length_singleton]; have := HC.out.len; omega⟩
                   have h1 := HC.out.whole
                   have h2 : wayZ (EdR E) s (outsE N E) (k + 1) now = now :: wayZ (EdR E) s (outsE N E) k now := by
                     show (pickD (EdR E) s (outsE N E now) (k + 1)).getD now :: wayZ (EdR E) s (outsE N E) k ((pickD (EdR E) s (outsE N E now) (k + 1)).getD now) = _
                     rw [HP.out]
                     rfl
                   rw [h2] at h1
                   rw [List.append_assoc]
                   exact h1
                 clear hf6 hg6 hl6 hA)
              | go_in)
            try go_roundw
            first
              | (case rel => exact ⟨now, k, l ++ [now], rfl, by first | rfl | go_num, HbN.out, H6.out⟩)
              | exact ⟨⟨now, k, l ++ [now], rfl, by first | rfl | go_num, HbN.out, H6.out⟩, by simp [intOf]; omega⟩
            try (case measure => simp only [intOf]; omega)
end Go.Proofs.Ythgkloapnihpaaa

/- The chapter's examples: what they are (plain). -/
namespace Go.Proofs.Ythgkloapnihpaaa
open Go.RowKit Go.Maps Go.WideMaps Go.WideElems Go.ChangeShapes Go.WideShapes
open Classical

abbrev es1 : List Ed := [(1, 2, 1), (2, 3, 1), (3, 2, 1), (3, 1, 2)]
abbrev es2 : List Ed := [(5, 4, 1), (6, 4, 1)]
abbrev n1 : List Int := [1, 2, 3, 7]
abbrev n2 : List Int := [1, 4, 5, 6]
abbrev g1 : List Ed := [(1, 2, 1), (2, 3, 1), (3, 1, 2), (3, 2, 1)]
theorem nodes_1 : nodesOf es1 [7] = n1 := by rfl
theorem nodes_2 : nodesOf es2 [1] = n2 := by rfl
theorem edges_1 : edgesUp es1 = g1 := by rfl
theorem edges_2 : edgesUp es2 = es2 := by rfl
theorem topo_1 : topoZ n1 g1 n1.length [] = none := by rfl
theorem topo_2 : topoZ n2 es2 n2.length [] = some [1, 5, 6, 4] := by rfl
theorem r_1 {a b : Int} : EdR g1 a b ↔ (a = 1 ∧ b = 2) ∨ (a = 2 ∧ b = 3) ∨ (a = 3 ∧ b = 1) ∨ (a = 3 ∧ b = 2) := by
  unfold EdR
  constructor
  · rintro ⟨k, h⟩
    simp at h
    omega
  · rintro (⟨rfl, rfl⟩ | ⟨rfl, rfl⟩ | ⟨rfl, rfl⟩ | ⟨rfl, rfl⟩)
    · exact ⟨1, by simp⟩
    · exact ⟨1, by simp⟩
    · exact ⟨2, by simp⟩
    · exact ⟨1, by simp⟩
theorem r_2 {a b : Int} : EdR es2 a b ↔ (a = 5 ∧ b = 4) ∨ (a = 6 ∧ b = 4) := by
  unfold EdR
  constructor
  · rintro ⟨k, h⟩
    simp at h
    omega
  · rintro (⟨rfl, rfl⟩ | ⟨rfl, rfl⟩)
    · exact ⟨1, by simp⟩
    · exact ⟨1, by simp⟩
theorem steps_zero {R : Int → Int → Prop} {s a : Int} (h : Steps R s 0 a) : a = s := by cases h; rfl
theorem steps_one {R : Int → Int → Prop} {s a : Int} {n : Nat} (h : Steps R s (n + 1) a) : ∃ b, R a b ∧ Steps R s n b := by
  cases h with
  | next h1 h2 => exact ⟨_, h1, h2⟩
theorem r12 : EdR g1 1 2 := r_1.2 (.inl ⟨rfl, rfl⟩)
theorem r23 : EdR g1 2 3 := r_1.2 (.inr (.inl ⟨rfl, rfl⟩))
theorem r31 : EdR g1 3 1 := r_1.2 (.inr (.inr (.inl ⟨rfl, rfl⟩)))
theorem dst_31 : Dst (EdR g1) 1 3 1 := by
  refine ⟨.next r31 .zero, fun m h => ?_⟩
  cases m with
  | zero => have := steps_zero h; omega
  | succ m => omega
theorem dst_22 : Dst (EdR g1) 1 2 2 := by
  refine ⟨.next r23 dst_31.1, fun m h => ?_⟩
  match m, h with
  | 0, h => have := steps_zero h; omega
  | 1, h =>
    obtain ⟨b, h1, h2⟩ := steps_one h
    have h3 := steps_zero h2
    have h4 := r_1.1 h1
    omega
  | m + 2, _ => omega
theorem near_1 : Near (EdR g1) 1 1 2 := by
  refine ⟨⟨2, r12, dst_22⟩, fun b n hb hn => ?_⟩
  have h1 := r_1.1 hb
  have h2 : b = 2 := by omega
  subst h2
  have := dst_22.same hn
  omega
theorem lead_1 : Leads (EdR g1) 2 1 ∧ Leads (EdR g1) 3 1 ∧ Leads (EdR g1) 1 2 ∧ Leads (EdR g1) 1 3 := by
  have h31 : Leads (EdR g1) 3 1 := .step r31 (.refl _)
  have h23 : Leads (EdR g1) 2 3 := .step r23 (.refl _)
  have h12 : Leads (EdR g1) 1 2 := .step r12 (.refl _)
  exact ⟨h23.trans h31, h31, h12, h12.trans h23⟩
theorem rise_1 : RiseI n1 := by unfold RiseI; decide
theorem start_1 : startZ (EdR g1) n1 = some 1 := by
  refine (startZ_is rise_1).2 ⟨by simp, ⟨2, r12, lead_1.1⟩, fun y hy _ => ?_⟩
  simp at hy
  omega
theorem way_1 : wayZ (EdR g1) 1 (outsE n1 g1) 2 1 = [2, 3] := by
  have e1 : pickD (EdR g1) 1 (outsE n1 g1 1) 2 = some 2 := by
    rw [show outsE n1 g1 1 = [2] from by rfl]
    exact (pick_is (by unfold RiseI; decide)).2 ⟨by simp, dst_22, fun y hy _ => by simp at hy; omega⟩
  have e2 : pickD (EdR g1) 1 (outsE n1 g1 2) 1 = some 3 := by
    rw [show outsE n1 g1 2 = [3] from by rfl]
    exact (pick_is (by unfold RiseI; decide)).2 ⟨by simp, dst_31, fun y hy _ => by simp at hy; omega⟩
  show (pickD (EdR g1) 1 (outsE n1 g1 1) 2).getD 1 :: wayZ (EdR g1) 1 (outsE n1 g1) 1 ((pickD (EdR g1) 1 (outsE n1 g1 1) 2).getD 1) = _
  rw [e1]
  show 2 :: ((pickD (EdR g1) 1 (outsE n1 g1 2) 1).getD 2 :: []) = _
  rw [e2]
  rfl
theorem cycle_1 : cycIs (EdR g1) n1 (outsE n1 g1) [1, 2, 3] := .inr ⟨1, 2, start_1, near_1, by rw [way_1]⟩
theorem parts_1 : (partsOf (EdR g1) n1).length = 2 := by
  unfold partsOf
  rw [List.length_map]
  have h1 : decide (∀ y ∈ n1, Mutual (EdR g1) 1 y → (1 : Int) ≤ y) = true := decide_eq_true (fun y hy _ => by simp at hy; omega)
  have h2 : decide (∀ y ∈ n1, Mutual (EdR g1) 2 y → (2 : Int) ≤ y) = false := decide_eq_false (fun h => by have := h 1 (by simp) ⟨lead_1.1, lead_1.2.2.1⟩; omega)
  have h3 : decide (∀ y ∈ n1, Mutual (EdR g1) 3 y → (3 : Int) ≤ y) = false := decide_eq_false (fun h => by have := h 1 (by simp) ⟨lead_1.2.1, lead_1.2.2.2⟩; omega)
  have h7 : decide (∀ y ∈ n1, Mutual (EdR g1) 7 y → (7 : Int) ≤ y) = true := decide_eq_true (fun y _ h => by
    cases h.1 with
    | refl => exact Int.le_refl _
    | step h1 _ => have := r_1.1 h1; omega)
  unfold reps
  simp only [List.filter_cons, h1, h2, h3, h7, List.filter_nil]
  rfl
theorem start_2 : startZ (EdR es2) n2 = none := by
  refine startZ_no.2 fun y _ h => ?_
  obtain ⟨c, h1, h2⟩ := h
  have h3 := r_2.1 h1
  have h4 : c = 4 := by omega
  subst h4
  cases h2 with
  | refl => omega
  | step h5 _ => have := r_2.1 h5; omega
theorem cycle_2 {l : List Int} (h : cycIs (EdR es2) n2 (outsE n2 es2) l) : l = [] := cycIs_same h (.inl ⟨start_2, rfl⟩)
end Go.Proofs.Ythgkloapnihpaaa

/- The chapter's examples hold: first, by a contract. -/
namespace Go.Proofs.Ythgkloapnihpaaa
open Go.RowKit Go.Maps Go.WideMaps Go.WideElems Go.ChangeShapes Go.WideShapes

theorem TwoGr.at0 {B0 g c : Nat} {N : List Int} {E : List Ed} {a a' : Option Addr} {W : World} (h : TwoGr B0 g c N E a a' W) : ∃ Z B, GrAt Z B g c N E W := by
  obtain ⟨Z, B, -, hg, -⟩ := h.gr
  exact ⟨Z, B, hg⟩
theorem made_1 (W : World) (b1 b2 : Nat) (h1 : SlE W (some ⟨b1, 0, none⟩) es1) (h2 : SlI W (some ⟨b2, 0, none⟩) [7]) :
    Calls Try.prog 23 #[.slice (some ⟨b1, 0, none⟩) 4 4, .slice (some ⟨b2, 0, none⟩) 1 1] W fun e w' => ∃ g c a k a' k', e = .returned (.tuple #[.pointer (some ⟨g, 0, none⟩), gval a 4 k a' 4 k']) ∧ Hid (c ≤ 100000 ∧ (∃ Z B, GrAt Z B g c n1 g1 w') ∧ Below W.heap.size W w') := by
  have h := made_any (some ⟨b1, 0, none⟩) 4 es1 (some ⟨b2, 0, none⟩) 1 [7] (by decide) (by decide) (by decide) (by decide) W h1 h2
  refine h.mono ?_
  rintro e w' ⟨g, c, a, k, a', k', rfl, K⟩
  obtain ⟨k1, k2, k3⟩ := K.out
  rw [nodes_1, edges_1] at k2
  exact ⟨g, c, a, k, a', k', by rw [nodes_1, edges_1]; rfl, by omega, k2.at0, k3⟩
theorem made_2 (W : World) (b1 b2 : Nat) (h1 : SlE W (some ⟨b1, 0, none⟩) es2) (h2 : SlI W (some ⟨b2, 0, none⟩) [1]) :
    Calls Try.prog 23 #[.slice (some ⟨b1, 0, none⟩) 2 2, .slice (some ⟨b2, 0, none⟩) 1 1] W fun e w' => ∃ g c a k a' k', e = .returned (.tuple #[.pointer (some ⟨g, 0, none⟩), gval a 4 k a' 2 k']) ∧ Hid (c ≤ 100000 ∧ (∃ Z B, GrAt Z B g c n2 es2 w') ∧ Below W.heap.size W w') := by
  have h := made_any (some ⟨b1, 0, none⟩) 2 es2 (some ⟨b2, 0, none⟩) 1 [1] (by decide) (by decide) (by decide) (by decide) W h1 h2
  refine h.mono ?_
  rintro e w' ⟨g, c, a, k, a', k', rfl, K⟩
  obtain ⟨k1, k2, k3⟩ := K.out
  rw [nodes_2, edges_2] at k2
  exact ⟨g, c, a, k, a', k', by rw [nodes_2, edges_2]; rfl, by omega, k2.at0, k3⟩
theorem sle_1 {W : World} {b : Nat} {t : TypeId} (h : W.heap[b]? = some (.cells #[iv 1, iv 2, iv 1, iv 2, iv 3, iv 1, iv 3, iv 2, iv 1, iv 3, iv 1, iv 2] t)) : SlE W (some ⟨b, 0, none⟩) es1 := by
  have hb := (Array.getElem?_eq_some_iff.1 h).1
  refine .inr ⟨b, 0, rfl, fun _ => hb, fun k p hk => ?_⟩
  match k, hk with
  | 0, hk => cases hk; exact ⟨cell_of_row _ _ 0 _ _ _ h, cell_of_row _ _ 1 _ _ _ h, cell_of_row _ _ 2 _ _ _ h⟩
  | 1, hk => cases hk; exact ⟨cell_of_row _ _ 3 _ _ _ h, cell_of_row _ _ 4 _ _ _ h, cell_of_row _ _ 5 _ _ _ h⟩
  | 2, hk => cases hk; exact ⟨cell_of_row _ _ 6 _ _ _ h, cell_of_row _ _ 7 _ _ _ h, cell_of_row _ _ 8 _ _ _ h⟩
  | 3, hk => cases hk; exact ⟨cell_of_row _ _ 9 _ _ _ h, cell_of_row _ _ 10 _ _ _ h, cell_of_row _ _ 11 _ _ _ h⟩
  | k + 4, hk => simp at hk
theorem sle_2 {W : World} {b : Nat} {t : TypeId} (h : W.heap[b]? = some (.cells #[iv 5, iv 4, iv 1, iv 6, iv 4, iv 1] t)) : SlE W (some ⟨b, 0, none⟩) es2 := by
  have hb := (Array.getElem?_eq_some_iff.1 h).1
  refine .inr ⟨b, 0, rfl, fun _ => hb, fun k p hk => ?_⟩
  match k, hk with
  | 0, hk => cases hk; exact ⟨cell_of_row _ _ 0 _ _ _ h, cell_of_row _ _ 1 _ _ _ h, cell_of_row _ _ 2 _ _ _ h⟩
  | 1, hk => cases hk; exact ⟨cell_of_row _ _ 3 _ _ _ h, cell_of_row _ _ 4 _ _ _ h, cell_of_row _ _ 5 _ _ _ h⟩
  | k + 2, hk => simp at hk
theorem sli_1 {W : World} {b : Nat} {x : Int} {t : TypeId} (h : W.heap[b]? = some (.cells #[iv x] t)) : SlI W (some ⟨b, 0, none⟩) [x] := by
  have hb := (Array.getElem?_eq_some_iff.1 h).1
  refine .inr ⟨b, 0, rfl, fun _ => hb, fun k p hk => ?_⟩
  match k, hk with
  | 0, hk => cases hk; exact cell_of_row _ _ 0 _ _ _ h
  | k + 1, hk => simp at hk
theorem sli_3 {W : World} {b : Nat} {x y z : Int} {t : TypeId} (h : W.heap[b]? = some (.cells #[iv x, iv y, iv z] t)) : SlI W (some ⟨b, 0, none⟩) [x, y, z] := by
  have hb := (Array.getElem?_eq_some_iff.1 h).1
  refine .inr ⟨b, 0, rfl, fun _ => hb, fun k p hk => ?_⟩
  match k, hk with
  | 0, hk => cases hk; exact cell_of_row _ _ 0 _ _ _ h
  | 1, hk => cases hk; exact cell_of_row _ _ 1 _ _ _ h
  | 2, hk => cases hk; exact cell_of_row _ _ 2 _ _ _ h
  | k + 3, hk => simp at hk
theorem sli_4 {W : World} {b : Nat} {x y z u : Int} {t : TypeId} (h : W.heap[b]? = some (.cells #[iv x, iv y, iv z, iv u] t)) : SlI W (some ⟨b, 0, none⟩) [x, y, z, u] := by
  have hb := (Array.getElem?_eq_some_iff.1 h).1
  refine .inr ⟨b, 0, rfl, fun _ => hb, fun k p hk => ?_⟩
  match k, hk with
  | 0, hk => cases hk; exact cell_of_row _ _ 0 _ _ _ h
  | 1, hk => cases hk; exact cell_of_row _ _ 1 _ _ _ h
  | 2, hk => cases hk; exact cell_of_row _ _ 2 _ _ _ h
  | 3, hk => cases hk; exact cell_of_row _ _ 3 _ _ _ h
  | k + 4, hk => simp at hk
/-- A box made. -/
theorem obj_any (w : World) (o : Obj) : ∃ W, w.alloc o = W ∧ Hid (Below w.heap.size w W) ∧ Hid (w.heap.size < W.heap.size) ∧ Hid (W.heap[w.heap.size]? = some o) :=
  ⟨_, rfl, (Below.refl _ _).alloc (Nat.le_refl _) _, by show _ < _; simp, World.alloc_heap_new w _⟩
theorem top_1 {g c : Nat} (hc : c ≤ 100000) (W : World) (h : ∃ Z B, GrAt Z B g c n1 g1 W) : Calls Try.prog 28 #[.pointer (some ⟨g, 0, none⟩)] W fun e w' => ∃ v, e = .returned (.tuple #[v, .bool false]) ∧ Hid (Below W.heap.size W w') := by
  obtain ⟨Z, B, h⟩ := h
  refine (topo_p hc (by decide) W h).mono ?_
  rintro e w' ⟨v, O, ok, rfl, K⟩
  obtain ⟨k1, k2, k3⟩ := K.out
  rw [topo_1] at k2
  rcases k2 with ⟨-, -, rfl⟩ | ⟨h2, -⟩
  · exact ⟨v, rfl, k3⟩
  · cases h2
theorem top_2 {g c : Nat} (hc : c ≤ 100000) (W : World) (h : ∃ Z B, GrAt Z B g c n2 es2 W) : Calls Try.prog 28 #[.pointer (some ⟨g, 0, none⟩)] W fun e w' => ∃ p c, e = .returned (.tuple #[.slice p 4 c, .bool true]) ∧ Hid (SlI w' p [1, 5, 6, 4] ∧ Below W.heap.size W w') := by
  obtain ⟨Z, B, h⟩ := h
  refine (topo_p hc (by decide) W h).mono ?_
  rintro e w' ⟨v, O, ok, rfl, K⟩
  obtain ⟨k1, k2, k3⟩ := K.out
  rw [topo_2] at k2
  rcases k2 with ⟨h2, -, -⟩ | ⟨h2, rfl⟩
  · cases h2
  · cases h2
    obtain ⟨p, c, rfl, hs⟩ := k1.sl
    exact ⟨p, c, rfl, hs, k3⟩
theorem cyc_1 {g c : Nat} (hc : c ≤ 100000) (W : World) (h : ∃ Z B, GrAt Z B g c n1 g1 W) : Calls Try.prog 26 #[.pointer (some ⟨g, 0, none⟩)] W fun e w' => ∃ p c, e = .returned (.slice p 3 c) ∧ Hid (SlI w' p [1, 2, 3] ∧ Below W.heap.size W w') := by
  obtain ⟨Z, B, h⟩ := h
  refine (cycle_p hc (by decide) W h).mono ?_
  rintro e w' ⟨v, l, rfl, K⟩
  obtain ⟨k1, k2, k3⟩ := K.out
  have e := cycIs_same k2 cycle_1
  subst e
  obtain ⟨p, c, rfl, hs⟩ := k1.sl
  exact ⟨p, c, rfl, hs, k3⟩
theorem cyc_2 {g c : Nat} (hc : c ≤ 100000) (W : World) (h : ∃ Z B, GrAt Z B g c n2 es2 W) : Calls Try.prog 26 #[.pointer (some ⟨g, 0, none⟩)] W fun e w' => ∃ p c, e = .returned (.slice p 0 c) ∧ Hid (Below W.heap.size W w') := by
  obtain ⟨Z, B, h⟩ := h
  refine (cycle_p hc (by decide) W h).mono ?_
  rintro e w' ⟨v, l, rfl, K⟩
  obtain ⟨k1, k2, k3⟩ := K.out
  have e := cycle_2 k2
  subst e
  obtain ⟨p, c, rfl, -⟩ := k1.sl
  exact ⟨p, c, rfl, k3⟩
theorem par_1 {g c : Nat} (hc : c ≤ 100000) (W : World) (h : ∃ Z B, GrAt Z B g c n1 g1 W) : Calls Try.prog 30 #[.pointer (some ⟨g, 0, none⟩)] W fun e w' => ∃ p c, e = .returned (.slice p 2 c) ∧ Hid (Below W.heap.size W w') := by
  obtain ⟨Z, B, h⟩ := h
  refine (parts_p hc (by decide) W h).mono ?_
  rintro e w' ⟨v, ps, rfl, K⟩
  obtain ⟨k1, k2, k3⟩ := K.out
  have hl : ps.length = 2 := by
    have := congrArg List.length k2
    rw [List.length_map, parts_1] at this
    exact this
  obtain ⟨p, c, rfl⟩ := row_sl k1.row
  rw [hl]
  exact ⟨p, c, rfl, k3⟩
theorem gat_below {g c : Nat} {N : List Int} {E : List Ed} {W W' : World} (h : ∃ Z B, GrAt Z B g c N E W) (hb : Below W.heap.size W W') : ∃ Z B, GrAt Z B g c N E W' := by
  obtain ⟨Z, B, h⟩ := h
  exact ⟨Z, B, h.below hb⟩
set_option maxHeartbeats 16000000 in
set_option maxRecDepth 100000 in
theorem first_any (w : World) : Calls Try.prog 8 #[] w fun e w' => e = .returned (.bool true) ∧ Hid (Below w.heap.size w w') := by
  obtain ⟨W1, hW1, Hb1, hs1, Hx1⟩ := obj_any w (.cells #[iv 1, iv 2, iv 1, iv 2, iv 3, iv 1, iv 3, iv 2, iv 1, iv 3, iv 1, iv 2] 31)
  obtain ⟨W2, hW2, Hb2, hs2, Hx2⟩ := obj_any W1 (.cells #[iv 7] 3)
  have HM1 := Lib.hid (made_1 W2 w.heap.size W1.heap.size (sle_1 ((Hb2.out.block _ hs1.out).trans Hx1.out)) (sli_1 Hx2.out))
  have HB2 : Hid (Below w.heap.size w W2) := Hb1.out.trans (Hb2.out.mono Hb1.out.size)
  clear Hb1 Hb2 hs1 hs2 Hx1 Hx2
  go_enter Try.func8, Try.ntmps8
  go_wp2_with (first
    | (go_at_call 23; first
        | ((with_reducible refine HM1.out.mono ?_); rintro e w3 ⟨g, c, a, k, a', k', rfl, K3⟩
           obtain ⟨W4, hW4, Hb4, hs4, Hx4⟩ := obj_any w3 (.cells #[.slice a 4 k, .slice a' 4 k'] 29)
           obtain ⟨W5, hW5, Hb5, hs5, Hx5⟩ := obj_any W4 (.cells #[iv 5, iv 4, iv 1, iv 6, iv 4, iv 1] 31)
           obtain ⟨W6, hW6, Hb6, hs6, Hx6⟩ := obj_any W5 (.cells #[iv 1] 3)
           have HM2 := Lib.hid (made_2 W6 W4.heap.size W5.heap.size (sle_2 ((Hb6.out.block _ hs5.out).trans Hx5.out)) (sli_1 Hx6.out))
           have HB6 : Hid (Below w3.heap.size w3 W6) := (Hb4.out.trans (Hb5.out.mono Hb4.out.size)).trans (Hb6.out.mono (Nat.le_trans Hb4.out.size Hb5.out.size))
           clear Hb4 Hb5 Hb6 hs4 hs5 hs6 Hx4 Hx5 Hx6)
        | ((with_reducible refine HM2.out.mono ?_); rintro e w7 ⟨g2, c2, a2, k2, a3, k3, rfl, K7⟩
           obtain ⟨W8, hW8, Hb8, hs8, Hx8⟩ := obj_any w7 (.cells #[.slice a2 4 k2, .slice a3 2 k3] 29)
           have HB8 : Hid (Below w3.heap.size w3 W8) := (HB6.out.trans (K7.out.2.2.mono HB6.out.size)).trans (Hb8.out.mono (Nat.le_trans HB6.out.size K7.out.2.2.size))
           have HG1 : Hid (∃ Z B, GrAt Z B g c n1 g1 W8) := by
             obtain ⟨Z, B, h⟩ := K3.out.2.1
             exact ⟨Z, B, h.below HB8.out⟩
           have HG2 : Hid (∃ Z B, GrAt Z B g2 c2 n2 es2 W8) := by
             obtain ⟨Z, B, h⟩ := K7.out.2.1
             exact ⟨Z, B, h.below Hb8.out⟩
           have HB9 : Hid (Below w.heap.size w W8) := (HB2.out.trans (K3.out.2.2.mono HB2.out.size)).trans (HB8.out.mono (Nat.le_trans HB2.out.size K3.out.2.2.size))
           have hc1 : c ≤ 100000 := K3.out.1
           have hc2 : c2 ≤ 100000 := K7.out.1
           have HT1 := Lib.hid (top_1 hc1 W8 HG1.out)
           clear Hb8 hs8 Hx8))
    | (go_at_call 28; first
        | ((with_reducible refine HT1.out.mono ?_); rintro e w9 ⟨v9, rfl, K9⟩
           have HT2 := Lib.hid (top_2 hc2 w9 (gat_below HG2.out K9.out)))
        | ((with_reducible refine HT2.out.mono ?_); rintro e w10 ⟨p10, c10, rfl, K10⟩
           have HB10 : Hid (Below W8.heap.size W8 w10) := K9.out.trans (K10.out.2.mono K9.out.size)
           have HC1 := Lib.hid (cyc_1 hc1 w10 (gat_below HG1.out HB10.out))))
    | (go_at_call 26; first
        | ((with_reducible refine HC1.out.mono ?_); rintro e w11 ⟨p11, c11, rfl, K11⟩
           obtain ⟨W12, hW12, Hb12, hs12, Hx12⟩ := obj_any w11 (.cells #[iv 1, iv 2, iv 3] 3)
           have HS1 : Hid (Calls Try.prog 17 #[.slice p11 3 c11, .slice (some ⟨w11.heap.size, 0, none⟩) 3 3] W12 fun e w' => e = .returned (.bool true) ∧ Hid (Below W12.heap.size W12 w')) := same_ints p11 _ c11 3 [1, 2, 3] (by decide) W12 (K11.out.1.gro Hb12.out (Nat.le_refl _)) (sli_3 Hx12.out)
           have HB12 : Hid (Below w10.heap.size w10 W12) := K11.out.2.trans (Hb12.out.mono K11.out.2.size)
           clear Hb12 hs12 Hx12)
        | ((with_reducible refine HC2.out.mono ?_); rintro e w17 ⟨p17, c17, rfl, K17⟩))
    | (go_at_call 17; first
        | ((with_reducible refine HS1.out.mono ?_); rintro e w13 ⟨rfl, K13⟩
           obtain ⟨W14, hW14, Hb14, hs14, Hx14⟩ := obj_any w13 (.cells #[iv 1, iv 5, iv 6, iv 4] 3)
           have HB14 : Hid (Below w10.heap.size w10 W14) := (HB12.out.trans (K13.out.mono HB12.out.size)).trans (Hb14.out.mono (Nat.le_trans HB12.out.size K13.out.size))
           have HS2 : Hid (Calls Try.prog 17 #[.slice p10 4 c10, .slice (some ⟨w13.heap.size, 0, none⟩) 4 4] W14 fun e w' => e = .returned (.bool true) ∧ Hid (Below W14.heap.size W14 w')) := same_ints p10 _ c10 4 [1, 5, 6, 4] (by decide) W14 (K10.out.1.gro HB14.out (Nat.le_refl _)) (sli_4 Hx14.out)
           clear Hb14 hs14 Hx14)
        | ((with_reducible refine HS2.out.mono ?_); rintro e w15 ⟨rfl, K15⟩
           have HB15 : Hid (Below W8.heap.size W8 w15) := HB10.out.trans ((HB14.out.trans (K15.out.mono HB14.out.size)).mono HB10.out.size)
           have HP1 := Lib.hid (par_1 hc1 w15 (gat_below HG1.out HB15.out))))
    | (go_at_call 30; (with_reducible refine HP1.out.mono ?_); rintro e w16 ⟨p16, c16, rfl, K16⟩
       have HC2 := Lib.hid (cyc_2 hc2 w16 (gat_below HG2.out (HB15.out.trans (K16.out.mono HB15.out.size)))))
    | go_in)
  go_ret
  have h1 := HB9.out.trans (HB15.out.mono HB9.out.size)
  have h2 := h1.trans (K16.out.mono h1.size)
  exact ⟨rfl, h2.trans (K17.out.mono h2.size)⟩
end Go.Proofs.Ythgkloapnihpaaa

/- Where a node stands in a list; is a node held: contracts. -/
namespace Go.Proofs.Ythgkloapnihpaaa
open Go.RowKit Go.Maps Go.WideMaps Go.WideElems Go.ChangeShapes Go.WideShapes

/-- Where a number stands first. -/
def placeZ (l : List Int) (x : Int) : Int := if x ∈ l then (l.idxOf x : Int) else -1
theorem idx_at : ∀ {l : List Int} {q : Nat} {x : Int}, q < l.length → l.getD q 0 = x → (∀ j, j < q → l.getD j 0 ≠ x) → x ∈ l ∧ l.idxOf x = q
  | [], q, x, h, _, _ => by simp at h
  | a :: l, 0, x, _, h, _ => by
    have h1 : a = x := h
    subst h1
    simp
  | a :: l, q + 1, x, h, h2, h3 => by
    have ha : a ≠ x := h3 0 (by omega)
    obtain ⟨h4, h5⟩ := idx_at (l := l) (q := q) (x := x) (by simpa using h) (by simpa using h2) (fun j hj => by have := h3 (j + 1) (by omega); simpa using this)
    refine ⟨by simp [h4], ?_⟩
    have hb : (a == x) = false := by simpa using ha
    rw [List.idxOf_cons, hb, h5]
    rfl
theorem placeZ_at {l : List Int} {q : Nat} {x : Int} (h : q < l.length) (h2 : l.getD q 0 = x) (h3 : ∀ j, j < q → l.getD j 0 ≠ x) : placeZ l x = (q : Int) := by
  obtain ⟨h4, h5⟩ := idx_at h h2 h3
  rw [placeZ, if_pos h4, h5]
theorem placeZ_no {l : List Int} {x : Int} (h : ∀ j, j < l.length → l.getD j 0 ≠ x) : placeZ l x = -1 := by
  rw [placeZ, if_neg fun hx => ?_]
  obtain ⟨j, hj, rfl⟩ := List.mem_iff_getElem.1 hx
  exact h j hj (by rw [List.getD_eq_getElem?_getD, List.getElem?_eq_getElem hj]; rfl)
set_option maxHeartbeats 4000000 in
set_option maxRecDepth 100000 in
theorem place_any (p : Option Addr) (c : Nat) (l : List Int) (x : Int) (hl : l.length ≤ 100000) (w : World) (h : SlI w p l) :
    Calls Try.prog 33 #[.slice p l.length c, iv x] w fun e w' => e = .returned (iv (placeZ l x)) ∧ Hid (Below w.heap.size w w') := by
  obtain ⟨n, hn⟩ : ∃ n, l.length = n := ⟨_, rfl⟩
  have Hn := Lib.hid hn
  have H := Lib.hid h
  rw [hn]
  rw [hn] at hl
  clear h hn
  go_enter Try.func33, Try.ntmps33
  go_wp2
  try go_frame
  go_loopw [5] (fun i wr => ∃ q : Nat, q ≤ n ∧ i = .int .i64 ((q : Nat) : Int) ∧ Hid (Below w.heap.size w wr ∧ ∀ j, j < q → l.getD j 0 ≠ x)) (fun i _ => n - (intOf i).toNat)
  case atStart => exact ⟨0, Nat.zero_le _, rfl, Below.refl _ _, fun j hj => absurd hj (by omega)⟩
  case round =>
    obtain ⟨q, hq, rfl, HR⟩ := hrel
    by_cases hlt : q < n
    · have hqo : q < l.length := by rw [Hn.out]; exact hlt
      obtain ⟨b, off, rfl, c0⟩ := (H.out.gro HR.out.1 (Nat.le_refl _)).at hqo
      obtain ⟨y, hy⟩ : ∃ y, l.getD q 0 = y := ⟨_, rfl⟩
      rw [hy] at c0
      have Hy := Lib.hid hy
      have Hqo := Lib.hid hqo
      have hltI : (q : Int) < (n : Int) := by omega
      clear hy hqo
      by_cases hyx : y = x
      · have HP : Hid (placeZ l x = (q : Int)) := placeZ_at Hqo.out (Hy.out.trans hyx) HR.out.2
        have e1 : (y == x) = true := by simpa using hyx
        clear hyx
        go_wp2
        go_ret
        exact ⟨by rw [HP.out]; rfl, HR.out.1⟩
      · have e1 : (y == x) = false := by simpa using hyx
        have Hyx := Lib.hid hyx
        clear hyx
        go_wp2
        go_roundw
        case rel => exact ⟨q + 1, hlt, by go_num, HR.out.1, fun j hj => by
          rcases Nat.lt_succ_iff_lt_or_eq.1 hj with h1 | h1
          · exact HR.out.2 j h1
          · rw [h1, Hy.out]; exact Hyx.out⟩
        case measure => simp [intOf]; omega
    · have hqn : q = n := by omega
      subst hqn
      have HP : Hid (placeZ l x = -1) := placeZ_no fun j hj => HR.out.2 j (by rw [← Hn.out]; exact hj)
      go_wp2
      go_ret
      exact ⟨by rw [HP.out]; rfl, HR.out.1⟩
theorem kinds_some {E : List Ed} {a b : Int} : 0 < (kindsE E a b).length ↔ EdR E a b := by
  rw [List.length_pos_iff_exists_mem]
  unfold kindsE EdR
  constructor
  · rintro ⟨k, h⟩
    obtain ⟨⟨a', b', k'⟩, h1, h2⟩ := List.mem_map.1 h
    have h3 := (List.mem_filter.1 h1)
    have h4 : a' = a ∧ b' = b := by simpa using h3.2
    obtain ⟨rfl, rfl⟩ := h4
    exact ⟨k', h3.1⟩
  · rintro ⟨k, h⟩
    exact ⟨k, List.mem_map.2 ⟨(a, b, k), List.mem_filter.2 ⟨h, by simp⟩, rfl⟩⟩
set_option maxHeartbeats 4000000 in
set_option maxRecDepth 100000 in
theorem held_any {Z : Nat → Prop} {B g c : Nat} {N : List Int} {E : List Ed} (p : Option Addr) (cl : Nat) (l : List Int) (k i : Nat) (hl : l.length ≤ 100000) (hf : ∀ x ∈ l, fit64 x) (hE : E.length ≤ 100000) (hi : i < l.length) (j0 : Nat) (hk : k ≤ j0) (hj : j0 < i) (hR : EdR E (l.getD j0 0) (l.getD i 0)) (w : World) (h : SlI w p l) (hg : GrAt Z B g c N E w) :
    Calls Try.prog 34 #[.pointer (some ⟨g, 0, none⟩), .slice p l.length cl, .int .i64 (k : Int), .int .i64 (i : Int)] w fun e w' => e = .returned (.bool true) ∧ Hid (Below w.heap.size w w') := by
  obtain ⟨n, hn⟩ : ∃ n, l.length = n := ⟨_, rfl⟩
  have Hn := Lib.hid hn
  have H := Lib.hid h
  have Hg := Lib.hid hg
  have Hf := Lib.hid hf
  have HE := Lib.hid hE
  have HR0 := Lib.hid hR
  rw [hn] at hl hi ⊢
  clear h hg hf hE hR hn
  go_enter Try.func34, Try.ntmps34
  go_wp2
  try go_frame
  go_loopw [9] (fun j wr => ∃ q : Nat, k ≤ q ∧ q ≤ j0 ∧ j = .int .i64 ((q : Nat) : Int) ∧ Hid (Below w.heap.size w wr)) (fun j _ => i - (intOf j).toNat)
  case atStart => exact ⟨k, Nat.le_refl _, hk, rfl, Below.refl _ _⟩
  case round =>
    obtain ⟨q, hq1, hq2, rfl, HR⟩ := hrel
    obtain ⟨wa, hwa⟩ : ∃ wa, wa = wr := ⟨_, rfl⟩
    subst hwa
    have hqo : q < l.length := by rw [Hn.out]; omega
    have hio : i < l.length := by rw [Hn.out]; omega
    obtain ⟨b, off, rfl, c0⟩ := (H.out.gro HR.out (Nat.le_refl _)).at hqo
    have c1 := (H.out.gro HR.out (Nat.le_refl _)).cell1 hio rfl
    have HSall : Hid (∀ W, Below w.heap.size w W → W.cell? ⟨b, off + q, none⟩ = some (iv (l.getD q 0)) ∧ W.cell? ⟨b, off + i, none⟩ = some (iv (l.getD i 0))) := fun W hb => ⟨(H.out.gro hb (Nat.le_refl _)).cell1 hqo rfl, (H.out.gro hb (Nat.le_refl _)).cell1 hio rfl⟩
    have hfy := Hf.out _ (getD_in (d := 0) hqo)
    have hfz := Hf.out _ (getD_in (d := 0) hio)
    have Hlast : Hid (¬ EdR E (l.getD q 0) (l.getD i 0) → q < j0) := fun h => by
      rcases Nat.lt_or_eq_of_le hq2 with h1 | h1
      · exact h1
      · subst h1; exact absurd HR0.out h
    generalize l.getD q 0 = y at *
    generalize l.getD i 0 = z at *
    have hqi : (q : Int) < (i : Int) := by omega
    have hqn : (q : Int) < (n : Int) := by omega
    have hin : (i : Int) < (n : Int) := by omega
    have hq0 : (0 : Int) ≤ (q : Int) := by omega
    have hi0 : (0 : Int) ≤ (i : Int) := by omega
    have HK := fun (W : World) (hb : Below wa.heap.size wa W) => kinds_any y z hfy hfz HE.out W (Hg.out.below (HR.out.trans (hb.mono HR.out.size)))
    have HKd := Lib.hid HK
    clear HK hqo hio hfy hfz
    by_cases hr : EdR E y z
    · have hkl := kinds_some.2 hr
      obtain ⟨m, hm⟩ : ∃ m, (kindsE E y z).length = m := ⟨_, rfl⟩
      have Hm := Lib.hid hm
      have hm0 : (0 : Int) < (m : Int) := by omega
      clear hkl hm hr
      go_wp2
      go_region_held3 (fun w' => w'.cell? ⟨b, off + q, none⟩ = some (iv y) ∧ w'.cell? ⟨b, off + i, none⟩ = some (iv z)) (first | (with_reducible exact HSall.out _ HB3.out) | go_keep)
        (first | (go_at_call 18; refine (HKd.out _ (Below.refl _ wa).drew).mono ?_; rintro e w3 ⟨v, rfl, K3⟩
                  obtain ⟨p3, c3, rfl⟩ := row_sl K3.out.1
                  rw [Hm.out]
                  have HB3 : Hid (Below w.heap.size w w3) := HR.out.trans (((Below.refl _ wa).drew.trans K3.out.2).mono HR.out.size)))
      go_wp2
      go_ret
      exact ⟨rfl, HB3.out⟩
    · have hkl : (kindsE E y z).length = 0 := by
        rcases Nat.eq_zero_or_pos (kindsE E y z).length with h | h
        · exact h
        · exact absurd (kinds_some.1 h) hr
      have Hm := Lib.hid hkl
      have hq3 := Hlast.out hr
      clear hkl hr
      go_wp2
      go_region_held3 (fun w' => w'.cell? ⟨b, off + q, none⟩ = some (iv y) ∧ w'.cell? ⟨b, off + i, none⟩ = some (iv z)) (first | (with_reducible exact HSall.out _ HB3.out) | go_keep)
        (first | (go_at_call 18; refine (HKd.out _ (Below.refl _ wa).drew).mono ?_; rintro e w3 ⟨v, rfl, K3⟩
                  obtain ⟨p3, c3, rfl⟩ := row_sl K3.out.1
                  rw [Hm.out]
                  have HB3 : Hid (Below w.heap.size w w3) := HR.out.trans (((Below.refl _ wa).drew.trans K3.out.2).mono HR.out.size)))
      go_wp2
      go_roundw
      case rel => exact ⟨q + 1, by omega, hq3, by go_num, HB3.out⟩
      case measure => simp [intOf]; omega
end Go.Proofs.Ythgkloapnihpaaa

/- What an order tells, and that there is one where nothing goes round (plain). -/
namespace Go.Proofs.Ythgkloapnihpaaa
open Go.RowKit Go.Maps Go.WideMaps Go.WideElems Go.ChangeShapes Go.WideShapes
open Classical

section
variable {N : List Int} {E : List Ed}
theorem topo_steps : ∀ (k : Nat) (O l : List Int), topoZ N E k O = some l → l.length = O.length + k ∧ l.take O.length = O ∧ ∀ i, O.length ≤ i → i < l.length → ∃ rest, freeN N E (l.take i) = l.getD i 0 :: rest
  | 0, O, l, h => by
    have h1 : O = l := by simpa [topoZ] using h
    subst h1
    exact ⟨rfl, List.take_length, fun i h1 h2 => by omega⟩
  | k + 1, O, l, h => by
    unfold topoZ at h
    split at h
    · cases h
    · rename_i n rest hf
      obtain ⟨h1, h2, h3⟩ := topo_steps k (O ++ [n]) l h
      rw [List.length_append, List.length_singleton] at h1 h2 h3
      have ht : l.take O.length = O := by
        have h4 := congrArg (List.take O.length) h2
        rw [List.take_take, Nat.min_eq_left (by omega)] at h4
        rw [h4]
        simp
      have hg : l.getD O.length 0 = n := by
        have h4 := congrArg (fun z => z[O.length]?) h2
        simp only [List.getElem?_take] at h4
        rw [if_pos (by omega)] at h4
        rw [List.getD_eq_getElem?_getD, h4]
        simp
      refine ⟨by omega, ht, fun i hi hlt => ?_⟩
      by_cases e : i = O.length
      · subst e
        rw [ht, hg]
        exact ⟨rest, hf⟩
      · exact h3 i (by omega) hlt
/-- An order of all. -/
structure Order (N : List Int) (E : List Ed) (l : List Int) : Prop where
  len : l.length = N.length
  free : ∀ i, i < l.length → ∃ rest, freeN N E (l.take i) = l.getD i 0 :: rest
theorem order_of {l : List Int} (h : topoZ N E N.length [] = some l) : Order N E l := by
  obtain ⟨h1, -, h3⟩ := topo_steps _ _ _ h
  exact ⟨by simpa using h1, fun i hi => h3 i (Nat.zero_le _) hi⟩
variable {l : List Int}
theorem Order.at (h : Order N E l) {i : Nat} (hi : i < l.length) : l.getD i 0 ∈ N ∧ l.getD i 0 ∉ l.take i ∧ holdN N E (l.take i) (l.getD i 0) = 0 := by
  obtain ⟨rest, hr⟩ := h.free i hi
  refine mem_freeN.1 ?_
  rw [hr]
  simp
theorem mem_take_getD {l : List Int} {i j : Nat} (hj : j < i) (hl : j < l.length) : l.getD j 0 ∈ l.take i := by
  rw [List.getD_eq_getElem?_getD, List.getElem?_eq_getElem hl]
  exact List.mem_take_iff_getElem.2 ⟨j, by omega, rfl⟩
theorem in_take {l : List Int} {i : Nat} {x : Int} (h : x ∈ l.take i) : ∃ j, j < i ∧ j < l.length ∧ l.getD j 0 = x := by
  obtain ⟨j, hj, rfl⟩ := List.mem_take_iff_getElem.1 h
  exact ⟨j, by omega, by omega, by rw [List.getD_eq_getElem?_getD, List.getElem?_eq_getElem (by omega)]; rfl⟩
theorem Order.once (h : Order N E l) : l.Nodup := by
  refine List.pairwise_iff_getElem.2 fun i j hi hj hij e => ?_
  have h1 := (h.at hj).2.1
  have h2 := mem_take_getD hij hi
  rw [List.getD_eq_getElem?_getD, List.getElem?_eq_getElem hj] at h1
  rw [List.getD_eq_getElem?_getD, List.getElem?_eq_getElem hi] at h2
  exact h1 (e ▸ h2)
theorem Order.sub (h : Order N E l) : ∀ x ∈ l, x ∈ N := fun x hx => by
  obtain ⟨j, hj, rfl⟩ := List.mem_iff_getElem.1 hx
  have := (h.at hj).1
  rwa [List.getD_eq_getElem?_getD, List.getElem?_eq_getElem hj] at this
theorem Order.all (h : Order N E l) : ∀ x ∈ N, x ∈ l := full_of_len h.once h.sub (by rw [h.len]; exact Nat.le_refl _)
theorem idx_take : ∀ {l : List Int} {i : Nat} {x : Int}, x ∈ l.take i → l.idxOf x < i
  | [], i, x, h => by simp at h
  | a :: l, 0, x, h => by simp at h
  | a :: l, i + 1, x, h => by
    rw [List.idxOf_cons]
    by_cases e : (a == x) = true
    · rw [e]; simp
    · have e1 : (a == x) = false := by simpa using e
      rw [e1]
      have h1 : x ∈ l.take i := by
        rw [List.take_succ_cons, List.mem_cons] at h
        rcases h with h | h
        · subst h; simp at e
        · exact h
      have := idx_take h1
      simp
      omega
theorem Order.edge (hE : EndsIn N E) (h : Order N E l) {a b : Int} (hab : EdR E a b) : 0 ≤ placeZ l a ∧ placeZ l a < placeZ l b := by
  obtain ⟨ha, hb⟩ := hE a b hab
  have hbl := h.all b hb
  have hi : l.idxOf b < l.length := List.idxOf_lt_length_iff.2 hbl
  have h1 := (h.at hi).2.2
  have hg : l.getD (l.idxOf b) 0 = b := by
    rw [List.getD_eq_getElem?_getD, List.getElem?_eq_getElem hi]
    simp
  rw [hg] at h1
  have h2 := idx_take ((holdN_zero hE).1 h1 a hab)
  rw [placeZ, placeZ, if_pos (h.all a ha), if_pos hbl]
  omega
theorem Order.early (hN : RiseI N) (hE : EndsIn N E) (h : Order N E l) {k i : Nat} (hk : k < i) (hi : i < l.length) (hlt : l.getD i 0 < l.getD k 0) : ∃ j, k ≤ j ∧ j < i ∧ EdR E (l.getD j 0) (l.getD i 0) := by
  obtain ⟨h1, h2, h3⟩ := h.at hi
  obtain ⟨rest, hr⟩ := h.free k (by omega)
  have hnf : l.getD i 0 ∉ freeN N E (l.take k) := fun hm => by
    have h4 := (head_least (l := freeN N E (l.take k)) (hN.filter _) (x := l.getD k 0) (by rw [hr]; rfl)).2 _ hm
    omega
  have hnk : l.getD i 0 ∉ l.take k := fun hm => h2 (by
    obtain ⟨j, h4, h5, h6⟩ := in_take hm
    rw [← h6]
    exact mem_take_getD (by omega) h5)
  have hh : holdN N E (l.take k) (l.getD i 0) ≠ 0 := fun e => hnf (mem_freeN.2 ⟨h1, hnk, e⟩)
  have hx : ∃ a, EdR E a (l.getD i 0) ∧ a ∉ l.take k := by
    refine Classical.byContradiction fun hno => hh ((holdN_zero hE).2 fun a ha => ?_)
    exact Classical.byContradiction fun hna => hno ⟨a, ha, hna⟩
  obtain ⟨a, ha, hna⟩ := hx
  obtain ⟨j, h4, h5, rfl⟩ := in_take ((holdN_zero hE).1 h3 a ha)
  exact ⟨j, Nat.le_of_not_lt fun hjk => hna (mem_take_getD hjk h5), h4, ha⟩
theorem Order.none (hE : EndsIn N E) (h : Order N E l) : startZ (EdR E) N = none := by
  have hl : ∀ {a b : Int}, Leads (EdR E) a b → placeZ l a ≤ placeZ l b := fun {a b} hab => by
    induction hab with
    | refl => exact Int.le_refl _
    | step h1 _ ih => have := (h.edge hE h1).2; omega
  refine startZ_no.2 fun y _ hy => ?_
  obtain ⟨c, h1, h2⟩ := hy
  have h3 := (h.edge hE h1).2
  have h4 := hl h2
  omega
theorem filter_fewer {p q : Int → Bool} {a : Int} : ∀ {l : List Int}, (∀ z ∈ l, p z = true → q z = true) → a ∈ l → p a = false → q a = true → (l.filter p).length < (l.filter q).length
  | [], _, h, _, _ => by simp at h
  | b :: l, hpq, h, hp, hq => by
    have hle : (l.filter p).length ≤ (l.filter q).length := by
      have : ∀ {m : List Int}, (∀ z ∈ m, p z = true → q z = true) → (m.filter p).length ≤ (m.filter q).length := fun {m} => by
        induction m with
        | nil => intro _; exact Nat.le_refl _
        | cons c m ih =>
          intro hm
          have h1 := ih fun z hz => hm z (List.mem_cons_of_mem _ hz)
          have h2 := hm c (List.mem_cons_self ..)
          rw [List.filter_cons, List.filter_cons]
          cases hc : p c with
          | false => cases hd : q c <;> simp <;> omega
          | true => rw [h2 hc]; simp; omega
      exact this fun z hz => hpq z (List.mem_cons_of_mem _ hz)
    rw [List.filter_cons, List.filter_cons]
    by_cases e : b = a
    · subst e
      rw [hp, hq]
      simp
      omega
    · have h1 := filter_fewer (l := l) (fun z hz => hpq z (List.mem_cons_of_mem _ hz)) ((List.mem_cons.1 h).resolve_left fun e2 => e e2.symm) hp hq
      have h2 := hpq b (List.mem_cons_self ..)
      cases hc : p b with
      | false => cases hd : q b <;> simp <;> omega
      | true => rw [h2 hc]; simp; omega
/-- Where nothing goes round and nothing is free, all is out. -/
theorem all_out (hE : EndsIn N E) (hno : ∀ y ∈ N, ¬ TCR (EdR E) y y) {O : List Int} (hf : freeN N E O = []) : ∀ x ∈ N, x ∈ O := by
  classical
  have key : ∀ (m : Nat) (x : Int), x ∈ N → (N.filter fun a => decide (TCR (EdR E) a x)).length ≤ m → x ∈ O := by
    intro m
    induction m with
    | zero =>
      intro x hx hm
      refine Classical.byContradiction fun hxO => ?_
      have h1 : x ∉ freeN N E O := by rw [hf]; simp
      have h2 : holdN N E O x ≠ 0 := fun e => h1 (mem_freeN.2 ⟨hx, hxO, e⟩)
      refine h2 ((holdN_zero hE).2 fun a ha => ?_)
      have h3 : a ∈ N.filter fun a => decide (TCR (EdR E) a x) := List.mem_filter.2 ⟨(hE a x ha).1, decide_eq_true ⟨x, ha, .refl _⟩⟩
      have h4 := List.length_pos_of_mem h3
      omega
    | succ m ih =>
      intro x hx hm
      refine Classical.byContradiction fun hxO => ?_
      have h1 : x ∉ freeN N E O := by rw [hf]; simp
      have h2 : holdN N E O x ≠ 0 := fun e => h1 (mem_freeN.2 ⟨hx, hxO, e⟩)
      refine h2 ((holdN_zero hE).2 fun a ha => ih a (hE a x ha).1 ?_)
      have h3 : (N.filter fun z => decide (TCR (EdR E) z a)).length < (N.filter fun z => decide (TCR (EdR E) z x)).length := by
        refine filter_fewer (a := a) (fun z _ hz => ?_) (hE a x ha).1 (decide_eq_false (hno a (hE a x ha).1)) (decide_eq_true ⟨x, ha, .refl _⟩)
        obtain ⟨c, k1, k2⟩ := of_decide_eq_true hz
        exact decide_eq_true ⟨c, k1, k2.trans (.step ha (.refl _))⟩
      omega
  exact fun x hx => key _ x hx (Nat.le_refl _)
theorem topo_stuck : ∀ (k : Nat) (O : List Int), topoZ N E k O = Option.none → ∃ O', freeN N E O' = [] ∧ O'.length < O.length + k
  | 0, O, h => by simp [topoZ] at h
  | k + 1, O, h => by
    unfold topoZ at h
    split at h
    · rename_i hf
      exact ⟨O, hf, by omega⟩
    · rename_i n rest hf
      obtain ⟨O', h1, h2⟩ := topo_stuck k (O ++ [n]) h
      exact ⟨O', h1, by rw [List.length_append, List.length_singleton] at h2; omega⟩
theorem topo_none_start (hN : N.Nodup) (hE : EndsIn N E) (h : topoZ N E N.length [] = Option.none) : startZ (EdR E) N ≠ Option.none := fun hs => by
  obtain ⟨O, h1, h2⟩ := topo_stuck _ _ h
  have h3 := all_out hE (startZ_no.1 hs) h1
  have h4 := len_le hN h3
  simp at h2
  omega
theorem single_iff (hN : RiseI N) (hE : EndsIn N E) : (∀ p ∈ partsOf (EdR E) N, p.length = 1 ∧ kindsE E (p.headD 0) (p.headD 0) = []) ↔ startZ (EdR E) N = Option.none := by
  have h1 := start_parts (R := EdR E) hN hE
  rw [← h1]
  rw [Option.map_eq_none_iff, List.find?_eq_none]
  have hk : ∀ a b, kindsE E a b = [] ↔ ¬ EdR E a b := fun a b => by
    rw [← kinds_some (E := E), ← List.length_eq_zero_iff]
    omega
  constructor
  · intro h p hp e
    obtain ⟨h2, h3⟩ := h p hp
    rcases of_decide_eq_true e with h4 | h4
    · exact (hk _ _).1 h3 h4
    · omega
  · intro h p hp
    have h2 : ¬ loopP (EdR E) p := fun e => h p hp (decide_eq_true e)
    obtain ⟨_, -, -, h3⟩ := parts_ne hp
    have h4 : 0 < p.length := List.length_pos_iff.2 h3
    refine ⟨?_, (hk _ _).2 fun e => h2 (.inl e)⟩
    have : ¬ 1 < p.length := fun e => h2 (.inr e)
    omega
end
end Go.Proofs.Ythgkloapnihpaaa
