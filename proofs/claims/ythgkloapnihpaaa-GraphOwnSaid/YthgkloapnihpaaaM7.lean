/- Helpers, joined: He, Hf, Hg. -/
import Derived.Test.YthgkloapnihpaaaM6

/- Graphs: Reach, by a contract. -/
namespace Go.Proofs.Ythgkloapnihpaaa
open Go.RowKit Go.Maps Go.WideMaps Go.WideElems Go.ChangeShapes Go.WideShapes

/-- A search: who has been found, in a list and in a map; who is still to be looked at. -/
structure RcSt (w : World) (mb : Nat) (N F T : List Int) (D : DV) (v5 v7 : Value) (W : World) : Prop where
  seen : SeenAt mb F.length F D W
  found : IntsO W w.heap.size v5 F
  todo : IntsO W w.heap.size v7 T
  apart : ∀ q, v5.ownBlock = some q → v7.ownBlock ≠ some q
  gro : w.grownBy W none
  once : F.Nodup
  sub : ∀ x ∈ F, x ∈ N
theorem RcSt.kept {w : World} {mb : Nat} {N F T : List Int} {D : DV} {v5 v7 : Value} {W W' : World} (h : RcSt w mb N F T D v5 v7 W) (hg : W.grownBy W' none) : RcSt w mb N F T D v5 v7 W' :=
  ⟨h.seen.kept hg (by simp), h.found.kept hg (by cases v5.ownBlock <;> simp), h.todo.kept hg (by cases v7.ownBlock <;> simp), h.apart, h.gro.trans hg, h.once, h.sub⟩
/-- A block made since is written: none of these. -/
theorem RcSt.keptAt {w : World} {mb : Nat} {N F T : List Int} {D : DV} {v5 v7 : Value} {W W' : World} {rg : Nat} (h : RcSt w mb N F T D v5 v7 W) (hg : W.grownBy W' (some rg)) (hne : mb ≠ rg) (hlo : w.heap.size ≤ rg) {o : Obj} (ho : W.heap[rg]? = some o) (hc : o.isCells = false) : RcSt w mb N F T D v5 v7 W' :=
  ⟨h.seen.kept hg (by simpa using hne), h.found.kept hg (.inr (h.found.no ho hc)), h.todo.kept hg (.inr (h.todo.no ho hc)), h.apart, h.gro.andThen hg (fun j e => .inl (by cases e; exact hlo)), h.once, h.sub⟩
theorem RcSt.bound {w : World} {mb : Nat} {N F T : List Int} {D : DV} {v5 v7 : Value} {W : World} (h : RcSt w mb N F T D v5 v7 W) : F.length ≤ N.length := len_le h.once h.sub
/-- Within a round: what has been added. -/
structure RcIn (w : World) (mb rg ib c : Nat) (N F0 T0 outs new done : List Int) (DI : DV) (left : Lit → Bool) (cnt : Nat) (D : DV) (v5 v7 : Value) (W : World) : Prop where
  st : RcSt w mb N (F0 ++ new) (T0 ++ new) D v5 v7 W
  rng : RngX Try.prog 3 il fit64 asIs ib rg c outs done DI left cnt W
  ofs : ∀ x ∈ new, x ∈ outs
  all : ∀ x ∈ done, x ∈ F0 ++ new
set_option maxHeartbeats 8000000 in
set_option maxRecDepth 100000 in
theorem reach_p {Z : Nat → Prop} {B g c : Nat} {N : List Int} {E : List Ed} (a : Int) (ha : fit64 a) (_hc : c ≤ 100000) (hN : N.length ≤ 500) (w : World) (h : GrAt Z B g c N E w) :
    Calls Try.prog 24 #[.pointer (some ⟨g, 0, none⟩), iv a] w fun e w' => ∃ v r, e = .returned v ∧ Hid (IntsO w' w.heap.size v r ∧ RiseI r ∧ (∀ z, z ∈ r ↔ TCR (EdR E) a z) ∧ Below w.heap.size w w') := by
  obtain ⟨ob, DO, F, DI, f, h, hZ⟩ := h
  have hmm := @run_makeMap Try.prog
  have H := Lib.hid h
  have Hfit : Hid (∀ a ∈ N, fit64 a) := fun a ha => h.dom.fit a ha
  have Ha := Lib.hid ha
  have HN := Lib.hid hN
  obtain ⟨W1, hW1⟩ : ∃ W, w.alloc (.map #[] 0) = W := ⟨_, rfl⟩
  obtain ⟨W2, hW2⟩ : ∃ W, W1.alloc (.cells #[iv a] 3) = W := ⟨_, rfl⟩
  have hs1 : W1.heap.size = w.heap.size + 1 := by rw [← hW1]; simp
  have H0 : Hid (RcSt w w.heap.size N [] [a] (.map []) (.slice none 0 0) (.slice (some ⟨W1.heap.size, 0, none⟩) 1 1) W2) := by
    have hg : w.grownBy W1 none := by rw [← hW1]; exact World.grownBy_alloc w _ none
    have hs : SeenAt w.heap.size 0 [] (.map []) W1 := by rw [← hW1]; exact seen_made w
    rw [← hW2]
    exact ⟨hs.kept (World.grownBy_alloc W1 _ none) (by simp), intsO_nil _ _, intsO_one W1 _ (by omega) a, fun q h => by simp [Value.ownBlock] at h, hg.trans (World.grownBy_alloc W1 _ none), by simp, by simp⟩
  obtain ⟨n, hn⟩ : ∃ n, N.length = n := ⟨_, rfl⟩
  have Hn := Lib.hid hn
  clear h hZ ha _hc hN hs1 hn
  go_enter Try.func24, Try.ntmps24
  go_wp2
  go_loopw [5, 7] (fun v5 v7 wr => ∃ Fd T D, Hid (RcSt w w.heap.size N Fd T D v5 v7 wr ∧ Srch (prE E) a Fd T ∧ T.length ≤ Fd.length + 1)) (fun v5 v7 _ => (n - lenOf v5) + lenOf v7)
  case atStart => exact ⟨[], [a], _, H0.out, Srch.start _ _, by simp⟩
  case round =>
    obtain ⟨Fd, T, D, HG⟩ := hrel
    obtain ⟨wa, hwa⟩ : ∃ wa, wa = wr := ⟨_, rfl⟩
    subst hwa
    obtain ⟨p5, c5, rfl, -, -⟩ := HG.out.1.found.form
    obtain ⟨p7, c7, rfl, hc7, hsl⟩ := HG.out.1.todo.form
    rcases snoc_cases T with rfl | ⟨T, t, rfl⟩
    · simp only [List.length_nil] at *
      have HD : Hid (∀ z, z ∈ Fd ↔ TCR (EdR E) a z) := fun z => (HG.out.2.1.full z).trans (tc_tcr fun x y => mem_prE)
      have HS := Lib.hid (sort_o _ _ _ _ HG.out.1.found (by have := HG.out.1.bound; have := HN.out; omega) HG.out.1.once)
      clear hsl hc7
      go_wp2_with (first
        | (go_at_call 48; (with_reducible refine HS.out.mono ?_); rintro e w9 ⟨rfl, l', K⟩)
        | go_in)
      go_ret
      exact ⟨_, l', rfl, K.out.2.2.2.1, K.out.1, fun z => (K.out.2.1 z).trans (HD.out z), grown_of_below (HG.out.1.gro.andThen K.out.2.2.2.2 fun q e => .inl (HG.out.1.found.lt e).1)⟩
    · obtain ⟨g7, off7, rfl, hgb, hgl, hcell⟩ := hsl (by simp)
      obtain ⟨m, hm⟩ : ∃ m, T.length = m := ⟨_, rfl⟩
      have hlen : (T ++ [t]).length = m + 1 := by simp [hm]
      have ct := hcell m (by rw [hlen]; omega)
      rw [show (T ++ [t]).getD m 0 = t from by subst hm; simp] at ct
      have hmb0 : m ≤ 501 := by
        have h1 := HG.out.1.bound
        have h2 := HG.out.2.2
        have h3 := HN.out
        rw [hlen] at h2
        omega
      have hft : fit64 t := by
        rcases HG.out.2.1.here t (by simp) with e | e
        · rw [e]; exact Ha.out
        · exact Hfit.out t (HG.out.1.sub t e)
      have Hpop := Lib.hid HG.out.1.todo.pop
      rw [hm, hlen] at Hpop
      have Hft := Lib.hid hft
      have Hm := Lib.hid hm
      rw [hlen] at hc7 ⊢
      have hG := H.out.kept HG.out.1.gro (fun k e => by cases e)
      have c0 := hG.box.cell
      have hg0 : decide ((0 : Int) < (m : Int) + 1) = true := by simp
      have hwr : IntKind.i64.wrap (m : Int) = (m : Int) := by rw [IntKind.wrap_i64]; omega
      have hix1 : (m : Int) < (m : Int) + 1 := by omega
      have hix2 : (m : Int) < ((m + 1 : Nat) : Int) := by omega
      have hix3 : m < m + 1 := by omega
      have hix0 : (0 : Int) ≤ (m : Int) := by omega
      have Hlen := Lib.hid hlen
      by_cases htN : t ∈ N
      · have l1 := look_as hG.dom Try.underlying59 (zero65 wa) hft ((hG.atO t hft).trans (by rw [if_pos htN]))
        have Hdm := Lib.hid (hG.domI t htN)
        obtain ⟨ib, hib⟩ : ∃ ib, F t = ib := ⟨_, rfl⟩
        rw [hib] at l1 Hdm
        have Hilt : Hid (ib < w.heap.size) := by show _ < _; rw [← hib]; exact (H.out.domI t htN).own.lt
        have HtN := Lib.hid htN
        clear hsl hcell hlen hft hm hgb hgl hib htN hG
        go_wp2_with (first
          | (at_range; refine wpList_range_own _ rfl _ 65 rfl 3 23 K3 Try.underlying65 asIs ib c (DI t) rfl Hdm.out.own ?_; intro w2 hrg2 hg2 hs2)
          | go_in)
        obtain ⟨rg, hrg⟩ : ∃ rg, wa.heap.size = rg := ⟨_, rfl⟩
        have Hrg : Hid (w.heap.size < rg) := by show _ < _; rw [← hrg]; exact HG.out.1.seen.lt
        have H2 : Hid (RcIn w w.heap.size rg ib c N Fd T (outsE N E t) [] [] (DI t) (has (DI t)) (Maps.size (DI t)) D (.slice p5 Fd.length c5) (.slice (some ⟨g7, off7, none⟩) m c7) w2) := by
          have h1 : RcSt w w.heap.size N Fd T D (.slice p5 Fd.length c5) (.slice (some ⟨g7, off7, none⟩) m c7) wa := ⟨HG.out.1.seen, HG.out.1.found, Hpop.out.2, HG.out.1.apart, HG.out.1.gro, HG.out.1.once, HG.out.1.sub⟩
          refine ⟨by rw [List.append_nil, List.append_nil]; exact h1.kept hg2, ?_, by simp, by simp⟩
          rw [← hrg]
          exact rngX_start Hdm.out hrg2
        rw [hrg] at *
        clear hrg2 hg2 hs2 Hdm hrg ct c0 l1 hg0 hwr hix0 hix1 hix2 hix3 hc7
        go_loopw [5, 7] (fun v5 v7 wr => ∃ new done left cnt D, Hid (RcIn w w.heap.size rg ib c N Fd T (outsE N E t) new done (DI t) left cnt D v5 v7 wr)) (fun _ _ wr => wr.rangeLeft ib rg)
        case atStart => exact ⟨[], [], _, _, D, H2⟩
        case round =>
          obtain ⟨new, done, left, cnt, D2, HR⟩ := hrel
          have hfl : ∀ x ∈ outsE N E t, fit64 x := fun x hx => Hfit.out x (List.mem_filter.1 hx).1
          go_wp2_with (first | (at_next; refine wpList_next_ranges _ rfl _ rfl 3 K3 asIs (Value.int .i64) (fun c : Value => c) invI (fun v _ _ => ⟨v, rfl⟩) ib rg c (DI t) left cnt rfl HR.out.rng.rng ?_ ?_) | go_in)
          · intro hc0 hl0
            have hall := rngX_all HR.out.rng hfl hl0
            obtain ⟨q5, d5, rfl, -, -⟩ := HR.out.st.found.form
            obtain ⟨q7, d7, rfl, -, -⟩ := HR.out.st.todo.form
            have HS : Hid (Srch (prE E) a (Fd ++ new) (T ++ new)) := HG.out.2.1.step (fun b => by rw [List.mem_append]) (fun b hb => mem_prE.2 ((mem_outsE H.out.ends).1 (HR.out.ofs b hb))) fun b hb => HR.out.all b ((hall b).2 ((mem_outsE H.out.ends).2 (mem_prE.1 hb)))
            have Hb := Lib.hid HR.out.st.bound
            clear hc0 hl0 hall hfl
            go_wp2
            have hb2 := Hb.out
            have hG3 := HG.out.2.2
            have hm2 := Hm.out
            have hn2 := Hn.out
            rw [List.length_append] at hb2 hG3
            simp only [List.length_append, List.length_singleton] at *
            refine ⟨⟨Fd ++ new, T ++ new, D2, ?_, HS.out, by simp only [List.length_append]; omega⟩, ?_⟩
            · exact HR.out.st
            · simp only [lenOf]
              omega
          · intro x cv kl y1 y2 w3 cnt3 hkx hlk hv hat hrg3 hlt3 hg3 hs3 hen
            obtain ⟨b, left3, e, rfl, hfb, hbL, hbn, hrng⟩ := rngX_more enc3 HR.out.rng hfl hkx hlk hrg3
            obtain rfl : x = b := by simpa using e
            obtain ⟨-, ⟨o3, ho3, hc3⟩⟩ := rngX_objs HR.out.rng
            have hst := HR.out.st.keptAt hg3 (by have := Hrg.out; omega) (by have := Hrg.out; omega) ho3 hc3
            have hlook := hst.seen.look hfb
            obtain ⟨W4, hW4⟩ : ∃ W, w3.alloc (.cells #[] 79) = W := ⟨_, rfl⟩
            have hg4 : w3.grownBy W4 none := by rw [← hW4]; exact World.grownBy_alloc w3 _ none
            have hst4 := hst.kept hg4
            have hrng4 := hrng.keep hg4 (by simp) (by simp)
            have Hfb := Lib.hid hfb
            have HbL := Lib.hid hbL
            have Hlt3 : Hid (cnt3 < wr.rangeLeft ib rg) := by show _ < _; rw [HR.out.rng.rng.left_eq]; exact hlt3
            have Hst4 := Lib.hid hst4
            have Hrng4 := Lib.hid hrng4
            by_cases hbF : x ∈ Fd ++ new
            · rw [decide_eq_true hbF] at hlook
              have HbF := Lib.hid hbF
              clear hkx hlk hv hat hrg3 hlt3 hg3 hs3 hfb hbL hbn hrng ho3 hc3 hst hg4 hst4 hrng4 hbF hfl e
              go_wp2
              refine ⟨⟨new, done ++ [x], left3, cnt3, D2, Hst4.out, Hrng4.out, HR.out.ofs, fun z hz => ?_⟩, ?_⟩
              · rcases List.mem_append.1 hz with h1 | h1
                · exact HR.out.all z h1
                · rw [List.mem_singleton] at h1
                  subst h1
                  exact HbF.out
              · rw [Hrng4.out.rng.left_eq]
                exact Hlt3.out
            · rw [decide_eq_false hbF] at hlook
              have HbF := Lib.hid hbF
              have hbd := hst4.bound
              have hN0 := HN.out
              obtain ⟨W5, hup, hS5, hg5⟩ := hst4.seen.put hfb (by unfold maxLen; omega)
              obtain ⟨o2, ho2, hc2⟩ := hst4.seen.obj
              have hF5 := hst4.found.kept hg5 (.inr (hst4.found.no ho2 hc2))
              have hT5 := hst4.todo.kept hg5 (.inr (hst4.todo.no ho2 hc2))
              have hr5 := hrng4.keep hg5 (by have := Hilt.out; simp; omega) (by have := Hrg.out; simp; omega)
              have hgw5 : w.grownBy W5 none := hst4.gro.andThen hg5 (fun j e => .inl (by cases e; exact Nat.le_refl _))
              have HS5 := Lib.hid hS5
              have HF5 := Lib.hid hF5
              have HT5 := Lib.hid hT5
              have Hr5 := Lib.hid hr5
              have Hgw5 := Lib.hid hgw5
              have hFl : (Fd ++ new).length ≤ 1000000 := by omega
              have hTl : (T ++ new).length ≤ 1000000 := by
                have h1 := HG.out.2.2
                rw [Hlen.out] at h1
                have h2 := Hm.out
                rw [List.length_append] at hbd ⊢
                omega
              clear hkx hlk hv hat hrg3 hlt3 hg3 hs3 hfb hbL hbn hrng ho3 hc3 hst hg4 hst4 hrng4 hbF hfl e hS5 hF5 hT5 hr5 hgw5 ho2 hc2 hg5 hbd
              have hap := Hst4.out.apart
              have Hap := Lib.hid hap
              clear hap
              go_wp2_with (first
                | (at_builtin; refine wpList_append_o rfl _ _ rfl w.heap.size u5 (Fd ++ new) x rfl (HF5.out.alloc _) ⟨W5.heap.size, 0, none⟩ 1 rfl (news_new W5 #[iv x] 3) hFl (by have := Hgw5.out.size; simp; omega) ?_
                   intro v5 w6 hf6 hg6 hl6
                   have hgw6 : w.grownBy w6 none := (Hgw5.out.trans (World.grownBy_alloc W5 (.cells #[iv x] 3) _)).andThen hg6 (fun q e => .inl (HF5.out.lt e).1)
                   have hS6 := (HS5.out.kept (World.grownBy_alloc W5 (.cells #[iv x] 3) none) (by simp)).kept hg6 (fun e => by
                     obtain ⟨o, ho, hc⟩ := HS5.out.obj
                     exact HF5.out.no ho hc e.symm)
                   have hT6 := (HT5.out.alloc (.cells #[iv x] 3)).beside hg6 Hap.out
                   have hr6 := (Hr5.out.keep (World.grownBy_alloc W5 (.cells #[iv x] 3) none) (by simp) (by simp)).keep hg6 (fun e => by
                     have h1 := (HF5.out.lt e.symm).1
                     have h2 := Hilt.out
                     omega) (fun e => by
                     obtain ⟨-, ⟨o, ho, hc⟩⟩ := rngX_objs Hr5.out
                     exact HF5.out.no ho hc e.symm)
                   have hap6 : ∀ q, v5.ownBlock = some q → u7.ownBlock ≠ some q := fun q h1 h2 => by
                     rcases hl6 q h1 with h3 | h3
                     · exact Hap.out q h3 h2
                     · have h4 := (HT5.out.lt h2).2
                       simp at h3
                       omega
                   have HF6 := Lib.hid hf6
                   have HS6 := Lib.hid hS6
                   have HT6 := Lib.hid hT6
                   have Hr6 := Lib.hid hr6
                   have Hgw6 := Lib.hid hgw6
                   have Hap6 := Lib.hid hap6
                   clear hf6 hg6 hl6 hgw6 hS6 hT6 hr6 hap6)
                | (at_builtin; refine wpList_append_o rfl _ _ rfl w.heap.size u7 (T ++ new) x rfl (HT6.out.alloc _) ⟨w6.heap.size, 0, none⟩ 1 rfl (news_new w6 #[iv x] 3) hTl (by have := Hgw6.out.size; simp; omega) ?_
                   intro v7 w7 ht7 hg7 hl7
                   have hgw7 : w.grownBy w7 none := (Hgw6.out.trans (World.grownBy_alloc w6 (.cells #[iv x] 3) _)).andThen hg7 (fun q e => .inl (HT6.out.lt e).1)
                   have hS7 := (HS6.out.kept (World.grownBy_alloc w6 (.cells #[iv x] 3) none) (by simp)).kept hg7 (fun e => by
                     obtain ⟨o, ho, hc⟩ := HS6.out.obj
                     exact HT6.out.no ho hc e.symm)
                   have hF7 := (HF6.out.alloc (.cells #[iv x] 3)).beside hg7 (fun q h1 h2 => Hap6.out q h2 h1)
                   have hr7 := (Hr6.out.keep (World.grownBy_alloc w6 (.cells #[iv x] 3) none) (by simp) (by simp)).keep hg7 (fun e => by
                     have h1 := (HT6.out.lt e.symm).1
                     have h2 := Hilt.out
                     omega) (fun e => by
                     obtain ⟨-, ⟨o, ho, hc⟩⟩ := rngX_objs Hr6.out
                     exact HT6.out.no ho hc e.symm)
                   have hap7 : ∀ q, v5.ownBlock = some q → v7.ownBlock ≠ some q := fun q h1 h2 => by
                     rcases hl7 q h2 with h3 | h3
                     · exact Hap6.out q h1 h3
                     · have h4 := (HF6.out.lt h1).2
                       simp at h3
                       omega
                   have HI : Hid (RcIn w w.heap.size rg ib c N Fd T (outsE N E t) (new ++ [x]) (done ++ [x]) (DI t) left3 cnt3 (D2.put (il x) (.held unitV)) v5 v7 w7) := by
                     refine ⟨⟨?_, by rw [← List.append_assoc]; exact hF7, by rw [← List.append_assoc]; exact ht7, hap7, hgw7, ?_, fun z hz => ?_⟩, hr7, fun z hz => ?_, fun z hz => ?_⟩
                     · rw [← List.append_assoc, List.length_append]
                       exact hS7
                     · rw [← List.append_assoc, List.nodup_append]
                       exact ⟨HR.out.st.once, by simp, fun z hz y hy e => by rw [List.mem_singleton] at hy; subst hy e; exact HbF.out hz⟩
                     · rw [← List.append_assoc] at hz
                       rcases List.mem_append.1 hz with h1 | h1
                       · exact HR.out.st.sub z h1
                       · rw [List.mem_singleton] at h1; subst h1; exact (List.mem_filter.1 HbL.out).1
                     · rcases List.mem_append.1 hz with h1 | h1
                       · exact HR.out.ofs z h1
                       · rw [List.mem_singleton] at h1; subst h1; exact HbL.out
                     · rw [← List.append_assoc]
                       rcases List.mem_append.1 hz with h1 | h1
                       · exact List.mem_append_left _ (HR.out.all z h1)
                       · exact List.mem_append_right _ h1
                   clear ht7 hg7 hl7 hgw7 hS7 hF7 hr7 hap7)
                | go_in)
              refine ⟨⟨new ++ [x], done ++ [x], left3, cnt3, _, HI.out⟩, ?_⟩
              rw [HI.out.rng.rng.left_eq]
              exact Hlt3.out
      · have l1 := look_as hG.dom Try.underlying59 (zero65 wa) hft ((hG.atO t hft).trans (by rw [if_neg htN]))
        have hrn := run_range_nilMap (P := Try.prog) wa 65 3 23 Try.underlying65
        have HtN := Lib.hid htN
        have HS : Hid (Srch (prE E) a Fd T) := by
          have h1 := HG.out.2.1.step (new := []) (R' := Fd) (fun b => by simp) (by simp) fun b hb => absurd (H.out.ends t b (mem_prE.1 hb)).1 htN
          rw [List.append_nil] at h1
          exact h1
        obtain ⟨W3, hW3⟩ : ∃ W, wa.alloc (.mapIter none 0 #[] 0) = W := ⟨_, rfl⟩
        have hnn : ∀ ty, (Instr.next (.pointer (some ⟨wa.heap.size, 0, none⟩)) false ty).run Try.prog W3 = .ok (.tuple #[.bool false]) W3 := fun ty => by
          rw [← hW3]
          exact run_next_nilMap wa ty 0 0 #[]
        have Hg3 : Hid (wa.grownBy W3 none) := by rw [← hW3]; exact World.grownBy_alloc wa _ none
        rw [hW3] at hrn
        clear hsl hcell hlen hft hm hgb hgl htN hG
        go_wp2
        go_loopw [5, 7] (fun v5 v7 wr => wr = W3 ∧ v5 = .slice p5 Fd.length c5 ∧ v7 = .slice (some ⟨g7, off7, none⟩) m c7) (fun _ _ _ => 0)
        case atStart => exact ⟨rfl, rfl, rfl⟩
        case round =>
          obtain ⟨rfl, rfl, rfl⟩ := hrel
          go_wp2
          have hlen2 := Hlen.out
          have hG3 := HG.out.2.2
          rw [hlen2] at hG3
          have hm2 := Hm.out
          refine ⟨⟨Fd, T, D, ⟨HG.out.1.seen.kept Hg3.out (by simp), HG.out.1.found.kept Hg3.out (by simp [Value.ownBlock]; cases p5 <;> simp), Hpop.out.2.kept Hg3.out (by simp [Value.ownBlock]), HG.out.1.apart, HG.out.1.gro.trans Hg3.out, HG.out.1.once, HG.out.1.sub⟩, HS.out, by omega⟩, ?_⟩
          simp only [lenOf]
          omega
end Go.Proofs.Ythgkloapnihpaaa

/- Graphs: the edges turned round, by a contract. -/
namespace Go.Proofs.Ythgkloapnihpaaa
open Go.RowKit Go.Maps Go.WideMaps Go.WideElems Go.ChangeShapes Go.WideShapes

/-- Those that stand ahead of one, in so many pairs. -/
def predsP (dn : List Pr) (b : Int) : List Int := (dn.filter fun p => p.2 == b).map (·.1)
theorem mem_predsP {dn : List Pr} {a b : Int} : a ∈ predsP dn b ↔ (a, b) ∈ dn := by
  unfold predsP
  rw [List.mem_map]
  constructor
  · rintro ⟨⟨x, y⟩, h, rfl⟩
    rw [List.mem_filter, beq_iff_eq] at h
    obtain ⟨h1, h2⟩ := h
    subst h2
    exact h1
  · intro h
    exact ⟨(a, b), List.mem_filter.2 ⟨h, by simp⟩, rfl⟩
theorem predsP_nodup {dn : List Pr} (h : dn.Nodup) (b : Int) : (predsP dn b).Nodup := by
  unfold predsP
  rw [List.nodup_iff_pairwise_ne, List.pairwise_map]
  refine List.Pairwise.imp_of_mem ?_ (List.nodup_iff_pairwise_ne.1 (List.Pairwise.sublist List.filter_sublist h))
  intro p q hp hq hne e
  rw [List.mem_filter, beq_iff_eq] at hp hq
  exact hne (Prod.ext e (hp.2.trans hq.2.symm))
theorem predsP_snoc (dn : List Pr) (a b c : Int) : predsP (dn ++ [(a, b)]) c = if c = b then predsP dn c ++ [a] else predsP dn c := by
  unfold predsP
  rw [List.filter_append, List.map_append]
  by_cases e : c = b
  · subst e
    rw [if_pos rfl]
    simp
  · rw [if_neg e]
    have : (b == c) = false := by simpa using fun g => e g.symm
    simp [this]
theorem predsP_len (dn : List Pr) (b : Int) : (predsP dn b).length ≤ dn.length := by
  unfold predsP
  rw [List.length_map]
  exact List.length_filter_le _ _
/-- The map so far. -/
structure TrnSt (w : World) (tb k : Nat) (dn : List Pr) (DT : DV) (h : Int → Value) (W : World) : Prop where
  dom : DomAt Try.prog 3 il fit64 asIs tb k (dn.map (·.2)) DT W
  at_ : ∀ b, fit64 b → DT.atKey (il b) (.held (.slice none 0 0)) = .held (h b)
  row : ∀ b, fit64 b → IntsO W w.heap.size (h b) (predsP dn b)
  apart : ∀ b b', fit64 b → fit64 b' → b ≠ b' → ∀ q, (h b).ownBlock = some q → (h b').ownBlock ≠ some q
  gro : w.grownBy W none
  lo : w.heap.size ≤ tb
theorem TrnSt.kept {w : World} {tb k : Nat} {dn : List Pr} {DT : DV} {h : Int → Value} {W W' : World} (H : TrnSt w tb k dn DT h W) (hg : W.grownBy W' none) : TrnSt w tb k dn DT h W' :=
  ⟨H.dom.kept hg (by simp), H.at_, fun b hb => (H.row b hb).kept hg (by cases (h b).ownBlock <;> simp), H.apart, H.gro.trans hg, H.lo⟩
theorem TrnSt.keptAt {w : World} {tb k : Nat} {dn : List Pr} {DT : DV} {h : Int → Value} {W W' : World} {rg : Nat} (H : TrnSt w tb k dn DT h W) (hg : W.grownBy W' (some rg)) (hne : tb ≠ rg) (hlo : w.heap.size ≤ rg) {o : Obj} (ho : W.heap[rg]? = some o) (hc : o.isCells = false) : TrnSt w tb k dn DT h W' :=
  ⟨H.dom.kept hg (by simpa using hne), H.at_, fun b hb => (H.row b hb).kept hg (.inr ((H.row b hb).no ho hc)), H.apart, H.gro.andThen hg (fun j e => .inl (by cases e; exact hlo)), H.lo⟩
theorem trn_made (w : World) : TrnSt w w.heap.size 0 [] (.map []) (fun _ => .slice none 0 0) (w.alloc (.map #[] 0)) :=
  ⟨dom_made Try.prog 3 il fit64 asIs w, fun _ _ => rfl, fun _ _ => intsO_nil _ _, fun _ _ _ _ _ q e => by simp [Value.ownBlock] at e, World.grownBy_alloc w _ none, Nat.le_refl _⟩
theorem TrnSt.look {w : World} {tb k : Nat} {dn : List Pr} {DT : DV} {h : Int → Value} {W : World} (H : TrnSt w tb k dn DT h W) {b : Int} (hb : fit64 b) : (Instr.lookup 65 (.map (some tb)) (iv b) false).run Try.prog W = .ok (h b) W :=
  look_as H.dom Try.underlying65 (zero23 W) hb (H.at_ b hb)
/-- A row of it has grown by one, and is laid in. -/
theorem TrnSt.put {w : World} {tb k : Nat} {dn : List Pr} {DT : DV} {h : Int → Value} {W W6 : World} (H : TrnSt w tb k dn DT h W) {a b : Int} (hb : fit64 b) {v6 : Value} (hk : k < maxLen) (hg6 : W.grownBy W6 (h b).ownBlock) (ho6 : IntsO W6 w.heap.size v6 (predsP dn b ++ [a]))
    (hl6 : ∀ q, v6.ownBlock = some q → (h b).ownBlock = some q ∨ W.heap.size ≤ q) :
    ∃ W7, (Instr.mapUpdate 65 (.map (some tb)) (iv b) v6).run Try.prog W6 = .ok () W7 ∧ TrnSt w tb (k + 1) (dn ++ [(a, b)]) (DT.put (il b) (.held v6)) (fun c => if c = b then v6 else h c) W7 ∧ W6.grownBy W7 (some tb) := by
  obtain ⟨o, ho, hc⟩ := dom_obj H.dom
  have hd6 := H.dom.kept hg6 (fun e => (H.row b hb).no ho hc e.symm)
  obtain ⟨o6, ho6', hc6⟩ := dom_obj hd6
  obtain ⟨W7, h1, h2, h3⟩ := put_as hd6 Try.underlying65 hk hb v6 (L' := (dn ++ [(a, b)]).map (·.2)) (fun y => by simp)
  have row6 : ∀ c, fit64 c → c ≠ b → IntsO W6 w.heap.size (h c) (predsP dn c) := fun c hc hne => (H.row c hc).beside hg6 fun q e => H.apart b c hb hc (fun e => hne e.symm) q e
  refine ⟨W7, h1, ⟨h2, fun c hc => ?_, fun c hc => ?_, fun c c' hc hc' hne q e1 e2 => ?_, ?_, H.lo⟩, h3⟩
  · rw [at_put hd6 hb hc]
    by_cases e : c = b
    · rw [if_pos e, if_pos e]
    · rw [if_neg e, if_neg e]
      exact H.at_ c hc
  · rw [predsP_snoc]
    by_cases e : c = b
    · subst e
      rw [if_pos rfl]
      simp only [if_true]
      exact ho6.kept h3 (.inr (ho6.no ho6' hc6))
    · rw [if_neg e]
      simp only [e, if_false]
      have := row6 c hc e
      exact this.kept h3 (.inr (this.no ho6' hc6))
  · have old : ∀ c, fit64 c → c ≠ b → (h c).ownBlock = some q → v6.ownBlock = some q → False := fun c hc hne g1 g2 => by
      rcases hl6 q g2 with g3 | g3
      · exact H.apart b c hb hc (fun e => hne e.symm) q g3 g1
      · have := ((H.row c hc).lt g1).2
        omega
    by_cases e : c = b
    · by_cases e' : c' = b
      · exact hne (e.trans e'.symm)
      · simp only [e, if_true] at e1
        simp only [e', if_false] at e2
        exact old c' hc' e' e2 e1
    · simp only [e, if_false] at e1
      by_cases e' : c' = b
      · simp only [e', if_true] at e2
        exact old c hc e e1 e2
      · simp only [e', if_false] at e2
        exact H.apart c c' hc hc' hne q e1 e2
  · refine (H.gro.andThen hg6 (fun q e => .inl ((H.row b hb).lt e).1)).andThen h3 (fun q e => .inl ?_)
    cases e
    exact H.lo
theorem rngX_off {X : Type} {H : Type} {P : Program} {k : TypeId} {lit : X → Lit} {Fit : X → Prop} {R : Value → Option (DataW H × List MemPlace)} {b r n : Nat} {L done : List X} {D : DataW H} {left : Lit → Bool} {cnt B B2 : Nat} {W W' : World} {v : Value} {zs : List Int}
    (h : RngX P k lit Fit R b r n L done D left cnt W) (hv : IntsO W B v zs) (hb : b < B2) (hB : B2 ≤ B) (hg : W.grownBy W' v.ownBlock) : RngX P k lit Fit R b r n L done D left cnt W' :=
  h.keep hg (fun e => by have := (hv.lt e.symm).1; omega) (fun e => by
    obtain ⟨-, ⟨o, ho, hc⟩⟩ := rngX_objs h
    exact hv.no ho hc e.symm)
/-- Within a row of edges. -/
structure TrIn (w : World) (tb ob rgo ib rgi c k : Nat) (N doneO : List Int) (DO : DV) (leftO : Lit → Bool) (cntO : Nat) (a : Int) (dn0 : List Pr) (outs done : List Int) (DI : DV) (left : Lit → Bool) (cnt : Nat) (DT : DV) (h : Int → Value) (W : World) : Prop where
  st : TrnSt w tb k (dn0 ++ done.map fun b => (a, b)) DT h W
  rngo : RngX Try.prog 3 il fit64 asIs ob rgo c N doneO DO leftO cntO W
  rngi : RngX Try.prog 3 il fit64 asIs ib rgi c outs done DI left cnt W
  len : k = dn0.length + done.length
structure TrOut (w : World) (tb ob rgo c k : Nat) (N : List Int) (E : List Ed) (doneO : List Int) (DO : DV) (leftO : Lit → Bool) (cntO : Nat) (dn : List Pr) (DT : DV) (h : Int → Value) (W : World) : Prop where
  st : TrnSt w tb k dn DT h W
  rngo : RngX Try.prog 3 il fit64 asIs ob rgo c N doneO DO leftO cntO W
  once : dn.Nodup
  mem : ∀ p, p ∈ dn ↔ p.1 ∈ doneO ∧ EdR E p.1 p.2
  len : k = dn.length
theorem nodup_pairs (a : Int) : ∀ {R : List Int}, R.Nodup → (R.map fun y => (a, y)).Nodup
  | [], _ => by simp
  | y :: R, h => by
    have h' := List.nodup_cons.1 h
    rw [List.map_cons]
    refine List.nodup_cons.2 ⟨fun hm => ?_, nodup_pairs a h'.2⟩
    obtain ⟨z, hz, e⟩ := List.mem_map.1 hm
    cases e
    exact h'.1 hz
theorem pairs_len {dn : List Pr} {N : List Int} (h : dn.Nodup) (hs : ∀ p ∈ dn, p.1 ∈ N ∧ p.2 ∈ N) (hN : N.length ≤ 500) : dn.length ≤ 250000 := by
  have h1 := nodup_len (L := dn) (G := N.flatMap fun x => N.map fun y => (x, y)) h fun p hp => by
    obtain ⟨g1, g2⟩ := hs p hp
    exact List.mem_flatMap.2 ⟨p.1, g1, List.mem_map.2 ⟨p.2, g2, rfl⟩⟩
  have h2 : (N.flatMap fun x => N.map fun y => (x, y)).length = N.length * N.length := by
    have : ∀ l : List Int, (l.flatMap fun x => N.map fun y => (x, y)).length = l.length * N.length := by
      intro l
      induction l with
      | nil => simp
      | cons x l ih => rw [List.flatMap_cons, List.length_append, ih, List.length_map, List.length_cons, Nat.add_mul, Nat.one_mul, Nat.add_comm]
    exact this N
  have h3 : N.length * N.length ≤ 500 * 500 := Nat.mul_le_mul hN hN
  omega
set_option maxHeartbeats 8000000 in
set_option maxRecDepth 100000 in
theorem turned_any {Z : Nat → Prop} {B g c : Nat} {N : List Int} {E : List Ed} (hN : N.length ≤ 500) (w : World) (h : GrAt Z B g c N E w) :
    Calls Try.prog 56 #[.pointer (some ⟨g, 0, none⟩)] w fun e w' => ∃ tb, e = .returned (.map (some tb)) ∧ Hid (TurnAt w.heap.size tb E w' ∧ Below w.heap.size w w' ∧ w.heap.size ≤ tb) := by
  obtain ⟨ob, DO, F, DI, f, h, hZ⟩ := h
  have hmm := @run_makeMap Try.prog
  have H := Lib.hid h
  have Hfit : Hid (∀ a ∈ N, fit64 a) := fun a ha => h.dom.fit a ha
  have HN := Lib.hid hN
  obtain ⟨W1, hW1⟩ : ∃ W, w.alloc (.map #[] 0) = W := ⟨_, rfl⟩
  have hg1 : w.grownBy W1 none := by rw [← hW1]; exact World.grownBy_alloc w _ none
  have hs1 : W1.heap.size = w.heap.size + 1 := by rw [← hW1]; simp
  have hG := h.kept hg1 (fun k e => by cases e)
  have c0 := hG.box.cell
  have Hd := Lib.hid hG.dom
  have Hob : Hid (ob < w.heap.size) := h.dom.own.lt
  have Hs1 := Lib.hid hs1
  have HT1 : Hid (TrnSt w w.heap.size 0 [] (.map []) (fun _ => .slice none 0 0) W1) := by rw [← hW1]; exact trn_made w
  clear h hZ hN hg1 hs1 hG
  go_enter Try.func56, Try.ntmps56
  go_wp2_with (first
    | (at_range; refine wpList_range_own _ rfl _ 59 rfl 3 65 K3 Try.underlying59 asIs ob c DO rfl Hd.out.own ?_; intro w2 hrg2 hg2 hs2)
    | go_in)
  obtain ⟨rgo, hrg⟩ : ∃ rg, W1.heap.size = rg := ⟨_, rfl⟩
  have Hrgo : Hid (rgo = w.heap.size + 1) := by show _ = _; rw [← hrg]; exact Hs1.out
  have H2 : Hid (TrOut w w.heap.size ob rgo c 0 N E [] DO (has DO) (Maps.size DO) [] (.map []) (fun _ => .slice none 0 0) w2) := by
    refine ⟨HT1.out.kept hg2, ?_, by simp, by simp, rfl⟩
    rw [← hrg]
    exact rngX_start Hd.out hrg2
  rw [hrg] at *
  clear hrg2 hg2 hs2 c0 Hd
  go_frame
  go_loopw [4] (fun _ wr => ∃ k doneO leftO cntO dn DT hh, Hid (TrOut w w.heap.size ob rgo c k N E doneO DO leftO cntO dn DT hh wr)) (fun _ wr => wr.rangeLeft ob rgo)
  case atStart => exact ⟨0, [], _, _, [], _, _, H2⟩
  case round =>
    obtain ⟨k, doneO, leftO, cntO, dn, DT, hh, HR⟩ := hrel
    obtain ⟨wa, hwa⟩ : ∃ wa, wa = wr := ⟨_, rfl⟩
    subst hwa
    have hmaps : ∀ (v : Value) (y : DV × List MemPlace), asIs v = some y → ∃ c : Value, v = c := fun v _ _ => ⟨v, rfl⟩
    go_wp2_with (first | (at_next; refine wpList_next_ranges _ rfl _ rfl 3 K3 asIs (Value.int .i64) (fun c : Value => c) invI hmaps ob rgo c DO leftO cntO rfl HR.out.rngo.rng ?_ ?_) | go_in)
    · intro hc0 hl0
      have hall := rngX_all HR.out.rngo Hfit.out hl0
      have HE : Hid (∀ p, p ∈ dn ↔ EdR E p.1 p.2) := fun p => by
        rw [HR.out.mem p, hall p.1]
        exact ⟨fun h => h.2, fun h => ⟨(H.out.ends p.1 p.2 h).1, h⟩⟩
      clear hc0 hl0 hall
      go_wp2
      go_ret
      refine ⟨w.heap.size, rfl, ⟨fun a ha => ⟨hh a, predsP dn a, fun W' hb => ?_, HR.out.st.row a ha, predsP_nodup HR.out.once a, fun y => mem_predsP.trans (HE.out (y, a))⟩⟩, grown_of_below HR.out.st.gro, Nat.le_refl _⟩
      exact (HR.out.st.kept (grown_below hb)).look ha
    · intro a cv kl y1 y2 w3 cnt3 hkx hlk hv hat hrg3 hlt3 hg3 hs3 hen
      obtain ⟨b, left3, e, rfl, hfb, hbN, hbn, hrng⟩ := rngX_more enc3 HR.out.rngo Hfit.out hkx hlk hrg3
      obtain rfl : a = b := by simpa using e
      obtain ⟨-, ⟨o3, ho3, hc3⟩⟩ := rngX_objs HR.out.rngo
      have hst := HR.out.st.keptAt hg3 (by have := Hrgo.out; omega) (by have := Hrgo.out; omega) ho3 hc3
      have hcv : cv = .map (some (F a)) := by
        have h1 := hat (.held (.map none))
        rw [H.out.atO a hfb, if_pos hbN] at h1
        have h2 : (DataW.held cv : DV) = y1 := (Prod.mk.inj (Option.some.inj hv)).1
        rw [← h2] at h1
        injection h1 with h1
        exact h1.symm
      subst hcv
      obtain ⟨ib, hib⟩ : ∃ ib, F a = ib := ⟨_, rfl⟩
      have hdi := ((H.out.kept HR.out.st.gro (fun k e => by cases e)).domI a hbN).kept hg3 (fun e => by
        have h1 := (H.out.domI a hbN).own.lt
        have h2 := Hrgo.out
        have h3 : F a = rgo := by simpa using e
        omega)
      have Hilt : Hid (ib < w.heap.size) := by show _ < _; rw [← hib]; exact (H.out.domI a hbN).own.lt
      rw [hib] at hdi hen ⊢
      have Hdi := Lib.hid hdi
      have Hst := Lib.hid hst
      have Hrng := Lib.hid hrng
      have HbN := Lib.hid hbN
      have Hbn := Lib.hid hbn
      have Hlt3 : Hid (cnt3 < wa.rangeLeft ob rgo) := by show _ < _; rw [HR.out.rngo.rng.left_eq]; exact hlt3
      clear hkx hlk hv hat hrg3 hlt3 hg3 hs3 hfb hbN hbn hrng ho3 hc3 hst hdi hib hmaps e
      go_wp2_with (first | (at_range; refine wpList_range_own _ rfl _ 65 rfl 3 23 K3 Try.underlying65 asIs ib c (DI a) rfl Hdi.out.own ?_; intro w4 hrg4 hg4 hs4) | go_in)
      obtain ⟨rgi, hri⟩ : ∃ rg, w3.heap.size = rg := ⟨_, rfl⟩
      have Hrgi : Hid (rgo < rgi) := by
        show _ < _
        rw [← hri]
        obtain ⟨-, ⟨o, ho, -⟩⟩ := rngX_objs Hrng.out
        exact (Array.getElem?_eq_some_iff.1 ho).1
      have H4 : Hid (TrIn w w.heap.size ob rgo ib rgi c k N (doneO ++ [a]) DO left3 cnt3 a dn (outsE N E a) [] (DI a) (has (DI a)) (Maps.size (DI a)) DT hh w4) := by
        refine ⟨by rw [List.map_nil, List.append_nil]; exact Hst.out.kept hg4, Hrng.out.keep hg4 (by simp) (by simp), ?_, HR.out.len⟩
        rw [← hri]
        exact rngX_start Hdi.out hrg4
      rw [hri] at *
      clear hrg4 hg4 hs4 Hdi Hst Hrng hri
      go_frame
      go_loopw [6] (fun _ wr => ∃ k done left cnt DT hh, Hid (TrIn w w.heap.size ob rgo ib rgi c k N (doneO ++ [a]) DO left3 cnt3 a dn (outsE N E a) done (DI a) left cnt DT hh wr)) (fun _ wr => wr.rangeLeft ib rgi)
      case atStart => exact ⟨k, [], _, _, _, _, H4⟩
      case round =>
        obtain ⟨k2, done, left, cnt, DT2, hh2, HI⟩ := hrel
        have hfl : ∀ x ∈ outsE N E a, fit64 x := fun x hx => Hfit.out x (List.mem_filter.1 hx).1
        have hany : ∀ (v : Value) (y : DV × List MemPlace), asIs v = some y → ∃ c : Value, v = c := fun v _ _ => ⟨v, rfl⟩
        go_wp2_with (first | (at_next; refine wpList_next_ranges _ rfl _ rfl 3 K3 asIs (Value.int .i64) (fun c : Value => c) invI hany ib rgi c (DI a) left cnt rfl HI.out.rngi.rng ?_ ?_) | go_in)
        · intro hc0 hl0
          have hall := rngX_all HI.out.rngi hfl hl0
          have HO : Hid (TrOut w w.heap.size ob rgo c k2 N E (doneO ++ [a]) DO left3 cnt3 (dn ++ done.map fun b => (a, b)) DT2 hh2 wr) := by
            refine ⟨HI.out.st, HI.out.rngo, ?_, fun p => ?_, by rw [HI.out.len, List.length_append, List.length_map]⟩
            · rw [List.nodup_append]
              refine ⟨HR.out.once, nodup_pairs a HI.out.rngi.once, fun p hp q hq e => ?_⟩
              subst e
              obtain ⟨z, hz, rfl⟩ := List.mem_map.1 hq
              exact Hbn.out ((HR.out.mem _).1 hp).1
            · rw [List.mem_append, HR.out.mem p, List.mem_append, List.mem_singleton]
              constructor
              · rintro (h1 | h1)
                · exact ⟨.inl h1.1, h1.2⟩
                · obtain ⟨z, hz, rfl⟩ := List.mem_map.1 h1
                  exact ⟨.inr rfl, (mem_outsE H.out.ends).1 ((hall z).1 hz)⟩
              · rintro ⟨h1 | h1, h2⟩
                · exact .inl ⟨h1, h2⟩
                · right
                  obtain ⟨p1, p2⟩ := p
                  simp only at h1 h2
                  subst h1
                  exact List.mem_map.2 ⟨p2, (hall p2).2 ((mem_outsE H.out.ends).2 h2), rfl⟩
          clear hc0 hl0 hall hfl hany
          go_wp2
          refine ⟨⟨k2, _, _, _, _, _, _, HO.out⟩, ?_⟩
          rw [HO.out.rngo.rng.left_eq]
          exact Hlt3.out
        · intro x cv kl y1 y2 w5 cnt5 hkx hlk hv hat hrg5 hlt5 hg5 hs5 hen
          obtain ⟨b, left5, e, rfl, hfb, hbL, hbn, hrng⟩ := rngX_more enc3 HI.out.rngi hfl hkx hlk hrg5
          obtain rfl : x = b := by simpa using e
          obtain ⟨-, ⟨o5, ho5, hc5⟩⟩ := rngX_objs HI.out.rngi
          have hne1 := Hrgo.out
          have hne2 := Hrgi.out
          have hst := HI.out.st.keptAt hg5 (by omega) (by omega) ho5 hc5
          have hro := HI.out.rngo.keep hg5 (by have := Hob.out; simp; omega) (by simp; omega)
          have hlook := hst.look hfb
          have Hst := Lib.hid hst
          have Hro := Lib.hid hro
          have Hrng := Lib.hid hrng
          have Hfb := Lib.hid hfb
          have HbL := Lib.hid hbL
          have Hbn2 := Lib.hid hbn
          have Hlt5 : Hid (cnt5 < wr.rangeLeft ib rgi) := by show _ < _; rw [HI.out.rngi.rng.left_eq]; exact hlt5
          have hk2 : k2 ≤ 250000 := by
            have h1 := nodup_pairs a HI.out.rngi.once
            have h2 : (dn ++ done.map fun b => (a, b)).Nodup := by
              rw [List.nodup_append]
              refine ⟨HR.out.once, h1, fun p hp q hq e => ?_⟩
              subst e
              obtain ⟨z, hz, rfl⟩ := List.mem_map.1 hq
              exact Hbn.out ((HR.out.mem _).1 hp).1
            have h3 := pairs_len h2 (N := N) (fun p hp => by
              rcases List.mem_append.1 hp with h4 | h4
              · have := (HR.out.mem p).1 h4
                exact ⟨(H.out.ends _ _ this.2).1, (H.out.ends _ _ this.2).2⟩
              · obtain ⟨z, hz, rfl⟩ := List.mem_map.1 h4
                exact ⟨HbN.out, (List.mem_filter.1 (HI.out.rngi.sub z hz)).1⟩) HN.out
            rw [List.length_append, List.length_map] at h3
            have := HI.out.len
            omega
          have hpl : (predsP (dn ++ done.map fun b => (a, b)) x).length ≤ 1000000 := by
            have h1 := predsP_len (dn ++ done.map fun b => (a, b)) x
            rw [List.length_append, List.length_map] at h1
            have := HI.out.len
            omega
          have Hk2 := Lib.hid hk2
          obtain ⟨v0, hv0⟩ : ∃ v, hh2 x = v := ⟨_, rfl⟩
          have Hv0 := Lib.hid hv0
          rw [hv0] at hlook
          have HRow : Hid (IntsO w5 w.heap.size v0 (predsP (dn ++ done.map fun b => (a, b)) x)) := by
            have h1 := hst.row x hfb
            rw [hv0] at h1
            exact h1
          clear hkx hlk hv hat hrg5 hlt5 hg5 hs5 hfb hbL hbn hrng ho5 hc5 hst hro hfl hany e hne1 hne2 hk2 hv0
          go_wp2_with (first
            | (at_builtin; refine wpList_append_o rfl _ _ rfl w.heap.size v0 (predsP (dn ++ done.map fun b => (a, b)) x) a rfl (HRow.out.alloc _) ⟨w5.heap.size, 0, none⟩ 1 rfl (news_new w5 #[iv a] 3) hpl (by have := Hst.out.gro.size; simp; omega) ?_
               intro v6 w6 hf6 hg6 hl6
               have hA := World.grownBy_alloc w5 (.cells #[iv a] 3) none
               have hrow := HRow.out.alloc (.cells #[iv a] 3)
               obtain ⟨W7, hup, hst7, hg7⟩ := (Hst.out.kept hA).put Hfb.out (by unfold maxLen; have := Hk2.out; omega) (by rw [Hv0.out]; exact hg6) hf6 (by rw [Hv0.out]; exact hl6)
               have hro7 := (rngX_off (Hro.out.keep hA (by simp) (by simp)) hrow Hob.out (Nat.le_refl _) hg6).keep hg7 (by have := Hob.out; simp; omega) (by have := Hrgo.out; simp; omega)
               have hri7 := (rngX_off (Hrng.out.keep hA (by simp) (by simp)) hrow Hilt.out (Nat.le_refl _) hg6).keep hg7 (by have := Hilt.out; simp; omega) (by have := Hrgo.out; have := Hrgi.out; simp; omega)
               have H7 : Hid (TrIn w w.heap.size ob rgo ib rgi c (k2 + 1) N (doneO ++ [a]) DO left3 cnt3 a dn (outsE N E a) (done ++ [x]) (DI a) left5 cnt5 (DT2.put (il x) (.held v6)) (fun c => if c = x then v6 else hh2 c) W7) := by
                 refine ⟨?_, hro7, hri7, by rw [HI.out.len, List.length_append]; rfl⟩
                 rw [List.map_append, ← List.append_assoc]
                 exact hst7
               clear hf6 hg6 hl6 hA hrow hst7 hg7 hro7 hri7)
            | go_in)
          refine ⟨⟨_, done ++ [x], left5, cnt5, _, _, H7.out⟩, ?_⟩
          rw [H7.out.rngi.rng.left_eq]
          exact Hlt5.out
end Go.Proofs.Ythgkloapnihpaaa

/- Graphs: counts in a map; how many nodes a graph has. -/
namespace Go.Proofs.Ythgkloapnihpaaa
open Go.RowKit Go.Maps Go.WideMaps Go.WideElems Go.ChangeShapes Go.WideShapes

theorem zero3 (w : World) : (zeroValue 3).run Try.prog w = .ok (.int .i64 0) w := by kernel_rfl
/-- A map of counts. -/
structure CntAt (hm k : Nat) (hf : Int → Int) (W : World) : Prop where
  ex : ∃ L DH, DomAt Try.prog 3 il fit64 asIs hm k L DH W ∧ ∀ b, fit64 b → DH.atKey (il b) (.held (iv 0)) = .held (iv (hf b))
section
variable {hm k : Nat} {hf : Int → Int} {W W' : World}
theorem cnt_made (w : World) : CntAt w.heap.size 0 (fun _ => 0) (w.alloc (.map #[] 0)) := ⟨⟨[], .map [], dom_made Try.prog 3 il fit64 asIs w, fun _ _ => rfl⟩⟩
theorem CntAt.kept {row : Option Nat} (h : CntAt hm k hf W) (hg : W.grownBy W' row) (hne : some hm ≠ row) : CntAt hm k hf W' := by
  obtain ⟨L, DH, h1, h2⟩ := h.ex
  exact ⟨⟨L, DH, h1.kept hg hne, h2⟩⟩
theorem CntAt.look (h : CntAt hm k hf W) {b : Int} (hb : fit64 b) : (Instr.lookup 82 (.map (some hm)) (iv b) false).run Try.prog W = .ok (iv (hf b)) W := by
  obtain ⟨L, DH, h1, h2⟩ := h.ex
  exact look_as h1 Try.underlying82 (zero3 W) hb (h2 b hb)
theorem CntAt.obj (h : CntAt hm k hf W) : ∃ o, W.heap[hm]? = some o ∧ o.isCells = false := by
  obtain ⟨L, DH, h1, h2⟩ := h.ex
  exact dom_obj h1
theorem CntAt.lt (h : CntAt hm k hf W) : hm < W.heap.size := by
  obtain ⟨L, DH, h1, h2⟩ := h.ex
  exact h1.own.lt
theorem CntAt.put (h : CntAt hm k hf W) {b v : Int} (hb : fit64 b) (hk : k < maxLen) : ∃ W7, (Instr.mapUpdate 82 (.map (some hm)) (iv b) (iv v)).run Try.prog W = .ok () W7 ∧ CntAt hm (k + 1) (fun c => if c = b then v else hf c) W7 ∧ W.grownBy W7 (some hm) := by
  obtain ⟨L, DH, h1, h2⟩ := h.ex
  obtain ⟨W7, g1, g2, g3⟩ := put_as h1 Try.underlying82 hk hb (iv v) (L' := L ++ [b]) (fun y => by simp)
  refine ⟨W7, g1, ⟨⟨_, _, g2, fun c hc => ?_⟩⟩, g3⟩
  rw [at_put h1 hb hc]
  by_cases e : c = b
  · rw [if_pos e, if_pos e]
  · rw [if_neg e, if_neg e]
    exact h2 c hc
theorem CntAt.congr {hf' : Int → Int} (h : CntAt hm k hf W) (he : ∀ b, fit64 b → hf' b = hf b) : CntAt hm k hf' W := by
  obtain ⟨L, DH, h1, h2⟩ := h.ex
  exact ⟨⟨L, DH, h1, fun b hb => by rw [he b hb]; exact h2 b hb⟩⟩
end
theorem perm_of_mem {l m : List Int} (hl : l.Nodup) (hm : m.Nodup) (h : ∀ x, x ∈ l ↔ x ∈ m) : l.length = m.length :=
  Nat.le_antisymm (len_le hl fun x hx => (h x).1 hx) (len_le hm fun x hx => (h x).2 hx)
theorem predsP_hold {N : List Int} {E : List Ed} (hN : N.Nodup) (hE : EndsIn N E) {dn : List Pr} (hd : dn.Nodup) (hm : ∀ p, p ∈ dn ↔ EdR E p.1 p.2) (b : Int) : (predsP dn b).length = holdN N E [] b := by
  unfold holdN
  refine perm_of_mem (predsP_nodup hd b) (hN.filter _) fun x => ?_
  rw [mem_predsP, hm, List.mem_filter]
  simp only [List.not_mem_nil, not_false_eq_true, decide_true, Bool.true_and, edB_iff]
  exact ⟨fun h => ⟨(hE _ _ h).1, h⟩, fun h => h.2⟩
end Go.Proofs.Ythgkloapnihpaaa
