/- Pairs: all pairs of a relation of texts, rising, by a contract. -/
import Derived.Test.YtadlgkakjaecdaaTb
import Derived.Test.YtadlgkakjaecdaaSt
import Derived.Deep.AppendLies
namespace Go.Proofs.Ytadlgkakjaecdaa
open Go.RowKit Go.Maps Go.WideMaps Go.WideElems Go.ChangeShapes Go.WideShapes
open Go.Sort (flatK get_flatK size_flatK grow putRowK putRow HoldsK Holds putCells mapBlock onCells heap_grow_old SWO PermIn SortedIn)

def enc2T (p : Pr) : List Value := [tv p.1, tv p.2]
/-- Pairs of texts, as cells. -/
def flatT (l : List Pr) : List Value := l.flatMap enc2T
theorem flat_lenT (l : List Pr) : (flatT l).length = l.length * 2 := by
  induction l with
  | nil => rfl
  | cons p l ih => show (_ :: _ :: flatT l).length = _; simp [ih]; omega
theorem flat_snocT (l : List Pr) (p : Pr) : flatT (l ++ [p]) = flatT l ++ enc2T p := by simp [flatT]
theorem flat_getT : ∀ (l : List Pr) (k : Nat) (h : k < l.length), (flatT l)[k * 2]? = some (tv l[k].1) ∧ (flatT l)[k * 2 + 1]? = some (tv l[k].2)
  | p :: l, 0, _ => ⟨rfl, rfl⟩
  | p :: l, k + 1, h => by
    obtain ⟨h0, h1⟩ := flat_getT l k (by simpa using h)
    have e : ∀ j, (flatT (p :: l))[(k + 1) * 2 + j]? = (flatT l)[k * 2 + j]? := fun j => by
      show (_ :: _ :: flatT l)[_]? = _
      rw [show (k + 1) * 2 + j = (k * 2 + j) + 1 + 1 by omega, List.getElem?_cons_succ, List.getElem?_cons_succ]
    exact ⟨(e 0).trans h0, (e 1).trans h1⟩
theorem flat_oneT (l : List Pr) : ∀ u ∈ flatT l, u.oneCell' = true := by
  intro u hu
  obtain ⟨p, _, hp⟩ := List.mem_flatMap.1 hu
  simp [enc2T] at hp
  rcases hp with rfl | rfl <;> rfl
theorem flatK_flatT (l : List Pr) : (flatK enc2T 2 l.toArray).toList = flatT l := by
  refine List.ext_getElem? fun t => ?_
  by_cases ht : t < l.length * 2
  · have h1 := get_flatK enc2T 2 l.toArray t (by simpa using ht)
    have hk : t / 2 < l.length := by omega
    obtain ⟨g0, g1⟩ := flat_getT l (t / 2) hk
    have hs : t < (flatK enc2T 2 l.toArray).size := by simpa using ht
    rw [Array.getElem?_toList, Array.getElem?_eq_getElem hs, ← getElem!_pos _ t hs, h1]
    have e1 : l.toArray[t / 2]! = l[t / 2] := by simp [hk]
    rw [e1]
    rcases (show t % 2 = 0 ∨ t % 2 = 1 by omega) with e | e
    · have e2 : t = t / 2 * 2 := by omega
      rw [e]
      conv => rhs; rw [e2]
      rw [g0]; rfl
    · have e2 : t = t / 2 * 2 + 1 := by omega
      rw [e]
      conv => rhs; rw [e2]
      rw [g1]; rfl
  · rw [List.getElem?_eq_none (by simp; omega), List.getElem?_eq_none (by rw [flat_lenT]; omega)]

theorem holds_pairsT {W : World} {B g n c : Nat} {l : List Pr} (h : W.ownsRow B 52 2 (.slice (some ⟨g, 0, none⟩) n c) n (flatT l)) (hl : l.length = n) : HoldsK enc2T 2 W g 0 l.toArray := by
  rcases h.2 with ⟨e, _⟩ | ⟨g', cap, cur, e, _, hg, _, _, _, ht⟩
  · cases e
  cases e
  intro j hj
  have hj' : j < l.length * 2 := by simpa using hj
  refine ⟨?_, by simp [World.frozen?, hg]⟩
  have h1 : (cur.toList.take (n * 2))[j]? = (flatT l)[j]? := by rw [ht]
  rw [List.getElem?_take_of_lt (by omega)] at h1
  simp only [World.cell?, hg, Nat.zero_add, Option.isSome_none, Bool.false_eq_true, if_false]
  rw [← Array.getElem?_toList, h1, ← flatK_flatT, Array.getElem?_toList, Array.getElem?_eq_getElem hj, getElem!_pos _ j hj]
  rfl
theorem heap_sortedKT {w : World} {g m : Nat} {os : Array Obj} {cur : Array Value} {e : TypeId} {fr : Nat × Nat} (d : Array Pr) (hb : w.heap[g]? = some (.cells cur e fr)) :
    (sortWorldK enc2T 2 w g 0 m d os).heap[g]? = some (.cells (putCells id 0 (flatK enc2T 2 d) cur) e fr) := by
  have hg : g < w.heap.size := (Array.getElem?_eq_some_iff.1 hb).1
  unfold sortWorldK
  rw [heap_grow_old _ _ (by simpa [putRowK, putRow, mapBlock, Sort.ahead] using hg)]
  simp [putRowK, putRow, mapBlock, Sort.ahead, Array.getElem?_modify, hb, onCells]
theorem grownBy_sortedKT {w : World} {g m : Nat} {os : Array Obj} (d : Array Pr) : w.grownBy (sortWorldK enc2T 2 w g 0 m d os) (some g) := by
  refine ⟨rfl, rfl, rfl, by simp [sortWorldK, grow, putRowK, putRow, mapBlock, Sort.ahead], fun k hk hne => ?_⟩
  unfold sortWorldK
  rw [heap_grow_old _ _ (by simpa [putRowK, putRow, mapBlock, Sort.ahead] using hk)]
  have : g ≠ k := fun e => hne (by rw [e])
  simp [putRowK, putRow, mapBlock, Sort.ahead, Array.getElem?_modify, this]
theorem take_sortedKT (cur : Array Value) (l : List Pr) (h : l.length * 2 ≤ cur.size) : (putCells id 0 (flatK enc2T 2 l.toArray) cur).toList.take (l.length * 2) = flatT l := by
  refine List.ext_getElem? fun j => ?_
  by_cases hj : j < l.length * 2
  · have hs : j < (flatK enc2T 2 l.toArray).size := by simpa using hj
    have e2 : (flatT l)[j]? = some (flatK enc2T 2 l.toArray)[j] := by rw [← flatK_flatT, Array.getElem?_toList, Array.getElem?_eq_getElem hs]
    have hc : j < cur.size := by omega
    rw [List.getElem?_take_of_lt hj, Array.getElem?_toList, e2]
    simp [putCells, hj, hc]
  · rw [List.getElem?_take_eq_none (by omega), List.getElem?_eq_none (by rw [flat_lenT]; omega)]
theorem row_sortedKT {w : World} {B g n c m : Nat} {os : Array Obj} {l l' : List Pr} (h : w.ownsRow B 52 2 (.slice (some ⟨g, 0, none⟩) n c) n (flatT l)) (hl : l'.length = n) : (sortWorldK enc2T 2 w g 0 m l'.toArray os).ownsRow B 52 2 (.slice (some ⟨g, 0, none⟩) n c) n (flatT l') := by
  rcases h.2 with ⟨e, _⟩ | ⟨g', cap, cur, e, hB, hg, h1, h2, h3, _⟩
  · cases e
  cases e
  exact ⟨by rw [flat_lenT, hl], .inr ⟨g, c, _, rfl, hB, heap_sortedKT _ hg, h1, h2, by simp [putCells, h3], by rw [← hl]; exact take_sortedKT cur l' (by omega)⟩⟩
theorem sort_rowT (B g n c : Nat) (l : List Pr) (w : World) (h : w.ownsRow B 52 2 (.slice (some ⟨g, 0, none⟩) n c) n (flatT l)) (hl : l.length = n) (hn : n ≤ 1000000) (hfit : ∀ p ∈ l, FitQ p) :
    Calls Try.prog 44 #[.slice (some ⟨g, 0, none⟩) n c, .func (.func 45) #[] #[]] w fun e w' => e = .returned (.tuple #[]) ∧ ∃ l', Hid (l'.Perm l ∧ l'.Pairwise (fun p q => ¬ LtP q p) ∧ w'.ownsRow B 52 2 (.slice (some ⟨g, 0, none⟩) n c) n (flatT l') ∧ w.grownBy w' (some g)) := by
  have eg : ∀ args w, (callFunc 45 args).run Try.prog w = .ok (.enter 45 args) w := enters_of Try.func45 (by kernel_rfl) rfl
  have hg : g < w.heap.size := by
    rcases h.2 with ⟨e, _⟩ | ⟨g', cap, cur, e, _, hg, _⟩
    · cases e
    · cases e; exact (Array.getElem?_eq_some_iff.1 hg).1
  have hcon := AnyQ.slices_SortFunc Try.sortTxs 2 Try.isAgg52 Try.sizeOf52 enc2T (fun _ => rfl) (fun x v hv => by simp [enc2T] at hv; rcases hv with rfl | rfl <;> rfl) cmpQ swoQ 45 #[] g 0 c l.toArray w eg
    (fun m os dk _ x y => (cmp_pairsT x y _).mono fun _ _ ⟨h1, h2⟩ => ⟨h1, h2.out⟩) (holds_pairsT h hl) hg (by simp; omega)
  have hsz : l.toArray.size = n := by simpa using hl
  rw [hsz] at hcon
  refine hcon.mono fun e w' ⟨h1, d', m, os, hp, hs, hw⟩ => ?_
  have hperm : d'.toList.Perm l := by
    have hd : d'.size = n := by rw [hp.1, hsz]
    have h2 := hp.2.2
    rwa [show d'.extract 0 n = d' by rw [← hd]; simp, show l.toArray.extract 0 n = l.toArray by rw [← hsz]; simp] at h2
  have hfd : ∀ p ∈ d', FitQ p := fun p hp' => hfit p (hperm.mem_iff.1 (by simpa using hp'))
  refine ⟨h1, d'.toList, hperm, ?_, ?_, ?_⟩
  · have hd : d'.size = n := by rw [hp.1, hsz]
    refine List.pairwise_iff_getElem.2 fun i j hi hj hij => ?_
    have h2 := hs i j (Nat.zero_le _) hij (by simpa [hd] using hj)
    have hi' : i < d'.size := by simpa using hi
    have hj' : j < d'.size := by simpa using hj
    rw [getElem!_pos d' i hi', getElem!_pos d' j hj', ltQ_of (hfd _ (Array.getElem_mem hj')) (hfd _ (Array.getElem_mem hi'))] at h2
    simpa using h2
  · rw [hw]
    have := row_sortedKT (m := m) (os := os) h (l' := d'.toList) (by rw [Array.length_toList, hp.1, hsz])
    rwa [Array.toArray_toList] at this
  · rw [hw]; exact grownBy_sortedKT d'

theorem elem52 : (Try.prog.info? 52).map (fun i => (i.zero, i.size, i.bytes)) = some (some (.agg #[.string ⟨#[]⟩, .string ⟨#[]⟩]), 2, 32) := by kernel_rfl
set_option maxHeartbeats 2000000 in
theorem pairs_anyT (r b : Nat) (L : List Pr) (D : DU) (hn : L.length ≤ 1000000) (w : World) (h : RelT r b L D w) :
    Calls Try.prog 33 #[.pointer (some ⟨r, 0, none⟩)] w fun e w' => ∃ v' l, e = .returned v' ∧ Hid (RiseP l ∧ (∀ p, p ∈ l ↔ p ∈ L) ∧ l.length = L.length ∧ w'.ownsRow w.heap.size 52 2 v' l.length (flatT l) ∧ Below w.heap.size w w') := by
  obtain ⟨i0, hi, hz0, hz1, hz2⟩ := info_parts elem52
  have H := Lib.hid h
  have c0 := h.box.cell
  have hl := h.prs.dom.own.len Try.underlying70
  rw [h.prs.size] at hl
  obtain ⟨n, hnn⟩ : ∃ n, L.length = n := ⟨_, rfl⟩
  rw [hnn] at hl hn
  have Hn := Lib.hid hnn
  clear h hnn
  go_enter Try.func33, Try.ntmps33
  go_wp2_with (first
    | (at_make; refine wpList_make_own _ rfl _ _ 50 rfl w.heap.size 52 i0 (.agg #[.string ⟨#[]⟩, .string ⟨#[]⟩]) 2 Try.underlying50 hi hz0 hz1 _ _ _ n rfl rfl rfl (by rw [hz2]; omega) (by unfold maxLen; omega) (Nat.le_refl _) ?_))
  intro w1 hown1 hgrow1
  have Hw1 : Hid (Below w.heap.size w w1) := (Below.refl _ _).grown hgrow1 (Nat.le_refl _) (fun k hk => by cases hk)
  have H1 := Lib.hid (H.out.below Hw1.out)
  have c1 := H1.out.box.cell
  have Hown1 := Lib.hid hown1
  clear hown1 hgrow1 hl c0
  have Hv1 : Hid (Value.slice (some ⟨w.heap.size, 0, none⟩) 0 n ≠ .slice none 0 0) := by intro e; cases e
  generalize Value.slice (some ⟨w.heap.size, 0, none⟩) 0 n = v1 at *
  go_wp2_with (first | (at_range; refine wpList_range_own _ rfl _ 70 rfl 52 62 K52 Try.underlying70 unitElem b L.length D rfl H1.out.prs.dom.own ?_; intro w2 hrg2 hg2 hs2) | go_in)
  go_frame
  have H2 : Hid (RngX Try.prog 52 tpl FitQ unitElem b w1.heap.size L.length L [] D (has D) (Maps.size D) w2 ∧ w2.ownsRow w.heap.size 52 2 v1 0 (flatT []) ∧ Below w.heap.size w w2 ∧ v1 ≠ .slice none 0 0) := ⟨rngX_start H1.out.prs.dom hrg2, ownsRow_below Hown1.out ((Below.refl _ _).grown hg2 (Nat.le_refl _) (fun k hk => by cases hk)), Hw1.out.trans ((Below.refl _ _).grown hg2 Hw1.out.size (fun k hk => by cases hk)), Hv1.out⟩
  have Hfit := Lib.hid H.out.prs.dom.fit
  have Honce := Lib.hid H.out.prs.once
  obtain ⟨rg, hrg⟩ : ∃ rg, w1.heap.size = rg := ⟨_, rfl⟩
  rw [hrg] at H2 ⊢
  have Hwr : Hid (w.heap.size ≤ rg) := by show _ ≤ _; rw [← hrg]; exact Hw1.out.size
  clear hrg2 hg2 hs2 hrg Hown1 c1
  go_loopw [3, 4] (fun v _ wr => ∃ done left cnt, Hid (RngX Try.prog 52 tpl FitQ unitElem b rg L.length L done D left cnt wr ∧ wr.ownsRow w.heap.size 52 2 v done.length (flatT done) ∧ Below w.heap.size w wr ∧ v ≠ .slice none 0 0)) (fun _ _ wr => wr.rangeLeft b rg)
  case atStart => exact ⟨[], _, _, H2⟩
  case round =>
    obtain ⟨done, left, cnt, HR⟩ := hrel
    go_wp2_with (first | (at_next; refine wpList_next_ranges _ rfl _ rfl 52 K52 unitElem (fun x : ByteArray × ByteArray => .agg #[.string x.1, .string x.2]) (fun _ : Unit => .agg #[]) invQ invU b rg L.length D left cnt rfl HR.out.1.rng ?_ ?_) | go_in)
    · intro hc0 hl0
      clear hc0
      have hall := rngX_all HR.out.1 Hfit.out hl0
      have hlen : done.length = n := by
        rw [← Hn.out]
        exact Nat.le_antisymm (nodup_len HR.out.1.once (fun p hp => (hall p).1 hp)) (nodup_len Honce.out (fun p hp => (hall p).2 hp))
      have hrow := HR.out.2.1
      rw [hlen] at hrow
      have Hall := Lib.hid hall
      have Hlen := Lib.hid hlen
      clear hall hlen hl0
      obtain ⟨g, cv, rfl⟩ : ∃ g cv, u3 = .slice (some ⟨g, 0, none⟩) n cv := by
        rcases hrow.2 with ⟨e, _⟩ | ⟨g, cap, cur, e, _⟩
        · exact absurd e HR.out.2.2.2
        · exact ⟨g, cap, e⟩
      have HS := Lib.hid (sort_rowT w.heap.size g n cv done wr hrow Hlen.out hn (fun p hp => Hfit.out p (HR.out.1.sub p hp)))
      have hgw : w.heap.size ≤ g := (hrow.lt g rfl).1
      have Hgw := Lib.hid hgw
      clear hrow hgw
      go_wp2_with (first | (go_at_call 44; refine HS.out.mono ?_; rintro e w6 ⟨rfl, l', h6⟩))
      go_ret
      have hperm := h6.out.1
      have hll : l'.length = n := by rw [hperm.length_eq, Hlen.out]
      have hnd : l'.Nodup := hperm.symm.nodup HR.out.1.once
      refine ⟨_, l', rfl, ?_, fun p => ⟨fun hp => (Hall.out p).1 (hperm.mem_iff.1 hp), fun hp => hperm.mem_iff.2 ((Hall.out p).2 hp)⟩, by rw [hll, Hn.out], by rw [hll]; exact h6.out.2.2.1, HR.out.2.2.1.grown h6.out.2.2.2 HR.out.2.2.1.size (fun k e => by cases e; exact Hgw.out)⟩
      refine (h6.out.2.1.and hnd).imp (fun {p q} hpq => ?_)
      rcases ltP_tri p q with e | e | e
      · exact e
      · exact absurd e hpq.2
      · exact absurd e hpq.1
    · intro s1 s2 kl y1 y2 w3 cnt3 hkx hlk hv hat hrg3 hlt3 hg3 hs3 hen
      obtain ⟨⟨x1, x2⟩, left3, hke, rfl, hfx, hxL, hxn, hrng⟩ := rngX_more enc52 HR.out.1 Hfit.out hkx hlk hrg3
      obtain ⟨rfl, rfl⟩ : s1 = tb x1 ∧ s2 = tb x2 := by simpa using hke
      clear hke
      obtain ⟨⟨ob, hob, hob2⟩, ⟨org, horg, horg2⟩⟩ := rngX_objs HR.out.1
      have hro := HR.out.2.1
      have hrow3 := row_keep hro hg3 (fun k e => by cases e; exact row_no hro horg horg2)
      have Hrow3 := Lib.hid hrow3
      have Hrng := Lib.hid hrng
      have hle : done.length < n := by
        rw [← Hn.out]
        have := nodup_len hrng.once hrng.sub
        simp at this
        omega
      have Hle := Lib.hid hle
      have Hmeas : Hid (cnt3 < wr.rangeLeft b rg) := by show _ < _; rw [HR.out.1.rng.left_eq]; exact hlt3
      have Hw3 : Hid (Below w.heap.size w w3) := HR.out.2.2.1.grown hg3 HR.out.2.2.1.size (fun k e => by cases e; exact Hwr.out)
      obtain ⟨W4, hW4, hb4, hs4, k0, k1⟩ := two_new w3 (tv x1) (tv x2) 52
      have Hrow4 := Lib.hid (ownsRow_below Hrow3.out hb4.out)
      have Hrng4 := Lib.hid (Hrng.out.keep (grown_below hb4.out) (by simp) (by simp))
      have Hw4 : Hid (Below w.heap.size w W4) := Hw3.out.trans (hb4.out.mono Hw3.out.size)
      have Hm4 : Hid (W4.rangeLeft b rg < wr.rangeLeft b rg) := by show _ < _; rw [Hrng4.out.rng.left_eq]; exact Hmeas.out
      have HA : Hid (w.heap.size ≤ (W4.alloc (.cells #[tv x1, tv x2] 52)).heap.size) := by
        show _ ≤ _
        simp
        have := Hw4.out.size
        omega
      clear hkx hlk hv hat hrg3 hlt3 hg3 hs3 hxL hxn hrng hob horg hro hrow3 hle hfx
      go_wp2_with (at_builtin; refine wpList_append_own _ rfl _ _ 50 rfl w.heap.size 52 i0 (.agg #[.string ⟨#[]⟩, .string ⟨#[]⟩]) 2 32 Try.underlying50 hi hz0 hz1 hz2 rfl (by decide) u3 done.length (flatT done) rfl (Hrow4.out.alloc _) ⟨W4.heap.size, 0, none⟩ 1 1 [tv x1, tv x2] rfl rfl (news_new _ _ _) (flat_oneT [(x1, x2)]) (by unfold maxLen; have := Hle.out; omega) (by have := Hle.out; omega) HA.out ?_)
      intro v5 w5 hown5 hgrow5 hnil5
      have Hv5 : Hid (v5 ≠ .slice none 0 0) := fun e => hnil5 e
      clear hnil5
      obtain ⟨⟨ob, hob, hob2⟩, ⟨org, horg, horg2⟩⟩ := rngX_objs Hrng4.out
      have hb5 := Hrng4.out.keep (World.grownBy_alloc W4 (.cells #[tv x1, tv x2] 52) none) (by simp) (by simp)
      have Hrng5 := Lib.hid (hb5.keep hgrow5 (row_no Hrow4.out hob hob2).symm (row_no Hrow4.out horg horg2).symm)
      have Hw5 : Hid (Below w.heap.size w w5) := (Hw4.out.alloc Hw4.out.size _).grown hgrow5 HA.out (fun k hk => (Hrow4.out.lt k hk).1)
      have Hown5 : Hid (w5.ownsRow w.heap.size 52 2 v5 (done ++ [(x1, x2)]).length (flatT (done ++ [(x1, x2)]))) := by
        show World.ownsRow _ _ _ _ _ _ _
        rw [flat_snocT, List.length_append]
        exact hown5
      have Hm5 : Hid (w5.rangeLeft b rg < wr.rangeLeft b rg) := by show _ < _; rw [Hrng5.out.rng.left_eq, ← Hrng4.out.rng.left_eq]; exact Hm4.out
      clear hown5 hgrow5 hob hob2 horg horg2 hb5
      go_wp2
      go_roundw
      case rel => exact ⟨done ++ [(x1, x2)], _, _, Hrng5.out, Hown5.out, Hw5.out, Hv5.out⟩
      case measure => exact Hm5.out
end Go.Proofs.Ytadlgkakjaecdaa
