/- Pairs: all pairs of a relation, rising, by a contract. -/
import Derived.Test.YtadlgkakjaecdaaRs
import Derived.Test.YtadlgkakjaecdaaSh
import Derived.Shelf.SlSortCmp.WholeK
import Derived.Deep.AppendLies
namespace Go.Proofs.Ytadlgkakjaecdaa
open Go.RowKit Go.Maps Go.WideMaps Go.WideElems Go.ChangeShapes Go.WideShapes
open Go.Sort (SWO PermIn SortedIn)

theorem ltP_of (x y : Pr) : ltOf cmpP x y = decide (LtP x y) := by
  have h := cmpP_lt x y
  by_cases hl : LtP x y
  · rw [decide_eq_true hl]; unfold ltOf; simp [h.2 hl]
  · rw [decide_eq_false hl]; unfold ltOf; simp; have := mt h.1 hl; omega
theorem swoP : SWO (ltOf cmpP) where
  irrefl x := by rw [ltP_of]; simp [LtP.irrefl]
  trans x y z h1 h2 := by rw [ltP_of] at *; simp only [decide_eq_true_eq] at *; exact h1.trans h2
  ntrans x y z h1 h2 := by
    rw [ltP_of] at *
    simp only [decide_eq_false_iff_not] at *
    intro h
    rcases ltP_tri x y with e | e | e
    · exact h1 e
    · subst e; exact h2 h
    · exact h2 (e.trans h)
theorem sort_row (B g n c : Nat) (l : List Pr) (w : World) (h : w.ownsRow B 57 2 (.slice (some ⟨g, 0, none⟩) n c) n (flat l)) (hl : l.length = n) (hn : n ≤ 1000000) :
    Calls Try.prog 48 #[.slice (some ⟨g, 0, none⟩) n c, .func (.func 49) #[] #[]] w fun e w' => e = .returned (.tuple #[]) ∧ ∃ l', Hid (l'.Perm l ∧ l'.Pairwise (fun p q => ¬ LtP q p) ∧ w'.ownsRow B 57 2 (.slice (some ⟨g, 0, none⟩) n c) n (flat l') ∧ w.grownBy w' (some g)) := by
  have eg : ∀ args w, (callFunc 49 args).run Try.prog w = .ok (.enter 49 args) w := enters_of Try.func49 (by kernel_rfl) rfl
  have hg : g < w.heap.size := by
    rcases h.2 with ⟨e, _⟩ | ⟨g', cap, cur, e, _, hg, _⟩
    · cases e
    · cases e; exact (Array.getElem?_eq_some_iff.1 hg).1
  have hcon := AnyQ.slices_SortFunc Try.sortPrs 2 Try.isAgg57 Try.sizeOf57 enc2 (fun _ => rfl) (fun x v hv => by simp [enc2] at hv; rcases hv with rfl | rfl <;> rfl) cmpP swoP 49 #[] g 0 c l.toArray w eg
    (fun m os dk _ x y => (cmp_pairs x y _).mono fun _ _ ⟨h1, h2⟩ => ⟨h1, h2.out⟩) (holds_pairs h hl) hg (by simp; omega)
  have hsz : l.toArray.size = n := by simpa using hl
  rw [hsz] at hcon
  refine hcon.mono fun e w' ⟨h1, d', m, os, hp, hs, hw⟩ => ⟨h1, d'.toList, ?_, ?_, ?_, ?_⟩
  · have hd : d'.size = n := by rw [hp.1, hsz]
    have h2 := hp.2.2
    rwa [show d'.extract 0 n = d' by rw [← hd]; simp, show l.toArray.extract 0 n = l.toArray by rw [← hsz]; simp] at h2
  · have hd : d'.size = n := by rw [hp.1, hsz]
    refine List.pairwise_iff_getElem.2 fun i j hi hj hij => ?_
    have h2 := hs i j (Nat.zero_le _) hij (by simpa [hd] using hj)
    have hi' : i < d'.size := by simpa using hi
    have hj' : j < d'.size := by simpa using hj
    rw [getElem!_pos d' i hi', getElem!_pos d' j hj', ltP_of] at h2
    simpa using h2
  · rw [hw]
    have := row_sortedK (m := m) (os := os) h (l' := d'.toList) (by rw [Array.length_toList, hp.1, hsz])
    rwa [Array.toArray_toList] at this
  · rw [hw]; exact grownBy_sortedK d'

theorem ownsRow_below {W W' : World} {B e size n : Nat} {v : Value} {xs : List Value} (h : W.ownsRow B e size v n xs) (hb : Below W.heap.size W W') : W'.ownsRow B e size v n xs :=
  ⟨h.1, h.2.imp id fun ⟨g, cap, cur, e, hB, hg, r⟩ => ⟨g, cap, cur, e, hB, (hb.block g (Array.getElem?_eq_some_iff.1 hg).1).trans hg, r⟩⟩
/-- A row of cells is no block of another kind. -/
theorem row_no {W : World} {B e size n k : Nat} {v : Value} {xs : List Value} {o : Obj} (h : W.ownsRow B e size v n xs) (hk : W.heap[k]? = some o) (ho : o.isCells = false) : v.ownBlock ≠ some k := by
  rcases h.2 with ⟨rfl, _⟩ | ⟨g, cap, cur, rfl, _, hg, _⟩
  · simp [Value.ownBlock]
  · intro e1
    have e2 : g = k := by simpa [Value.ownBlock] using e1
    subst e2
    rw [hk] at hg
    cases hg
    cases ho
theorem row_keep {W W' : World} {B e size n : Nat} {v : Value} {xs : List Value} {row : Option Nat} (h : W.ownsRow B e size v n xs) (hg : W.grownBy W' row) (hr : ∀ k, row = some k → v.ownBlock ≠ some k) : W'.ownsRow B e size v n xs :=
  ⟨h.1, h.2.imp id fun ⟨g, cap, cur, e1, hB, hgg, r⟩ => ⟨g, cap, cur, e1, hB, (hg.block g (Array.getElem?_eq_some_iff.1 hgg).1 (fun e2 => hr g e2.symm (by rw [e1]; rfl))).trans hgg, r⟩⟩
theorem RngP.keep {b r cnt : Nat} {L done : List Pr} {D : DU} {left : Lit → Bool} {W W' : World} {row : Option Nat} (h : RngP Try.prog 57 b r L done D left cnt W) (hg : W.grownBy W' row) (h1 : some b ≠ row) (h2 : some r ≠ row) : RngP Try.prog 57 b r L done D left cnt W' :=
  ⟨h.rng.kept hg h1 h2, h.left_iff, h.once, h.sub⟩
theorem rng_objs {b r cnt : Nat} {L done : List Pr} {D : DU} {left : Lit → Bool} {W : World} (h : RngP Try.prog 57 b r L done D left cnt W) : (∃ o, W.heap[b]? = some o ∧ o.isCells = false) ∧ (∃ o, W.heap[r]? = some o ∧ o.isCells = false) := by
  obtain ⟨es, clock, since, seen, c0, h1, _, _, _, h2, _⟩ := h.rng
  exact ⟨⟨_, h1, rfl⟩, ⟨_, h2, rfl⟩⟩
theorem invK57 : ∀ key kl, keyOf Try.prog 57 key = some kl → ∃ x, key = pv x := fun _ _ h => by
  obtain ⟨p, h1, _⟩ := key_inv A57 Try.underlying3 sz57 h
  exact ⟨p, h1⟩
theorem inv57 {x : Pr} {kl : Lit} (h : keyOf Try.prog 57 (pv x) = some kl) : FitP x ∧ kl = pl x := by
  obtain ⟨p, h1, h2, h3⟩ := key_inv A57 Try.underlying3 sz57 h
  have : x = p := by
    obtain ⟨a, b⟩ := x
    obtain ⟨c, d⟩ := p
    simp at h1
    obtain ⟨rfl, rfl⟩ := h1
    rfl
  subst this
  exact ⟨h2, h3⟩
theorem invU : ∀ (v : Value) (y : DU × List MemPlace), unitElem v = some y → ∃ _c : Unit, v = .agg #[] := fun _ _ h => ⟨(), (unitElem_inv h).1⟩
theorem news_new (w : World) (cs : Array Value) (t : TypeId) : ∀ j u, cs.toList[j]? = some u → (w.alloc (.cells cs t)).cell? ((⟨w.heap.size, 0, none⟩ : Addr).add j) = some u := World.news_of_block (World.alloc_heap_new w _)

theorem elem57 : (Try.prog.info? 57).map (fun i => (i.zero, i.size, i.bytes)) = some (some (.agg #[.int .i64 0, .int .i64 0]), 2, 16) := by kernel_rfl

set_option maxHeartbeats 2000000 in
theorem pairs_any (r b : Nat) (L : List Pr) (D : DU) (hn : L.length ≤ 1000000) (w : World) (h : RelAt r b L D w) :
    Calls Try.prog 36 #[.pointer (some ⟨r, 0, none⟩)] w fun e w' => ∃ v' l, e = .returned v' ∧ Hid (RiseP l ∧ (∀ p, p ∈ l ↔ p ∈ L) ∧ l.length = L.length ∧ w'.ownsRow w.heap.size 57 2 v' l.length (flat l) ∧ Below w.heap.size w w') := by
  obtain ⟨i0, hi, hz0, hz1, hz2⟩ := info_parts elem57
  have H := Lib.hid h
  have c0 := h.box.cell
  have hl := h.prs.own.len Try.underlying59
  rw [h.prs.size] at hl
  obtain ⟨n, hnn⟩ : ∃ n, L.length = n := ⟨_, rfl⟩
  rw [hnn] at hl hn
  have Hn := Lib.hid hnn
  clear h hnn
  go_enter Try.func36, Try.ntmps36
  go_wp2_with (first
    | (at_make; refine wpList_make_own _ rfl _ _ 55 rfl w.heap.size 57 i0 (.agg #[.int .i64 0, .int .i64 0]) 2 Try.underlying55 hi hz0 hz1 _ _ _ n rfl rfl rfl (by rw [hz2]; omega) (by unfold maxLen; omega) (Nat.le_refl _) ?_))
  intro w1 hown1 hgrow1
  have Hw1 : Hid (Below w.heap.size w w1) := (Below.refl _ _).grown hgrow1 (Nat.le_refl _) (fun k hk => by cases hk)
  have H1 := Lib.hid (H.out.below Hw1.out)
  have c1 := H1.out.box.cell
  have Hown1 := Lib.hid hown1
  clear hown1 hgrow1 hl c0
  have Hv1 : Hid (Value.slice (some ⟨w.heap.size, 0, none⟩) 0 n ≠ .slice none 0 0) := by intro e; cases e
  generalize Value.slice (some ⟨w.heap.size, 0, none⟩) 0 n = v1 at *
  go_wp2_with (first | (at_range; refine wpList_range_own _ rfl _ 59 rfl 57 62 K57 Try.underlying59 unitElem b L.length D rfl H1.out.prs.own ?_; intro w2 hrg2 hg2 hs2) | go_in)
  go_frame
  have H2 : Hid (RngP Try.prog 57 b w1.heap.size L [] D (has D) (Maps.size D) w2 ∧ w2.ownsRow w.heap.size 57 2 v1 0 (flat []) ∧ Below w.heap.size w w2 ∧ v1 ≠ .slice none 0 0) := ⟨rng_start H1.out.prs hrg2, ownsRow_below Hown1.out ((Below.refl _ _).grown hg2 (Nat.le_refl _) (fun k hk => by cases hk)), Hw1.out.trans ((Below.refl _ _).grown hg2 Hw1.out.size (fun k hk => by cases hk)), Hv1.out⟩
  have Hfit := Lib.hid H.out.prs.fit
  have Honce := Lib.hid H.out.prs.once
  obtain ⟨rg, hrg⟩ : ∃ rg, w1.heap.size = rg := ⟨_, rfl⟩
  rw [hrg] at H2 ⊢
  have Hwr : Hid (w.heap.size ≤ rg) := by show _ ≤ _; rw [← hrg]; exact Hw1.out.size
  clear hrg2 hg2 hs2 hrg Hown1 c1
  go_loopw [3, 4] (fun v _ wr => ∃ done left cnt, Hid (RngP Try.prog 57 b rg L done D left cnt wr ∧ wr.ownsRow w.heap.size 57 2 v done.length (flat done) ∧ Below w.heap.size w wr ∧ v ≠ .slice none 0 0)) (fun _ _ wr => wr.rangeLeft b rg)
  case atStart => exact ⟨[], _, _, H2⟩
  case round =>
    obtain ⟨done, left, cnt, HR⟩ := hrel
    go_wp2_with (first | (at_next; refine wpList_next_ranges _ rfl _ rfl 57 K57 unitElem pv (fun _ : Unit => .agg #[]) invK57 invU b rg L.length D left cnt rfl HR.out.1.rng ?_ ?_) | go_in)
    · intro hc0 hl0
      clear hc0
      have hall := rng_all HR.out.1 Hfit.out hl0
      have hlen : done.length = n := by
        rw [← Hn.out]
        exact Nat.le_antisymm (nodup_len HR.out.1.once (fun p hp => (hall p).1 hp)) (nodup_len Honce.out (fun p hp => (hall p).2 hp))
      have hrow := HR.out.2.1
      rw [hlen] at hrow
      have Hall := Lib.hid hall
      have Hlen := Lib.hid hlen
      clear hall hlen hl0
      obtain ⟨g, cv, rfl⟩ : ∃ g cv, u3 = .slice (some ⟨g, 0, none⟩) n cv := by
        rcases hrow.2 with ⟨e, _⟩ | ⟨g, cap, cur, e, _⟩
        · exact absurd e HR.out.2.2.2
        · exact ⟨g, cap, e⟩
      have HS := Lib.hid (sort_row w.heap.size g n cv done wr hrow Hlen.out hn)
      have hgw : w.heap.size ≤ g := (hrow.lt g rfl).1
      have Hgw := Lib.hid hgw
      clear hrow hgw
      go_wp2_with (first | (go_at_call 48; refine HS.out.mono ?_; rintro e w6 ⟨rfl, l', h6⟩))
      go_ret
      have hperm := h6.out.1
      have hll : l'.length = n := by rw [hperm.length_eq, Hlen.out]
      have hnd : l'.Nodup := hperm.symm.nodup HR.out.1.once
      refine ⟨_, l', rfl, ?_, fun p => ⟨fun hp => (Hall.out p).1 (hperm.mem_iff.1 hp), fun hp => hperm.mem_iff.2 ((Hall.out p).2 hp)⟩, by rw [hll, Hn.out], by rw [hll]; exact h6.out.2.2.1, HR.out.2.2.1.grown h6.out.2.2.2 HR.out.2.2.1.size (fun k e => by cases e; exact Hgw.out)⟩
      refine (h6.out.2.1.and hnd).imp (fun {p q} hpq => ?_)
      rcases ltP_tri p q with e | e | e
      · exact e
      · exact absurd e hpq.2
      · exact absurd e hpq.1
    · intro x1 x2 kl y1 y2 w3 cnt3 hkx hlk hv hat hrg3 hlt3 hg3 hs3 hen
      obtain ⟨hfx, rfl⟩ := inv57 (x := (x1, x2)) hkx
      obtain ⟨hxL, hxn, hrng⟩ := rng_more A57 Try.underlying3 sz57 K57 HR.out.1 hfx hlk hrg3
      obtain ⟨⟨ob, hob, hob2⟩, ⟨org, horg, horg2⟩⟩ := rng_objs HR.out.1
      have hro := HR.out.2.1
      have hrow3 := row_keep hro hg3 (fun k e => by cases e; exact row_no hro horg horg2)
      have Hrow3 := Lib.hid hrow3
      have Hrng := Lib.hid hrng
      have hle : done.length < n := by
        rw [← Hn.out]
        have := nodup_len hrng.once hrng.sub
        simp at this
        omega
      have Hle := Lib.hid hle
      have Hmeas : Hid (cnt3 < wr.rangeLeft b rg) := by show _ < _; rw [HR.out.1.rng.left_eq]; exact hlt3
      have Hw3 : Hid (Below w.heap.size w w3) := HR.out.2.2.1.grown hg3 HR.out.2.2.1.size (fun k e => by cases e; exact Hwr.out)
      obtain ⟨W4, hW4, hb4, hs4, k0, k1⟩ := two_new w3 (.int .i64 x1) (.int .i64 x2) 57
      have Hrow4 := Lib.hid (ownsRow_below Hrow3.out hb4.out)
      have Hrng4 := Lib.hid (Hrng.out.keep (grown_below hb4.out) (by simp) (by simp))
      have Hw4 : Hid (Below w.heap.size w W4) := Hw3.out.trans (hb4.out.mono Hw3.out.size)
      have Hm4 : Hid (W4.rangeLeft b rg < wr.rangeLeft b rg) := by show _ < _; rw [Hrng4.out.rng.left_eq]; exact Hmeas.out
      have HA : Hid (w.heap.size ≤ (W4.alloc (.cells #[.int .i64 x1, .int .i64 x2] 57)).heap.size) := by
        show _ ≤ _
        simp
        have := Hw4.out.size
        omega
      clear hkx hlk hv hat hrg3 hlt3 hg3 hs3 hxL hxn hrng hob horg hro hrow3 hle hfx
      go_wp2_with (at_builtin; refine wpList_append_own _ rfl _ _ 55 rfl w.heap.size 57 i0 (.agg #[.int .i64 0, .int .i64 0]) 2 16 Try.underlying55 hi hz0 hz1 hz2 rfl (by decide) u3 done.length (flat done) rfl (Hrow4.out.alloc _) ⟨W4.heap.size, 0, none⟩ 1 1 [.int .i64 x1, .int .i64 x2] rfl rfl (news_new _ _ _) (flat_one [(x1, x2)]) (by unfold maxLen; have := Hle.out; omega) (by have := Hle.out; omega) HA.out ?_)
      intro v5 w5 hown5 hgrow5 hnil5
      have Hv5 : Hid (v5 ≠ .slice none 0 0) := fun e => hnil5 e
      clear hnil5
      obtain ⟨⟨ob, hob, hob2⟩, ⟨org, horg, horg2⟩⟩ := rng_objs Hrng4.out
      have hb5 := Hrng4.out.keep (World.grownBy_alloc W4 (.cells #[.int .i64 x1, .int .i64 x2] 57) none) (by simp) (by simp)
      have Hrng5 := Lib.hid (hb5.keep hgrow5 (row_no Hrow4.out hob hob2).symm (row_no Hrow4.out horg horg2).symm)
      have Hw5 : Hid (Below w.heap.size w w5) := (Hw4.out.alloc Hw4.out.size _).grown hgrow5 HA.out (fun k hk => (Hrow4.out.lt k hk).1)
      have Hown5 : Hid (w5.ownsRow w.heap.size 57 2 v5 (done ++ [(x1, x2)]).length (flat (done ++ [(x1, x2)]))) := by
        show World.ownsRow _ _ _ _ _ _ _
        rw [flat_snoc, List.length_append]
        exact hown5
      have Hm5 : Hid (w5.rangeLeft b rg < wr.rangeLeft b rg) := by show _ < _; rw [Hrng5.out.rng.left_eq, ← Hrng4.out.rng.left_eq]; exact Hm4.out
      clear hown5 hgrow5 hob hob2 horg horg2 hb5
      go_wp2
      go_roundw
      case rel => exact ⟨done ++ [(x1, x2)], _, _, Hrng5.out, Hown5.out, Hw5.out, Hv5.out⟩
      case measure => exact Hm5.out
end Go.Proofs.Ytadlgkakjaecdaa
