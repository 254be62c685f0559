/- What leads on from each text: nexts, by a contract. -/
import Derived.Test.YtadlgkakjaecdaaTs
import Derived.Test.YtadlgkakjaecdaaCn
namespace Go.Proofs.Ytadlgkakjaecdaa
open Go.RowKit Go.Maps Go.WideMaps Go.WideElems Go.ChangeShapes Go.WideShapes

abbrev DV := DataW Value
/-- An element of a map, as it stands. -/
def asIs : Value → Option (DV × List MemPlace) := fun v => some (.held v, [])
/-- Texts of numbers, as cells. -/
def textsC (l : List Int) : List Value := l.map tv
theorem textsC_len (l : List Int) : (textsC l).length = l.length := by simp [textsC]
theorem textsC_snoc (l : List Int) (x : Int) : textsC (l ++ [x]) = textsC l ++ [tv x] := by simp [textsC]
theorem textsC_one (l : List Int) : ∀ u ∈ textsC l, u.oneCell' = true := by
  intro u hu
  obtain ⟨p, _, rfl⟩ := List.mem_map.1 hu
  rfl
/-- A slice value that owns the texts of numbers. -/
def OwnT (W : World) (B : Nat) (v : Value) (zs : List Int) : Prop := W.ownsRow B 9 1 v zs.length (textsC zs)
theorem OwnT.kept {W W' : World} {B : Nat} {v : Value} {zs : List Int} {row : Option Nat} (h : OwnT W B v zs) (hg : W.grownBy W' row) (hne : v.ownBlock = none ∨ v.ownBlock ≠ row) : OwnT W' B v zs := World.ownsRow.kept h hg hne
theorem OwnT.alloc {W : World} {B : Nat} {v : Value} {zs : List Int} (h : OwnT W B v zs) (o : Obj) : OwnT (W.alloc o) B v zs := World.ownsRow.alloc h o
theorem OwnT.appended {W : World} {B : Nat} {v' : Value} {zs : List Int} {x : Int} (h : W.ownsRow B 9 1 v' (zs.length + 1) (textsC zs ++ [tv x])) : OwnT W B v' (zs ++ [x]) := by
  unfold OwnT
  rw [textsC_snoc, List.length_append]
  exact h
/-- What leads on, so far: a map of rows of texts; f tells the row of each. -/
structure GrpT (base mb n : Nat) (done : List Pr) (D : DV) (f : Int → Value) (W : World) : Prop where
  dom : DomAt Try.prog 9 tl FitT asIs mb n (done.map (·.1)) D W
  at_ : ∀ a, FitT a → D.atKey (tl a) (.held (.slice none 0 0)) = .held (f a)
  row : ∀ a, FitT a → OwnT W base (f a) (succs done a)
  apart : ∀ a b, FitT a → FitT b → a ≠ b → ∀ k, (f a).ownBlock = some k → (f b).ownBlock ≠ some k
  lo : mb < base
theorem zero75 (w : World) : (zeroValue 75).run Try.prog w = .ok (.slice none 0 0) w := by kernel_rfl
theorem GrpT.look {base mb n : Nat} {done : List Pr} {D : DV} {f : Int → Value} {W : World} (h : GrpT base mb n done D f W) {a : Int} (ha : FitT a) : (Instr.lookup 73 (.map (some mb)) (tv a) false).run Try.prog W = .ok (f a) W := by
  obtain ⟨v, ps, hrun, hv⟩ := h.dom.own.lookup enc9.keyed Try.underlying73 (zero75 W) (show asIs (.slice none 0 0) = some _ from rfl) (enc9.key a ha)
  rw [hrun]
  have h1 : (DataW.held v : DV) = D.atKey (tl a) (.held (.slice none 0 0)) := (Prod.mk.inj (Option.some.inj hv)).1
  rw [h.at_ a ha] at h1
  cases h1
  rfl
theorem GrpT.kept {base mb n : Nat} {done : List Pr} {D : DV} {f : Int → Value} {W W' : World} {row : Option Nat} (h : GrpT base mb n done D f W) (hg : W.grownBy W' row) (hr : ∀ k, row = some k → k ≠ mb ∧ ∃ o, W.heap[k]? = some o ∧ o.isCells = false) : GrpT base mb n done D f W' := by
  refine ⟨h.dom.kept hg (fun e => (hr mb e.symm).1 rfl), h.at_, fun a ha => (h.row a ha).kept hg ?_, h.apart, h.lo⟩
  cases hrow : row with
  | none => cases (f a).ownBlock <;> simp
  | some k =>
    obtain ⟨_, o, ho1, ho2⟩ := hr k hrow
    exact .inr (row_no (h.row a ha) ho1 ho2)
theorem grpT_made (w : World) : GrpT (w.heap.size + 1) w.heap.size 0 [] (.map []) (fun _ => .slice none 0 0) (w.alloc (.map #[] 0)) :=
  ⟨dom_made Try.prog 9 tl FitT asIs w, fun _ _ => rfl, fun _ _ => World.ownsRow_nil _ _ _ _, fun _ _ _ _ _ k e => by simp [Value.ownBlock] at e, Nat.lt_succ_self _⟩
theorem GrpT.put {base mb n : Nat} {done : List Pr} {D : DV} {f : Int → Value} {W W6 W7 : World} (h : GrpT base mb n done D f W) {a y : Int} (ha : FitT a) {v6 : Value} (hg6 : W.grownBy W6 (f a).ownBlock) (hown6 : OwnT W6 base v6 (succs done a ++ [y]))
    (hloc : ∀ k, v6.ownBlock = some k → (f a).ownBlock = some k ∨ W.heap.size ≤ k) (hg7 : W6.grownBy W7 (some mb)) (hown7 : W7.ownsMap Try.prog 9 asIs mb (n + 1) (D.put (tl a) (.held v6))) :
    GrpT base mb (n + 1) (done ++ [(a, y)]) (D.put (tl a) (.held v6)) (fun b => if b = a then v6 else f b) W7 := by
  have hD := h.dom.own.isMap
  have hkl := enc9.keyed.key (enc9.key a ha)
  have hmb6 : ∃ o, W6.heap[mb]? = some o ∧ o.isCells = false := by
    obtain ⟨o, ho, hc⟩ := dom_obj h.dom
    exact ⟨o, (hg6.block mb (Array.getElem?_eq_some_iff.1 ho).1 (fun e => row_no (h.row a ha) ho hc e.symm)).trans ho, hc⟩
  have keep7 : ∀ {v : Value} {zs : List Int}, OwnT W6 base v zs → OwnT W7 base v zs := fun {v zs} ho => by
    obtain ⟨o, ho1, ho2⟩ := hmb6
    exact ho.kept hg7 (.inr (row_no ho ho1 ho2))
  refine ⟨h.dom.put enc9 ha (fun b => ?_) hown7, fun b hb => ?_, fun b hb => ?_, fun b c hb hc hne k hk => ?_, h.lo⟩
  · rw [List.map_append, List.mem_append]
    simp
  · by_cases e : b = a
    · subst e
      rw [Maps.atKey_put_same hD hkl, if_pos rfl]
    · rw [Maps.atKey_put_other (fun e1 => e (enc9.lit_inj hb ha e1)), h.at_ b hb, if_neg e]
  · by_cases e : b = a
    · subst e
      simp only [if_true]
      rw [succs_same done (b, y)]
      exact keep7 hown6
    · simp only [e, if_false]
      rw [succs_other done (a, y) e]
      refine keep7 ((h.row b hb).kept hg6 ?_)
      cases hf : (f b).ownBlock with
      | none => exact .inl rfl
      | some k => exact .inr (fun e2 => h.apart b a hb ha e k hf e2.symm)
  · have fresh : ∀ c, FitT c → c ≠ a → ∀ k, v6.ownBlock = some k → (f c).ownBlock ≠ some k := fun c hc hca k hk e2 => by
      rcases hloc k hk with h1 | h1
      · exact h.apart c a hc ha hca k e2 h1
      · have h2 := (World.ownsRow.lt (h.row c hc) k e2).2
        omega
    by_cases eb : b = a
    · subst eb
      simp only [if_true] at hk
      have hcb : ¬ c = b := fun e => hne e.symm
      simp only [hcb, if_false]
      exact fresh c hc hcb k hk
    · simp only [eb, if_false] at hk
      by_cases ec : c = a
      · subst ec
        simp only [if_true]
        exact fun e2 => fresh b hb eb k e2 hk
      · simp only [ec, if_false]
        exact h.apart b c hb hc hne k hk
theorem elem9 : (Try.prog.info? 9).map (fun i => (i.zero, i.size, i.bytes)) = some (some (.string ⟨#[]⟩), 1, 16) := by kernel_rfl
theorem succs_le (done : List Pr) (a : Int) : (succs done a).length ≤ done.length := by
  unfold succs
  rw [List.length_map]
  exact List.length_filter_le _ _

set_option maxHeartbeats 4000000 in
set_option maxRecDepth 100000 in
theorem nextsT_any (r b : Nat) (L : List Pr) (D : DU) (hn : L.length ≤ 1000000) (w : World) (h : RelT r b L D w) :
    Calls Try.prog 43 #[.pointer (some ⟨r, 0, none⟩)] w fun e w' => ∃ mb done Dn f, e = .returned (.map (some mb)) ∧ Hid (done.Nodup ∧ (∀ p, p ∈ done ↔ p ∈ L) ∧ GrpT (w.heap.size + 1) mb done.length done Dn f w' ∧ Below w.heap.size w w' ∧ w.heap.size ≤ mb) := by
  obtain ⟨i9, hi9, hy0, hy1, hy2⟩ := info_parts elem9
  have hmm := @run_makeMap Try.prog
  obtain ⟨W1, hW1⟩ : ∃ W, w.alloc (.map #[] 0) = W := ⟨_, rfl⟩
  have hb1 : Below w.heap.size w W1 := by rw [← hW1]; exact (Below.refl _ _).alloc (Nat.le_refl _) _
  have hs1 : W1.heap.size = w.heap.size + 1 := by rw [← hW1]; simp
  have hg1 : GrpT (w.heap.size + 1) w.heap.size 0 [] (.map []) (fun _ => .slice none 0 0) W1 := hW1 ▸ grpT_made w
  have H1 := Lib.hid (h.below hb1)
  have c1 := H1.out.box.cell
  have Hb1 := Lib.hid hb1
  have Hs1 := Lib.hid hs1
  have Hg1 := Lib.hid hg1
  have Hfit := Lib.hid h.prs.dom.fit
  have Hblt := Lib.hid h.blt
  have Honce := Lib.hid h.prs.once
  have Hn : Hid (L.length ≤ 1000000) := hn
  clear h hb1 hs1 hg1 hn
  go_enter Try.func43, Try.ntmps43
  go_wp2_with (first | (at_range; refine wpList_range_own _ rfl _ 70 rfl 52 62 K52 Try.underlying70 unitElem b L.length D rfl H1.out.prs.dom.own ?_; intro w2 hrg2 hg2 hs2) | go_in)
  go_frame
  have H2 : Hid (RngX Try.prog 52 tpl FitQ unitElem b W1.heap.size L.length L [] D (has D) (Maps.size D) w2 ∧ GrpT (w.heap.size + 1) w.heap.size 0 [] (.map []) (fun _ => .slice none 0 0) w2 ∧ Below w.heap.size w w2) := ⟨rngX_start H1.out.prs.dom hrg2, Hg1.out.kept hg2 (fun k e => by cases e), Hb1.out.trans ((Below.refl _ _).grown hg2 Hb1.out.size (fun k hk => by cases hk))⟩
  obtain ⟨rg, hrg⟩ : ∃ rg, W1.heap.size = rg := ⟨_, rfl⟩
  rw [hrg] at H2 ⊢
  have Hrg : Hid (rg = w.heap.size + 1) := by show _ = _; rw [← hrg, Hs1.out]
  clear hrg2 hg2 hs2 hrg c1
  go_loopw [4] (fun _ wr => ∃ done left cnt Dn f, Hid (RngX Try.prog 52 tpl FitQ unitElem b rg L.length L done D left cnt wr ∧ GrpT (w.heap.size + 1) w.heap.size done.length done Dn f wr ∧ Below w.heap.size w wr)) (fun _ wr => wr.rangeLeft b rg)
  case atStart => exact ⟨[], _, _, _, _, H2⟩
  case round =>
    obtain ⟨done, left, cnt, Dn, f, HR⟩ := hrel
    go_wp2_with (first | (at_next; refine wpList_next_ranges _ rfl _ rfl 52 K52 unitElem (fun x : ByteArray × ByteArray => .agg #[.string x.1, .string x.2]) (fun _ : Unit => .agg #[]) invQ invU b rg L.length D left cnt rfl HR.out.1.rng ?_ ?_) | go_in)
    · intro hc0 hl0
      have Hall := Lib.hid (rngX_all HR.out.1 Hfit.out hl0)
      clear hc0 hl0
      go_wp2
      go_ret
      exact ⟨_, done, Dn, f, rfl, HR.out.1.once, Hall.out, HR.out.2.1, HR.out.2.2, Nat.le_refl _⟩
    · intro s1 s2 kl y1 y2 w3 cnt3 hkx hlk hv hat hrg3 hlt3 hg3 hs3 hen
      obtain ⟨⟨x1, x2⟩, left3, hke, rfl, hfx, hxL, hxn, hrng⟩ := rngX_more enc52 HR.out.1 Hfit.out hkx hlk hrg3
      obtain ⟨rfl, rfl⟩ : s1 = tb x1 ∧ s2 = tb x2 := by simpa using hke
      obtain ⟨⟨ob, hob, hob2⟩, ⟨org, horg, horg2⟩⟩ := rngX_objs HR.out.1
      have hgr3 := HR.out.2.1.kept hg3 (fun k e => by cases e; exact ⟨by rw [Hrg.out]; omega, org, horg, horg2⟩)
      have hle : done.length < L.length := by
        have := nodup_len hrng.once hrng.sub
        simp at this
        omega
      have Hle := Lib.hid (Nat.lt_of_lt_of_le hle Hn.out)
      have Hw3 : Hid (Below w.heap.size w w3) := HR.out.2.2.grown hg3 HR.out.2.2.size (fun k e => by cases e; rw [Hrg.out]; omega)
      obtain ⟨W4, hW4, hb4, hs4, k0, k1⟩ := two_new w3 (tv x1) (tv x2) 52
      have Hgr4 := Lib.hid (hgr3.kept (grown_below hb4.out) (fun k e => by cases e))
      have Hrng4 := Lib.hid (hrng.keep (grown_below hb4.out) (by simp) (by simp))
      have Hw4 : Hid (Below w.heap.size w W4) := Hw3.out.trans (hb4.out.mono Hw3.out.size)
      have Hm4 : Hid (W4.rangeLeft b rg < wr.rangeLeft b rg) := by show _ < _; rw [Hrng4.out.rng.left_eq, HR.out.1.rng.left_eq]; exact hlt3
      have Hfx := Lib.hid hfx
      have Hw4s : Hid (w.heap.size + 1 ≤ W4.heap.size) := by
        show _ ≤ _
        have h1 := hs4.out; have h2 := Hw3.out.size
        omega
      have Hs3 : Hid (w.heap.size < w3.heap.size) := by
        obtain ⟨_, og, hog, _⟩ := rngX_objs hrng
        have h1 := (Array.getElem?_eq_some_iff.1 hog).1
        have h2 := Hrg.out
        show _ < _
        omega
      have HbA : Hid (Below W4.heap.size W4 (W4.alloc (.cells #[tv x2] 9)).drew) := (((Below.refl _ _).alloc (Nat.le_refl _) _).drew)
      have HgrA : Hid (GrpT (w.heap.size + 1) w.heap.size done.length done Dn f (W4.alloc (.cells #[tv x2] 9)).drew) := Hgr4.out.kept (grown_below HbA.out) (fun k e => by cases e)
      have HgrD : Hid (GrpT (w.heap.size + 1) w.heap.size done.length done Dn f W4.drew) := Hgr4.out.kept (row := none) ⟨rfl, rfl, rfl, Nat.le_refl _, fun _ _ _ => rfl⟩ (fun k e => by cases e)
      have l1 := HgrD.out.look hfx.1
      have l2 := HgrA.out.look hfx.1
      have l3 : (Instr.lookup 73 (.map (some w.heap.size)) (tv x1) false).run Try.prog (W4.drew.alloc (.cells #[tv x2] 9)) = .ok (f x1) (W4.drew.alloc (.cells #[tv x2] 9)) := l2
      have q0 : (W4.drew.alloc (.cells #[tv x2] 9)).cell? ⟨w3.heap.size, 0, none⟩ = some (tv x1) := (HbA.out.cell (p := ⟨w3.heap.size, 0, none⟩) hs4.out).trans k0
      have q1 : (W4.drew.alloc (.cells #[tv x2] 9)).cell? ⟨w3.heap.size, 1, none⟩ = some (tv x2) := (HbA.out.cell (p := ⟨w3.heap.size, 1, none⟩) hs4.out).trans k1
      have q2 : (W4.alloc (.cells #[tv x2] 9)).drew.cell? ⟨w3.heap.size, 0, none⟩ = some (tv x1) := q0
      have q3 : (W4.alloc (.cells #[tv x2] 9)).drew.cell? ⟨w3.heap.size, 1, none⟩ = some (tv x2) := q1
      obtain ⟨m, hm⟩ : ∃ m, (succs done x1).length = m := ⟨_, rfl⟩
      have hml : m ≤ 1000000 := by rw [← hm]; exact Nat.le_trans (succs_le done x1) (Nat.le_of_lt Hle.out)
      have HrowA : Hid ((W4.drew.alloc (.cells #[tv x2] 9)).ownsRow (w.heap.size + 1) 9 1 (f x1) m (textsC (succs done x1))) := by rw [← hm]; exact HgrA.out.row x1 hfx.1
      have HA : Hid (w.heap.size + 1 ≤ (W4.drew.alloc (.cells #[tv x2] 9)).heap.size) := by have h1 := Hw4s.out; show _ ≤ (World.alloc _ _).heap.size; simp; omega
      have Hm := Lib.hid hm
      have HkB : Hid (W4.heap[w3.heap.size]? = some (.cells #[tv x1, tv x2] 52)) := hW4 ▸ World.alloc_heap_new w3 _
      clear hkx hlk hv hat hrg3 hlt3 hg3 hs3 hxL hxn hrng hob horg hgr3 hle hfx hke hm
      go_wp2
      go_region_held3 (fun w' => w'.cell? ⟨w3.heap.size, 0, none⟩ = some (tv x1) ∧ w'.cell? ⟨w3.heap.size, 1, none⟩ = some (tv x2)) (go_keep)
        (first
          | (refine step_append_lies _ rfl _ _ 75 rfl (w.heap.size + 1) 9 i9 (.string ⟨#[]⟩) 1 16 Try.underlying75 hi9 hy0 hy1 hy2 rfl (by decide) (f x1) m (textsC (succs done x1)) rfl HrowA.out ⟨W4.heap.size, 0, none⟩ 1 1 [tv x2] rfl rfl (news_new W4 #[tv x2] 9) (textsC_one [x2]) (by decide) (by unfold maxLen; omega) (by omega) HA.out (W4.heap.size + 1) (by simp) ?_
             intro g6 cap6 w6 hown6 hgrow6 hat6 hlt6
             have hown6' : OwnT w6 (w.heap.size + 1) (.slice (some ⟨g6, 0, none⟩) (m + 1) cap6) (succs done x1 ++ [x2]) := OwnT.appended (by rw [Hm.out]; exact hown6)
             have hdom6 : w6.ownsMap Try.prog 9 asIs w.heap.size done.length Dn := HgrA.out.dom.own.kept hgrow6 (fun e => by
               obtain ⟨o, ho, hc⟩ := dom_obj HgrA.out.dom
               exact row_no (HgrA.out.row x1 Hfx.out.1) ho hc e.symm)
             obtain ⟨w7, hrun7, hown7, hgrow7⟩ := hdom6.update enc9.keyed Try.underlying73 (by unfold maxLen; have := Hle.out; omega) (enc9.key x1 Hfx.out.1) (show asIs (.slice (some ⟨g6, 0, none⟩) (m + 1) cap6) = some _ from rfl)
             have hw3n : some w3.heap.size ≠ (f x1).ownBlock := fun e => by
               rcases (HgrA.out.row x1 Hfx.out.1).2 with ⟨e1, _⟩ | ⟨g, cap, cur, e1, _, hg, _⟩
               · rw [e1] at e; cases e
               · rw [e1] at e
                 have e2 : w3.heap.size = g := by simpa [Value.ownBlock] using e
                 rw [← e2, HbA.out.block _ hs4.out, HkB.out] at hg
                 cases hg
             have hlt4 : w3.heap.size < (W4.alloc (.cells #[tv x2] 9)).drew.heap.size := Nat.lt_of_lt_of_le hs4.out HbA.out.size
             have u0 : w6.cell? ⟨w3.heap.size, 0, none⟩ = some (tv x1) := (World.cell?_of_block (a := ⟨w3.heap.size, 0, none⟩) (hgrow6.block _ hlt4 hw3n)).trans q0
             have u1 : w6.cell? ⟨w3.heap.size, 1, none⟩ = some (tv x2) := (World.cell?_of_block (a := ⟨w3.heap.size, 1, none⟩) (hgrow6.block _ hlt4 hw3n)).trans q1
             have hne7 : some w3.heap.size ≠ some w.heap.size := fun e => by
               have h1 : w3.heap.size = w.heap.size := by simpa using e
               have h2 := Hs3.out
               omega
             have v0 : w7.cell? ⟨w3.heap.size, 0, none⟩ = some (tv x1) := (World.cell?_of_block (a := ⟨w3.heap.size, 0, none⟩) (hgrow7.block _ (Nat.lt_of_lt_of_le hlt4 hgrow6.size) hne7)).trans u0
             have v1 : w7.cell? ⟨w3.heap.size, 1, none⟩ = some (tv x2) := (World.cell?_of_block (a := ⟨w3.heap.size, 1, none⟩) (hgrow7.block _ (Nat.lt_of_lt_of_le hlt4 hgrow6.size) hne7)).trans u1))
      all_goals (
        try clear hHeld
        have Hgrp7 : Hid (GrpT (w.heap.size + 1) w.heap.size (done ++ [(x1, x2)]).length (done ++ [(x1, x2)]) (Dn.put (tl x1) (.held (.slice (some ⟨g6, 0, none⟩) (m + 1) cap6))) (fun b => if b = x1 then .slice (some ⟨g6, 0, none⟩) (m + 1) cap6 else f b) w7) := by
          rw [List.length_append]
          refine HgrA.out.put Hfx.out.1 hgrow6 hown6' (fun k hk => ?_) hgrow7 hown7
          rcases hat6 with e | e
          · exact .inl (by rw [e]; exact hk)
          · right
            have e2 : g6 = k := by simpa [Value.ownBlock] using hk
            show (W4.alloc _).heap.size ≤ k
            simp
            omega
        have Hrng7 : Hid (RngX Try.prog 52 tpl FitQ unitElem b rg L.length L (done ++ [(x1, x2)]) D left3 cnt3 w7) := by
          have Hrng5 := Hrng4.out.keep (grown_below HbA.out) (by simp) (by simp)
          obtain ⟨⟨ob, hob, hob2⟩, ⟨og, hog, hog2⟩⟩ := rngX_objs Hrng5
          have hn1 : some b ≠ some w.heap.size := fun e => by
            have h1 : b = w.heap.size := by simpa using e
            have h2 := Hblt.out
            omega
          have hn2 : some rg ≠ some w.heap.size := fun e => by
            have h1 : rg = w.heap.size := by simpa using e
            have h2 := Hrg.out
            omega
          have Hrng6 := Hrng5.keep hgrow6 (fun e => row_no (HgrA.out.row x1 Hfx.out.1) hob hob2 e.symm) (fun e => row_no (HgrA.out.row x1 Hfx.out.1) hog hog2 e.symm)
          exact Hrng6.keep hgrow7 hn1 hn2
        have Hbel7 : Hid (Below w.heap.size w w7) := by
          have h4 : Below w.heap.size w (W4.alloc (.cells #[tv x2] 9)).drew := Hw4.out.trans (HbA.out.mono Hw4.out.size)
          refine (h4.grown hgrow6 h4.size (fun k e => ?_)).grown hgrow7 ?_ (fun k e => by cases e; exact Nat.le_refl _)
          · have := (World.ownsRow.lt (HgrA.out.row x1 Hfx.out.1) k e).1
            omega
          · exact Nat.le_trans h4.size hgrow6.size
        have Hm7 : Hid (w7.rangeLeft b rg < wr.rangeLeft b rg) := by
          have h1 := Hm4.out
          rw [Hrng4.out.rng.left_eq] at h1
          show _ < _
          rw [Hrng7.out.rng.left_eq]
          exact h1
        clear hown6 hgrow6 hat6 hlt6 hown6' hdom6 hrun7 hown7 hgrow7 hw3n hlt4 u0 u1 hne7 v0 v1 q0 q1 q2 q3 l1 l2 l3 k0 k1
        go_wp2
        go_roundw
        case rel => exact ⟨done ++ [(x1, x2)], _, _, _, _, Hrng7.out, Hgrp7.out, Hbel7.out⟩
        case measure => exact Hm7.out)
end Go.Proofs.Ytadlgkakjaecdaa
