/- What leads on from each: nexts, by a contract. -/
import Derived.Test.YtadlgkakjaecdaaRn
namespace Go.Proofs.Ytadlgkakjaecdaa
open Go.RowKit Go.Maps Go.WideMaps Go.WideElems Go.ChangeShapes Go.WideShapes

set_option maxRecDepth 100000 in
theorem groups_keep {W W' : World} {base b n : Nat} {D : DU} {row : Option Nat} (h : W.ownsGroups Try.prog 3 base 3 .i64 b n D) (hg : W.grownBy W' row) (hr : ∀ k, row = some k → k ≠ b ∧ ∃ o, W.heap[k]? = some o ∧ o.isCells = false) : W'.ownsGroups Try.prog 3 base 3 .i64 b n D := by
  obtain ⟨es, clock, hb, F, hs, hD, hbb, hlen, hap⟩ := h
  have hkeep : ∀ {v : Value} {zs : List Int}, W.ownsInts base 3 .i64 v zs → W'.ownsInts base 3 .i64 v zs := fun {v zs} ho => ho.kept hg (by
    cases hrow : row with
    | none => cases v.ownBlock <;> simp
    | some k =>
      obtain ⟨_, o, ho1, ho2⟩ := hr k hrow
      exact .inr (row_no ho.1 ho1 ho2))
  have hst : ∀ x ∈ es.toList, ∀ z, rowElem (H := Unit) W base 3 .i64 x.val = some z → rowElem (H := Unit) W' base 3 .i64 x.val = some z := fun x _ z hz => by
    obtain ⟨zs, ho, rfl⟩ := rowElem_inv hz
    exact rowElem_mk (hkeep ho)
  obtain ⟨F1, hmap, _⟩ := F.stay hst
  refine ⟨es, clock, (hg.block b (Array.getElem?_eq_some_iff.1 hb).1 (fun e => (hr b e.symm).1 rfl)).trans hb, F1, hs, by rw [hmap]; exact hD, hbb, fun x hx zs hz => ?_, hap⟩
  obtain ⟨y, hy⟩ := F.reads x hx
  obtain ⟨z, hz2, _⟩ := rd_val hy
  obtain ⟨zs0, ho, _⟩ := rowElem_inv hz2
  rw [hz.unique (hkeep ho)]
  exact hlen x hx zs0 ho
theorem grown_drew {w w' : World} {row : Option Nat} (h : w.grownBy w' row) : w.grownBy w'.drew row := ⟨h.os, h.tape, h.output, h.size, h.block⟩
theorem keyI (a : Int) (h : fit64 a) : keyOf Try.prog 3 (.int .i64 a) = some (.int .i64 a) := keyOf_int_mk Try.underlying3 h
theorem grp_put {base b n : Nat} {done : List Pr} {D : DU} {W0 W6 W7 : World} {v v6 : Value} {zs : List Int} {x : Pr} (h : GrpAt base b n done D W0) (hx : FitP x) (hat : D.atKey (.int .i64 x.1) .nil = rowDatum .i64 v zs) (ho : W0.ownsInts base 3 .i64 v zs)
    (ho6 : W6.ownsInts base 3 .i64 v6 (zs ++ [x.2])) (hown7 : W7.ownsGroups Try.prog 3 base 3 .i64 b (n + 1) (D.put (.int .i64 x.1) (rowDatum .i64 v6 (zs ++ [x.2])))) : GrpAt base b (n + 1) (done ++ [x]) (D.put (.int .i64 x.1) (rowDatum .i64 v6 (zs ++ [x.2]))) W7 := by
  have hz := grp_read h hx.1 hat ho
  have hD : IsMap D := by obtain ⟨es, clock, _, _, _, hD, _⟩ := h.own; exact ⟨_, hD⟩
  have hkl : WideAt.IsKeyLit (.int .i64 x.1) := K3.key (keyI x.1 hx.1)
  have hd := ho6.datum_pos (H := Unit) (by simp)
  refine ⟨hown7, fun a ha => ?_, fun a ha => ?_⟩
  · by_cases hax : a = x.1
    · subst hax
      rw [Maps.atKey_put_same hD hkl, hd, succs_same, ← hz, if_neg (by simp)]
    · have hne : (Lit.int .i64 a) ≠ .int .i64 x.1 := fun e => hax (by simpa using e)
      rw [Maps.atKey_put_other hne, h.read a ha, succs_other done x hax]
  · by_cases hax : a = x.1
    · subst hax
      rw [Maps.has_put_same hD hkl]
      simp
    · have hne : (Lit.int .i64 a) ≠ .int .i64 x.1 := fun e => hax (by simpa using e)
      rw [Maps.has_put_other hne, h.has a ha]
      simp [hax]
theorem zero33 (w : World) : (zeroValue 33).run Try.prog w = .ok (.slice none 0 0) w := by kernel_rfl
set_option maxHeartbeats 4000000 in
set_option maxRecDepth 100000 in
theorem nexts_any (r b : Nat) (L : List Pr) (D : DU) (hn : L.length ≤ 1000000) (w : World) (h : RelAt r b L D w) :
    Calls Try.prog 40 #[.pointer (some ⟨r, 0, none⟩)] w fun e w' => ∃ mb done Dn, e = .returned (.map (some mb)) ∧ Hid (done.Nodup ∧ (∀ p, p ∈ done ↔ p ∈ L) ∧ GrpAt (w.heap.size + 1) mb done.length done Dn w' ∧ Below w.heap.size w w' ∧ w.heap.size ≤ mb) := by
  obtain ⟨i3, hi3, hy0, hy1, hy2⟩ := info_parts (P := Try.prog) (e := 3) (z := .int .i64 0) (size := 1) (bytes := 8) (by kernel_rfl)
  have hmm := @run_makeMap Try.prog
  obtain ⟨W1, hW1⟩ : ∃ W, w.alloc (.map #[] 0) = W := ⟨_, rfl⟩
  have hb1 : Below w.heap.size w W1 := by rw [← hW1]; exact (Below.refl _ _).alloc (Nat.le_refl _) _
  have hs1 : W1.heap.size = w.heap.size + 1 := by rw [← hW1]; simp
  have hg1 : GrpAt (w.heap.size + 1) w.heap.size 0 [] (.map []) W1 := ⟨hW1 ▸ World.ownsGroups_made w Try.prog 3 3 .i64, fun _ _ => rfl, fun _ _ => rfl⟩
  have H1 := Lib.hid (h.below hb1)
  have c1 := H1.out.box.cell
  have Hb1 := Lib.hid hb1
  have Hs1 := Lib.hid hs1
  have Hg1 := Lib.hid hg1
  have Hfit := Lib.hid h.prs.fit
  have Hblt := Lib.hid h.blt
  have Honce := Lib.hid h.prs.once
  have Hn : Hid (L.length ≤ 1000000) := hn
  clear h hb1 hs1 hg1 hn
  go_enter Try.func40, Try.ntmps40
  go_wp2_with (first | (at_range; refine wpList_range_own _ rfl _ 59 rfl 57 62 K57 Try.underlying59 unitElem b L.length D rfl H1.out.prs.own ?_; intro w2 hrg2 hg2 hs2) | go_in)
  go_frame
  have H2 : Hid (RngP Try.prog 57 b W1.heap.size L [] D (has D) (Maps.size D) w2 ∧ GrpAt (w.heap.size + 1) w.heap.size 0 [] (.map []) w2 ∧ Below w.heap.size w w2) := ⟨rng_start H1.out.prs hrg2, ⟨groups_keep Hg1.out.own hg2 (fun k e => by cases e), Hg1.out.read, Hg1.out.has⟩, Hb1.out.trans ((Below.refl _ _).grown hg2 Hb1.out.size (fun k hk => by cases hk))⟩
  obtain ⟨rg, hrg⟩ : ∃ rg, W1.heap.size = rg := ⟨_, rfl⟩
  rw [hrg] at H2 ⊢
  have Hrg : Hid (rg = w.heap.size + 1) := by show _ = _; rw [← hrg, Hs1.out]
  clear hrg2 hg2 hs2 hrg c1
  go_loopw [4] (fun _ wr => ∃ done left cnt Dn, Hid (RngP Try.prog 57 b rg L done D left cnt wr ∧ GrpAt (w.heap.size + 1) w.heap.size done.length done Dn wr ∧ Below w.heap.size w wr)) (fun _ wr => wr.rangeLeft b rg)
  case atStart => exact ⟨[], _, _, _, H2⟩
  case round =>
    obtain ⟨done, left, cnt, Dn, HR⟩ := hrel
    go_wp2_with (first | (at_next; refine wpList_next_ranges _ rfl _ rfl 57 K57 unitElem pv (fun _ : Unit => .agg #[]) invK57 invU b rg L.length D left cnt rfl HR.out.1.rng ?_ ?_) | go_in)
    · intro hc0 hl0
      have Hall := Lib.hid (rng_all HR.out.1 Hfit.out hl0)
      clear hc0 hl0
      go_wp2
      go_ret
      exact ⟨_, done, Dn, rfl, HR.out.1.once, Hall.out, HR.out.2.1, HR.out.2.2, Nat.le_refl _⟩
    · intro x1 x2 kl y1 y2 w3 cnt3 hkx hlk hv hat hrg3 hlt3 hg3 hs3 hen
      obtain ⟨hfx, rfl⟩ := inv57 (x := (x1, x2)) hkx
      obtain ⟨hxL, hxn, hrng⟩ := rng_more A57 Try.underlying3 sz57 K57 HR.out.1 hfx hlk hrg3
      obtain ⟨left3, hrng⟩ : ∃ l, RngP Try.prog 57 b rg L (done ++ [(x1, x2)]) D l cnt3 w3 := ⟨_, hrng⟩
      obtain ⟨⟨ob, hob, hob2⟩, ⟨org, horg, horg2⟩⟩ := rng_objs HR.out.1
      have hgr3 := groups_keep HR.out.2.1.own hg3 (fun k e => by cases e; exact ⟨by rw [Hrg.out]; omega, org, horg, horg2⟩)
      have hle : done.length < L.length := by
        have := nodup_len hrng.once hrng.sub
        simp at this
        omega
      have Hle := Lib.hid (Nat.lt_of_lt_of_le hle Hn.out)
      have Hw3 : Hid (Below w.heap.size w w3) := HR.out.2.2.grown hg3 HR.out.2.2.size (fun k e => by cases e; rw [Hrg.out]; omega)
      obtain ⟨W4, hW4, hb4, hs4, k0, k1⟩ := two_new w3 (.int .i64 x1) (.int .i64 x2) 57
      have Hgr4 := Lib.hid (groups_keep hgr3 (grown_below hb4.out) (fun k e => by cases e))
      have Hrng4 := Lib.hid (hrng.keep (grown_below hb4.out) (by simp) (by simp))
      have Hw4 : Hid (Below w.heap.size w W4) := Hw3.out.trans (hb4.out.mono Hw3.out.size)
      have Hm4 : Hid (W4.rangeLeft b rg < wr.rangeLeft b rg) := by show _ < _; rw [Hrng4.out.rng.left_eq, HR.out.1.rng.left_eq]; exact hlt3
      have Hxn := Lib.hid hxn
      have Hfx := Lib.hid hfx
      have Hk1 : Hid (keyOf Try.prog 3 (.int .i64 x1) = some (.int .i64 x1)) := keyOf_int_mk Try.underlying3 hfx.1
      have Hw4s : Hid (w.heap.size + 1 ≤ W4.heap.size) := by
        show _ ≤ _
        have h1 := hs4.out; have h2 := Hw3.out.size
        omega
      have Hs3 : Hid (w.heap.size < w3.heap.size) := by
        obtain ⟨_, og, hog, _⟩ := rng_objs hrng
        have h1 := (Array.getElem?_eq_some_iff.1 hog).1
        have h2 := Hrg.out
        show _ < _
        omega
      clear hkx hlk hv hat hrg3 hlt3 hg3 hs3 hxL hxn hrng hob horg hgr3 hle hfx
      go_wp2
      refine wp_region_held_drew (S := (fun w' => w'.cell? ⟨w3.heap.size, 0, none⟩ = some (.int .i64 x1) ∧ w'.cell? ⟨w3.heap.size, 1, none⟩ = some (.int .i64 x2))) (by kernel_rfl) ⟨k0, k1⟩ (fun hHeld => ?_)
      refine held_take 0 (some 15) ?_ rfl rfl (by kernel_rfl) (by kernel_rfl) (by kernel_rfl) (fun _ _ _ h => h) (by kernel_rfl) ?_ (by assumption) ?_
      rotate_left
      · intro w hSw; (try dsimp only at hSw); go_simp <;> (try with_reducible rfl)
      simp only [Act.put, List.setIfInBounds_toArray, List.set_cons_zero, List.set_cons_succ]
      refine held_take 1 (some 16) ?_ rfl rfl (by kernel_rfl) (by kernel_rfl) (by kernel_rfl) (fun _ _ _ h => h) (by kernel_rfl) ?_ (by assumption) ?_
      rotate_left
      · intro w hSw; (try dsimp only at hSw); go_simp <;> (try with_reducible rfl)
      simp only [Act.put, List.setIfInBounds_toArray, List.set_cons_zero, List.set_cons_succ]
      refine held_take 2 (some 17) ?_ rfl rfl (by kernel_rfl) (by kernel_rfl) (by kernel_rfl) (fun _ _ _ h => h) (by kernel_rfl) ?_ (by assumption) ?_
      rotate_left
      · intro w hSw; (try dsimp only at hSw); go_simp <;> (try with_reducible rfl)
      simp only [Act.put, List.setIfInBounds_toArray, List.set_cons_zero, List.set_cons_succ]
      refine held_take 3 (some 18) ?_ rfl rfl (by kernel_rfl) (by kernel_rfl) (by kernel_rfl) (fun _ _ _ h => h) (by kernel_rfl) ?_ (by assumption) ?_
      rotate_left
      · intro w hSw; (try dsimp only at hSw); go_simp <;> (try with_reducible rfl)
      simp only [Act.put, List.setIfInBounds_toArray, List.set_cons_zero, List.set_cons_succ]
      refine held_take 4 (some 19) ?_ rfl rfl (by kernel_rfl) (by kernel_rfl) (by kernel_rfl) (fun _ _ _ h => h) (by kernel_rfl) ?_ (by assumption) ?_
      rotate_left
      · intro w hSw; (try dsimp only at hSw); go_simp <;> (try with_reducible rfl)
      simp only [Act.put, List.setIfInBounds_toArray, List.set_cons_zero, List.set_cons_succ]
      refine held_take 5 (some 20) ?_ rfl rfl (by kernel_rfl) (by kernel_rfl) (by kernel_rfl) (fun _ _ _ h => h) (by kernel_rfl) ?_ (by assumption) ?_
      rotate_left
      · intro w hSw; (try dsimp only at hSw); go_simp <;> (try with_reducible rfl)
      simp only [Act.put, List.setIfInBounds_toArray, List.set_cons_zero, List.set_cons_succ]
      refine held_take 7 (some 22) ?_ rfl rfl (by kernel_rfl) (by kernel_rfl) (by kernel_rfl) (fun _ _ _ h => h) (by kernel_rfl) ?_ (by assumption) ?_
      rotate_left
      · intro w hSw; (try dsimp only at hSw); go_simp <;> (try with_reducible rfl)
      simp only [Act.put, List.setIfInBounds_toArray, List.set_cons_zero, List.set_cons_succ]
      refine held_take 8 (some 23) ?_ rfl rfl (by kernel_rfl) (by kernel_rfl) (by kernel_rfl) (fun _ _ _ h => h) (by kernel_rfl) ?_ (by assumption) ?_
      rotate_left
      · intro w hSw; (try dsimp only at hSw); go_simp <;> (try with_reducible rfl)
      simp only [Act.put, List.setIfInBounds_toArray, List.set_cons_zero, List.set_cons_succ]
      refine wpAnyH_ready (rs := [6, 9]) (by kernel_rfl) (by simp) (AllReadyH.cons rfl (fun K hK => ?_) (AllReadyH.cons rfl (fun K hK => ?_) (AllReadyH.nil)))
      · refine step_lookup_groups (some 21) rfl rfl _ _ 66 rfl 3 33 3 .i64 K3 Try.underlying66 (zero33 _) (w.heap.size + 1) w.heap.size done.length Dn rfl Hgr4.out (by unfold maxLen; have := Hle.out; omega) _ _ rfl Hk1.out ?_
        intro v zs hat ho hzl hback
        have Hat := Lib.hid hat
        have Ho := Lib.hid ho
        have Hzl := Lib.hid hzl
        have Hback := Lib.hid hback
        refine hK.out _ _ hHeld (fun hHeld => ?_)
        clear hK K hat ho hzl hback
        try simp only [Act.put, List.setIfInBounds_toArray, List.set_cons_zero, List.set_cons_succ]
        refine wpAnyH_ready (rs := [9]) (by kernel_rfl) (by simp) (AllReadyH.cons rfl (fun K hK => ?_) (AllReadyH.nil))
        go_simp
        refine hK.out _ _ ⟨(World.cell?_alloc_some _ _ _ (by rw [show W4.cell? ⟨w3.heap.size, 0, none⟩ = _ from k0]; rfl)).trans k0, (World.cell?_alloc_some _ _ _ (by rw [show W4.cell? ⟨w3.heap.size, 1, none⟩ = _ from k1]; rfl)).trans k1⟩ (fun hHeld => ?_)
        clear hK K
        try simp only [Act.put, List.setIfInBounds_toArray, List.set_cons_zero, List.set_cons_succ]
        have Ho1 : Hid ((W4.alloc (.cells #[.int .i64 x2] 3)).drew.ownsInts (w.heap.size + 1) 3 .i64 v zs) := Ho.out.alloc _
        have HA : Hid (w.heap.size + 1 ≤ (W4.alloc (.cells #[.int .i64 x2] 3)).drew.heap.size) := by have h1 := Hw4s.out; show _ ≤ (W4.alloc _).heap.size; simp; omega
        refine wpAnyH_ready (rs := [10]) (by kernel_rfl) (by simp) (AllReadyH.cons rfl (fun K hK => ?_) AllReadyH.nil)
        refine step_append_at (some 25) rfl rfl _ _ 33 rfl (w.heap.size + 1) 3 i3 (.int .i64 0) 1 8 Try.underlying33 hi3 hy0 hy1 hy2 rfl (by decide) v zs.length (zs.map (Value.int .i64)) rfl Ho1.out.1 ⟨W4.heap.size, 0, none⟩ 1 1 [.int .i64 x2] rfl rfl (news_new W4 #[.int .i64 x2] 3) (by intro u hu; simp at hu; subst hu; rfl) (by unfold maxLen; have := Hzl.out; have := Hle.out; omega) (by have := Hzl.out; have := Hle.out; omega) HA.out ?_
        intro v6 w6 hown6 hgrow6 hnil6 hloc6
        have HGB : Hid (W4.drew.grownBy w6 v.ownBlock) := ((World.grownBy_alloc W4.drew (.cells #[.int .i64 x2] 3) none).but _).trans hgrow6
        have Ho6 : Hid (w6.ownsInts (w.heap.size + 1) 3 .i64 v6 (zs ++ [x2])) := Ho1.out.appended hown6 Hfx.out.2
        have hw3n : some w3.heap.size ≠ v.ownBlock := fun e => by
          have hk : (W4.alloc (.cells #[.int .i64 x2] 3)).drew.heap[w3.heap.size]? = some (.cells #[.int .i64 x1, .int .i64 x2] 57) := (Below.heap_alloc W4 _ _ hs4.out).trans (hW4 ▸ World.alloc_heap_new w3 _)
          rcases Ho1.out.1.2 with ⟨e1, _⟩ | ⟨g, cap, cur, e1, _, hg, _⟩
          · rw [e1] at e; cases e
          · rw [e1] at e
            have e2 : w3.heap.size = g := by simpa [Value.ownBlock] using e
            rw [← e2, hk] at hg
            cases hg
        have hlt4 : w3.heap.size < (W4.alloc (.cells #[.int .i64 x2] 3)).drew.heap.size := by show _ < (W4.alloc _).heap.size; simp; exact Nat.lt_succ_of_lt hs4.out
        have HS6 : Hid (w6.cell? ⟨w3.heap.size, 0, none⟩ = some (.int .i64 x1) ∧ w6.cell? ⟨w3.heap.size, 1, none⟩ = some (.int .i64 x2)) :=
          ⟨(World.cell?_of_block (a := ⟨w3.heap.size, 0, none⟩) (hgrow6.block _ hlt4 hw3n)).trans hHeld.1, (World.cell?_of_block (a := ⟨w3.heap.size, 1, none⟩) (hgrow6.block _ hlt4 hw3n)).trans hHeld.2⟩
        refine hK.out _ _ HS6.out (fun hHeld => ?_)
        clear hK K
        try simp only [Act.put, List.setIfInBounds_toArray, List.set_cons_zero, List.set_cons_succ]
        refine wpAnyH_ready (rs := [11]) (by kernel_rfl) (by simp) (AllReadyH.cons rfl (fun K hK => ?_) AllReadyH.nil)
        refine step_update_back (v' := v6) (zs' := zs ++ [x2]) none rfl rfl _ _ _ 66 rfl Hback.out rfl rfl rfl HGB.out Ho6.out (by have := Hzl.out; simp; omega) (by rcases hloc6 with e | e; (exact .inl e); exact .inr ⟨_, e, (by show W4.heap.size ≤ (W4.alloc _).heap.size; simp)⟩) ?_
        intro w7 hown7 hgrow7
        have Hrng7 : Hid (RngP Try.prog 57 b rg L (done ++ [(x1, x2)]) D left3 cnt3 w7) := by
          have Hrng5 := Hrng4.out.keep (grown_drew (World.grownBy_alloc W4 (.cells #[.int .i64 x2] 3) none)) (by simp) (by simp)
          obtain ⟨⟨ob, hob, hob2⟩, ⟨og, hog, hog2⟩⟩ := rng_objs Hrng5
          have hn1 : some b ≠ some w.heap.size := fun e => by
            have h1 : b = w.heap.size := by simpa using e
            have h2 := Hblt.out
            omega
          have hn2 : some rg ≠ some w.heap.size := fun e => by
            have h1 : rg = w.heap.size := by simpa using e
            have h2 := Hrg.out
            omega
          have Hrng6 := Hrng5.keep hgrow6 (fun e => row_no Ho1.out.1 hob hob2 e.symm) (fun e => row_no Ho1.out.1 hog hog2 e.symm)
          exact Hrng6.keep hgrow7 hn1 hn2
        have Hgrp7 : Hid (GrpAt (w.heap.size + 1) w.heap.size (done ++ [(x1, x2)]).length (done ++ [(x1, x2)]) (Dn.put (.int .i64 x1) (rowDatum .i64 v6 (zs ++ [x2]))) w7) := by
          have h0 : GrpAt (w.heap.size + 1) w.heap.size done.length done Dn (W4.alloc (.cells #[.int .i64 x2] 3)).drew := ⟨groups_keep Hgr4.out (grown_drew (World.grownBy_alloc W4 (.cells #[.int .i64 x2] 3) none)) (fun k e => by cases e), HR.out.2.1.read, HR.out.2.1.has⟩
          rw [List.length_append]
          exact grp_put h0 Hfx.out Hat.out Ho1.out Ho6.out hown7
        have Hbel7 : Hid (Below w.heap.size w w7) := by
          have h4 := (Hw4.out.alloc Hw4.out.size (.cells #[.int .i64 x2] 3)).drew
          refine (h4.grown hgrow6 h4.size (fun k e => ?_)).grown hgrow7 ?_ (fun k e => by cases e; exact Nat.le_refl _)
          · rcases Ho1.out.1.2 with ⟨e1, _⟩ | ⟨g, cap, cur, e1, hg, _⟩
            · rw [e1] at e; cases e
            · rw [e1] at e
              have e2 : g = k := by simpa [Value.ownBlock] using e
              omega
          · exact Nat.le_trans h4.size hgrow6.size
        have HS7 : w7.cell? ⟨w3.heap.size, 0, none⟩ = some (.int .i64 x1) ∧ w7.cell? ⟨w3.heap.size, 1, none⟩ = some (.int .i64 x2) := by
          have hlt6 : w3.heap.size < w6.heap.size := Nat.lt_of_lt_of_le hlt4 hgrow6.size
          have hne : some w3.heap.size ≠ some w.heap.size := fun e => by
            have h1 : w3.heap.size = w.heap.size := by simpa using e
            have h2 := Hs3.out
            omega
          exact ⟨(World.cell?_of_block (a := ⟨w3.heap.size, 0, none⟩) (hgrow7.block _ hlt6 hne)).trans HS6.out.1, (World.cell?_of_block (a := ⟨w3.heap.size, 1, none⟩) (hgrow7.block _ hlt6 hne)).trans HS6.out.2⟩
        refine hK.out _ _ HS7 (fun hHeld => ?_)
        clear hK K
        simp only [Act.put]
        refine wpAnyH_done (by kernel_rfl) ?_ _
        have Hm7 : Hid (w7.rangeLeft b rg < wr.rangeLeft b rg) := by
          have h1 := Hm4.out
          rw [Hrng4.out.rng.left_eq] at h1
          show _ < _
          rw [Hrng7.out.rng.left_eq]
          exact h1
        clear hown6 hgrow6 hnil6 hloc6 hown7 hgrow7 hlt4 hw3n hHeld HS7
        go_wp2
        go_roundw
        case rel => exact ⟨done ++ [(x1, x2)], _, _, _, Hrng7.out, Hgrp7.out, Hbel7.out⟩
        case measure => exact Hm7.out
      · go_simp
        refine hK.out _ _ ⟨(World.cell?_alloc_some _ _ _ (by rw [show W4.cell? ⟨w3.heap.size, 0, none⟩ = _ from k0]; rfl)).trans k0, (World.cell?_alloc_some _ _ _ (by rw [show W4.cell? ⟨w3.heap.size, 1, none⟩ = _ from k1]; rfl)).trans k1⟩ (fun hHeld => ?_)
        clear hK K
        try simp only [Act.put, List.setIfInBounds_toArray, List.set_cons_zero, List.set_cons_succ]
        refine wpAnyH_ready (rs := [6]) (by kernel_rfl) (by simp) (AllReadyH.cons rfl (fun K hK => ?_) (AllReadyH.nil))
        refine step_lookup_groups (some 21) rfl rfl _ _ 66 rfl 3 33 3 .i64 K3 Try.underlying66 (zero33 _) (w.heap.size + 1) w.heap.size done.length Dn rfl (groups_keep Hgr4.out (grown_drew (World.grownBy_alloc W4 (.cells #[.int .i64 x2] 3) none)) (fun k e => by cases e)) (by unfold maxLen; have := Hle.out; omega) _ _ rfl Hk1.out ?_
        intro v zs hat ho hzl hback
        have Hat := Lib.hid hat
        have Ho := Lib.hid ho
        have Hzl := Lib.hid hzl
        have Hback := Lib.hid hback
        refine hK.out _ _ hHeld (fun hHeld => ?_)
        clear hK K hat ho hzl hback
        try simp only [Act.put, List.setIfInBounds_toArray, List.set_cons_zero, List.set_cons_succ]
        have Ho1 : Hid ((W4.alloc (.cells #[.int .i64 x2] 3)).drew.ownsInts (w.heap.size + 1) 3 .i64 v zs) := Ho.out
        have HA : Hid (w.heap.size + 1 ≤ (W4.alloc (.cells #[.int .i64 x2] 3)).drew.heap.size) := by have h1 := Hw4s.out; show _ ≤ (W4.alloc _).heap.size; simp; omega
        refine wpAnyH_ready (rs := [10]) (by kernel_rfl) (by simp) (AllReadyH.cons rfl (fun K hK => ?_) AllReadyH.nil)
        refine step_append_at (some 25) rfl rfl _ _ 33 rfl (w.heap.size + 1) 3 i3 (.int .i64 0) 1 8 Try.underlying33 hi3 hy0 hy1 hy2 rfl (by decide) v zs.length (zs.map (Value.int .i64)) rfl Ho1.out.1 ⟨W4.heap.size, 0, none⟩ 1 1 [.int .i64 x2] rfl rfl (news_new W4 #[.int .i64 x2] 3) (by intro u hu; simp at hu; subst hu; rfl) (by unfold maxLen; have := Hzl.out; have := Hle.out; omega) (by have := Hzl.out; have := Hle.out; omega) HA.out ?_
        intro v6 w6 hown6 hgrow6 hnil6 hloc6
        have HGB : Hid ((W4.alloc (.cells #[.int .i64 x2] 3)).drew.grownBy w6 v.ownBlock) := hgrow6
        have Ho6 : Hid (w6.ownsInts (w.heap.size + 1) 3 .i64 v6 (zs ++ [x2])) := Ho1.out.appended hown6 Hfx.out.2
        have hw3n : some w3.heap.size ≠ v.ownBlock := fun e => by
          have hk : (W4.alloc (.cells #[.int .i64 x2] 3)).drew.heap[w3.heap.size]? = some (.cells #[.int .i64 x1, .int .i64 x2] 57) := (Below.heap_alloc W4 _ _ hs4.out).trans (hW4 ▸ World.alloc_heap_new w3 _)
          rcases Ho1.out.1.2 with ⟨e1, _⟩ | ⟨g, cap, cur, e1, _, hg, _⟩
          · rw [e1] at e; cases e
          · rw [e1] at e
            have e2 : w3.heap.size = g := by simpa [Value.ownBlock] using e
            rw [← e2, hk] at hg
            cases hg
        have hlt4 : w3.heap.size < (W4.alloc (.cells #[.int .i64 x2] 3)).drew.heap.size := by show _ < (W4.alloc _).heap.size; simp; exact Nat.lt_succ_of_lt hs4.out
        have HS6 : Hid (w6.cell? ⟨w3.heap.size, 0, none⟩ = some (.int .i64 x1) ∧ w6.cell? ⟨w3.heap.size, 1, none⟩ = some (.int .i64 x2)) :=
          ⟨(World.cell?_of_block (a := ⟨w3.heap.size, 0, none⟩) (hgrow6.block _ hlt4 hw3n)).trans hHeld.1, (World.cell?_of_block (a := ⟨w3.heap.size, 1, none⟩) (hgrow6.block _ hlt4 hw3n)).trans hHeld.2⟩
        refine hK.out _ _ HS6.out (fun hHeld => ?_)
        clear hK K
        try simp only [Act.put, List.setIfInBounds_toArray, List.set_cons_zero, List.set_cons_succ]
        refine wpAnyH_ready (rs := [11]) (by kernel_rfl) (by simp) (AllReadyH.cons rfl (fun K hK => ?_) AllReadyH.nil)
        refine step_update_back (v' := v6) (zs' := zs ++ [x2]) none rfl rfl _ _ _ 66 rfl Hback.out rfl rfl rfl HGB.out Ho6.out (by have := Hzl.out; simp; omega) (by rcases hloc6 with e | e; (exact .inl e); exact .inr ⟨_, e, (by exact Nat.le_refl _)⟩) ?_
        intro w7 hown7 hgrow7
        have Hrng7 : Hid (RngP Try.prog 57 b rg L (done ++ [(x1, x2)]) D left3 cnt3 w7) := by
          have Hrng5 := Hrng4.out.keep (grown_drew (World.grownBy_alloc W4 (.cells #[.int .i64 x2] 3) none)) (by simp) (by simp)
          obtain ⟨⟨ob, hob, hob2⟩, ⟨og, hog, hog2⟩⟩ := rng_objs Hrng5
          have hn1 : some b ≠ some w.heap.size := fun e => by
            have h1 : b = w.heap.size := by simpa using e
            have h2 := Hblt.out
            omega
          have hn2 : some rg ≠ some w.heap.size := fun e => by
            have h1 : rg = w.heap.size := by simpa using e
            have h2 := Hrg.out
            omega
          have Hrng6 := Hrng5.keep hgrow6 (fun e => row_no Ho1.out.1 hob hob2 e.symm) (fun e => row_no Ho1.out.1 hog hog2 e.symm)
          exact Hrng6.keep hgrow7 hn1 hn2
        have Hgrp7 : Hid (GrpAt (w.heap.size + 1) w.heap.size (done ++ [(x1, x2)]).length (done ++ [(x1, x2)]) (Dn.put (.int .i64 x1) (rowDatum .i64 v6 (zs ++ [x2]))) w7) := by
          have h0 : GrpAt (w.heap.size + 1) w.heap.size done.length done Dn (W4.alloc (.cells #[.int .i64 x2] 3)).drew := ⟨groups_keep Hgr4.out (grown_drew (World.grownBy_alloc W4 (.cells #[.int .i64 x2] 3) none)) (fun k e => by cases e), HR.out.2.1.read, HR.out.2.1.has⟩
          rw [List.length_append]
          exact grp_put h0 Hfx.out Hat.out Ho1.out Ho6.out hown7
        have Hbel7 : Hid (Below w.heap.size w w7) := by
          have h4 := (Hw4.out.alloc Hw4.out.size (.cells #[.int .i64 x2] 3)).drew
          refine (h4.grown hgrow6 h4.size (fun k e => ?_)).grown hgrow7 ?_ (fun k e => by cases e; exact Nat.le_refl _)
          · rcases Ho1.out.1.2 with ⟨e1, _⟩ | ⟨g, cap, cur, e1, hg, _⟩
            · rw [e1] at e; cases e
            · rw [e1] at e
              have e2 : g = k := by simpa [Value.ownBlock] using e
              omega
          · exact Nat.le_trans h4.size hgrow6.size
        have HS7 : w7.cell? ⟨w3.heap.size, 0, none⟩ = some (.int .i64 x1) ∧ w7.cell? ⟨w3.heap.size, 1, none⟩ = some (.int .i64 x2) := by
          have hlt6 : w3.heap.size < w6.heap.size := Nat.lt_of_lt_of_le hlt4 hgrow6.size
          have hne : some w3.heap.size ≠ some w.heap.size := fun e => by
            have h1 : w3.heap.size = w.heap.size := by simpa using e
            have h2 := Hs3.out
            omega
          exact ⟨(World.cell?_of_block (a := ⟨w3.heap.size, 0, none⟩) (hgrow7.block _ hlt6 hne)).trans HS6.out.1, (World.cell?_of_block (a := ⟨w3.heap.size, 1, none⟩) (hgrow7.block _ hlt6 hne)).trans HS6.out.2⟩
        refine hK.out _ _ HS7 (fun hHeld => ?_)
        clear hK K
        simp only [Act.put]
        refine wpAnyH_done (by kernel_rfl) ?_ _
        have Hm7 : Hid (w7.rangeLeft b rg < wr.rangeLeft b rg) := by
          have h1 := Hm4.out
          rw [Hrng4.out.rng.left_eq] at h1
          show _ < _
          rw [Hrng7.out.rng.left_eq]
          exact h1
        clear hown6 hgrow6 hnil6 hloc6 hown7 hgrow7 hlt4 hw3n hHeld HS7
        go_wp2
        go_roundw
        case rel => exact ⟨done ++ [(x1, x2)], _, _, _, Hrng7.out, Hgrp7.out, Hbel7.out⟩
        case measure => exact Hm7.out
end Go.Proofs.Ytadlgkakjaecdaa
