/- What stands ahead of a thing, and behind it: the program's, by contracts. -/
import Derived.Test.YtadlgkakjaecdaaDu
namespace Go.Proofs.Ytadlgkakjaecdaa
open Go.RowKit Go.Maps Go.WideMaps Go.WideElems Go.ChangeShapes Go.WideShapes

/-- What stands first in a pair with b. -/
def preds (done : List Pr) (b : Int) : List Int := (done.filter fun p => decide (p.2 = b)).map (·.1)
theorem mem_preds {done : List Pr} {b x : Int} : x ∈ preds done b ↔ (x, b) ∈ done := by
  unfold preds
  simp only [List.mem_map, List.mem_filter, decide_eq_true_eq]
  constructor
  · rintro ⟨⟨p, q⟩, ⟨h1, h2⟩, h3⟩
    simp only at h2 h3
    rw [← h2, ← h3]; exact h1
  · exact fun h => ⟨(x, b), ⟨h, rfl⟩, rfl⟩
theorem preds_same (done : List Pr) (p : Pr) : preds (done ++ [p]) p.2 = preds done p.2 ++ [p.1] := by simp [preds]
theorem preds_other (done : List Pr) (p : Pr) {b : Int} (h : b ≠ p.2) : preds (done ++ [p]) b = preds done b := by
  have : ¬ p.2 = b := fun e => h e.symm
  simp [preds, this]
theorem preds_nodup (b : Int) : ∀ {done : List Pr}, done.Nodup → (preds done b).Nodup
  | [], _ => by simp [preds]
  | p :: done, h => by
    have h' := List.nodup_cons.1 h
    have ih := preds_nodup b h'.2
    by_cases hp : p.2 = b
    · have e : preds (p :: done) b = p.1 :: preds done b := by simp [preds, hp]
      rw [e]
      refine List.nodup_cons.2 ⟨fun hm => h'.1 ?_, ih⟩
      have := mem_preds.1 hm
      rw [← hp] at this
      exact this
    · have e : preds (p :: done) b = preds done b := by simp [preds, hp]
      rw [e]
      exact ih
theorem preds_len (done : List Pr) (b : Int) : (preds done b).length ≤ done.length := by
  unfold preds
  rw [List.length_map]
  exact List.length_filter_le _ _
theorem succs_len (done : List Pr) (b : Int) : (succs done b).length ≤ done.length := by
  unfold succs
  rw [List.length_map]
  exact List.length_filter_le _ _

set_option maxHeartbeats 2000000 in
set_option maxRecDepth 100000 in
theorem ahead_any (r b : Nat) (L : List Pr) (D : DU) (hn : L.length ≤ 1000000) (x : Int) (w : World) (h : RelAt r b L D w) :
    Calls Try.prog 16 #[.pointer (some ⟨r, 0, none⟩), .int .i64 x] w fun e w' => ∃ v' l, e = .returned v' ∧ Hid (RiseI l ∧ (∀ z, z ∈ l ↔ (z, x) ∈ L) ∧ w'.ownsRow w.heap.size 3 1 v' l.length (intsC l) ∧ Below w.heap.size w w') := by
  obtain ⟨i0, hi, hz0, hz1, hz2⟩ := info_parts elem3
  have H := Lib.hid h
  have c0 := h.box.cell
  obtain ⟨n, hnn⟩ : ∃ n, L.length = n := ⟨_, rfl⟩
  rw [hnn] at hn
  have Hn := Lib.hid hnn
  have Hfit := Lib.hid h.prs.fit
  clear h hnn
  go_enter Try.func16, Try.ntmps16
  go_wp2_with (first | (at_range; refine wpList_range_own _ rfl _ 59 rfl 57 62 K57 Try.underlying59 unitElem b L.length D rfl H.out.prs.own ?_; intro w2 hrg2 hg2 hs2) | go_in)
  go_frame
  have H2 : Hid (RngP Try.prog 57 b w.heap.size L [] D (has D) (Maps.size D) w2 ∧ Below w.heap.size w w2) := ⟨rng_start H.out.prs hrg2, (Below.refl _ _).grown hg2 (Nat.le_refl _) (fun k hk => by cases hk)⟩
  obtain ⟨rg, hrg⟩ : ∃ rg, w.heap.size = rg := ⟨_, rfl⟩
  have Hwr : Hid (w.heap.size = rg) := hrg
  rw [hrg] at H2 ⊢
  clear hrg2 hg2 hs2 c0 hrg
  go_loopw [5, 6] (fun v _ wr => ∃ done left cnt, Hid (RngP Try.prog 57 b rg L done D left cnt wr ∧ wr.ownsRow rg 3 1 v (preds done x).length (intsC (preds done x)) ∧ Below rg w wr)) (fun _ _ wr => wr.rangeLeft b rg)
  case atStart => exact ⟨[], _, _, H2.out.1, World.ownsRow_nil _ _ _ _, H2.out.2⟩
  case round =>
    obtain ⟨done, left, cnt, HR⟩ := hrel
    go_wp2_with (first | (at_next; refine wpList_next_ranges _ rfl _ rfl 57 K57 unitElem pv (fun _ : Unit => .agg #[]) invK57 invU b rg L.length D left cnt rfl HR.out.1.rng ?_ ?_) | go_in)
    · intro hc0 hl0
      clear hc0
      have hall := rng_all HR.out.1 Hfit.out hl0
      have Hall := Lib.hid hall
      obtain ⟨m, hm⟩ : ∃ m, (preds done x).length = m := ⟨_, rfl⟩
      have hlen : m ≤ 1000000 := by
        have h1 := nodup_len HR.out.1.once (fun p hp => (hall p).1 hp)
        have h2 := preds_len done x
        have h3 := Hn.out
        omega
      have hrow := HR.out.2.1
      rw [hm] at hrow
      have HS := Lib.hid (sort_ints rg m u5 (preds done x) wr hrow hm hlen (preds_nodup x HR.out.1.once))
      have Hrow := Lib.hid hrow
      clear hall hlen hl0 hrow hm
      go_wp2_with (first | (go_at_call 38; refine HS.out.mono ?_; rintro e w6 ⟨rfl, l', h6⟩) | go_in)
      go_ret
      refine ⟨_, l', rfl, h6.out.1, fun z => ?_, by rw [h6.out.2.2.1, Hwr.out]; exact h6.out.2.2.2.1, by rw [Hwr.out]; exact HR.out.2.2.grown h6.out.2.2.2.2 (by have := HR.out.2.2.size; have := Hwr.out; omega) (fun k e => (Hrow.out.lt k e).1)⟩
      rw [h6.out.2.1 z, mem_preds, Hall.out]
    · intro x1 x2 kl y1 y2 w3 cnt3 hkx hlk hv hat hrg3 hlt3 hg3 hs3 hen
      obtain ⟨hfx, rfl⟩ := inv57 (x := (x1, x2)) hkx
      obtain ⟨hxL, hxn, hrng⟩ := rng_more A57 Try.underlying3 sz57 K57 HR.out.1 hfx hlk hrg3
      obtain ⟨left3, hrng⟩ : ∃ l, RngP Try.prog 57 b rg L (done ++ [(x1, x2)]) D l cnt3 w3 := ⟨_, hrng⟩
      obtain ⟨⟨ob, hob, hob2⟩, ⟨org, horg, horg2⟩⟩ := rng_objs HR.out.1
      have hro := HR.out.2.1
      have hrow3 := row_keep hro hg3 (fun k e => by cases e; exact row_no hro horg horg2)
      have hle : done.length < n := by
        rw [← Hn.out]
        have := nodup_len hrng.once hrng.sub
        simp at this
        omega
      have hw3 : Below rg w w3 := HR.out.2.2.grown hg3 (by have := HR.out.2.2.size; have := Hwr.out; omega) (fun k hk => by cases hk; exact Nat.le_refl _)
      obtain ⟨W4, hW4, hb4, hs4, k0, k1⟩ := two_new w3 (.int .i64 x1) (.int .i64 x2) 57
      have Hrow4 := Lib.hid (ownsRow_below hrow3 hb4.out)
      have Hrng4 := Lib.hid (hrng.keep (grown_below hb4.out) (by simp) (by simp))
      have hrgw : rg ≤ w3.heap.size := by have := hw3.size; have := Hwr.out; omega
      have Hw4 : Hid (Below rg w W4) := hw3.trans (hb4.out.mono hrgw)
      have Hrg4 : Hid (rg ≤ W4.heap.size) := by have := hb4.out.size; show _ ≤ _; omega
      have Hm4 : Hid (W4.rangeLeft b rg < wr.rangeLeft b rg) := by show _ < _; rw [Hrng4.out.rng.left_eq, HR.out.1.rng.left_eq]; exact hlt3
      have Hle : Hid ((preds done x).length < n) := by have := preds_len done x; show _ < _; omega
      clear hkx hlk hv hat hrg3 hlt3 hg3 hs3 hxL hxn hrng hob horg hro hrow3 hle hfx hw3 hrgw
      by_cases hx : x2 = x
      · have e1 : (x2 == x) = true := by simpa using hx
        have HF : Hid (preds (done ++ [(x1, x2)]) x = preds done x ++ [x1]) := by
          show _ = _
          rw [← hx]
          exact preds_same done (x1, x2)
        have HA : Hid (rg ≤ (W4.alloc (.cells #[.int .i64 x1] 3)).heap.size) := by
          show _ ≤ (World.alloc _ _).heap.size
          simp
          have := Hrg4.out
          omega
        clear hx
        go_wp2_with (first
          | (at_builtin; refine wpList_append_own _ rfl _ _ 33 rfl rg 3 i0 (.int .i64 0) 1 8 Try.underlying33 hi hz0 hz1 hz2 rfl (by decide) u5 (preds done x).length (intsC (preds done x)) rfl (Hrow4.out.alloc _) ⟨W4.heap.size, 0, none⟩ 1 1 [.int .i64 x1] rfl rfl (news_new _ _ _) (intsC_one [x1]) (by unfold maxLen; have := Hle.out; omega) (by have := Hle.out; omega) HA.out ?_)
          | go_in)
        intro v5 w5 hown5 hgrow5 hnil5
        obtain ⟨⟨ob, hob, hob2⟩, ⟨org, horg, horg2⟩⟩ := rng_objs Hrng4.out
        have hb5 := Hrng4.out.keep (World.grownBy_alloc W4 (.cells #[.int .i64 x1] 3) none) (by simp) (by simp)
        have Hrng5 := Lib.hid (hb5.keep hgrow5 (row_no Hrow4.out hob hob2).symm (row_no Hrow4.out horg horg2).symm)
        have Hw5 : Hid (Below rg w w5) := (Hw4.out.alloc Hrg4.out _).grown hgrow5 HA.out (fun k hk => (Hrow4.out.lt k hk).1)
        have Hown5 : Hid (w5.ownsRow rg 3 1 v5 (preds (done ++ [(x1, x2)]) x).length (intsC (preds (done ++ [(x1, x2)]) x))) := by
          show World.ownsRow _ _ _ _ _ _ _
          rw [HF.out, intsC_snoc, List.length_append]
          exact hown5
        have Hm5 : Hid (w5.rangeLeft b rg < wr.rangeLeft b rg) := by show _ < _; rw [Hrng5.out.rng.left_eq, ← Hrng4.out.rng.left_eq]; exact Hm4.out
        clear hown5 hgrow5 hob hob2 horg horg2 hb5 hnil5
        go_wp2
        go_roundw
        case rel => exact ⟨done ++ [(x1, x2)], _, _, Hrng5.out, Hown5.out, Hw5.out⟩
        case measure => exact Hm5.out
      · have e1 : (x2 == x) = false := by simpa using hx
        have HF : Hid (preds (done ++ [(x1, x2)]) x = preds done x) := preds_other done (x1, x2) (fun e => hx e.symm)
        have Hown5 : Hid (W4.ownsRow rg 3 1 u5 (preds (done ++ [(x1, x2)]) x).length (intsC (preds (done ++ [(x1, x2)]) x))) := by
          show World.ownsRow _ _ _ _ _ _ _
          rw [HF.out]
          exact Hrow4.out
        clear hx
        go_wp2
        go_roundw
        case rel => exact ⟨done ++ [(x1, x2)], _, _, Hrng4.out, Hown5.out, Hw4.out⟩
        case measure => exact Hm4.out

set_option maxHeartbeats 2000000 in
set_option maxRecDepth 100000 in
theorem behind_any (r b : Nat) (L : List Pr) (D : DU) (hn : L.length ≤ 1000000) (x : Int) (w : World) (h : RelAt r b L D w) :
    Calls Try.prog 18 #[.pointer (some ⟨r, 0, none⟩), .int .i64 x] w fun e w' => ∃ v' l, e = .returned v' ∧ Hid (RiseI l ∧ (∀ z, z ∈ l ↔ (x, z) ∈ L) ∧ w'.ownsRow w.heap.size 3 1 v' l.length (intsC l) ∧ Below w.heap.size w w') := by
  obtain ⟨i0, hi, hz0, hz1, hz2⟩ := info_parts elem3
  have H := Lib.hid h
  have c0 := h.box.cell
  obtain ⟨n, hnn⟩ : ∃ n, L.length = n := ⟨_, rfl⟩
  rw [hnn] at hn
  have Hn := Lib.hid hnn
  have Hfit := Lib.hid h.prs.fit
  clear h hnn
  go_enter Try.func18, Try.ntmps18
  go_wp2_with (first | (at_range; refine wpList_range_own _ rfl _ 59 rfl 57 62 K57 Try.underlying59 unitElem b L.length D rfl H.out.prs.own ?_; intro w2 hrg2 hg2 hs2) | go_in)
  go_frame
  have H2 : Hid (RngP Try.prog 57 b w.heap.size L [] D (has D) (Maps.size D) w2 ∧ Below w.heap.size w w2) := ⟨rng_start H.out.prs hrg2, (Below.refl _ _).grown hg2 (Nat.le_refl _) (fun k hk => by cases hk)⟩
  obtain ⟨rg, hrg⟩ : ∃ rg, w.heap.size = rg := ⟨_, rfl⟩
  have Hwr : Hid (w.heap.size = rg) := hrg
  rw [hrg] at H2 ⊢
  clear hrg2 hg2 hs2 c0 hrg
  go_loopw [5, 6] (fun v _ wr => ∃ done left cnt, Hid (RngP Try.prog 57 b rg L done D left cnt wr ∧ wr.ownsRow rg 3 1 v (succs done x).length (intsC (succs done x)) ∧ Below rg w wr)) (fun _ _ wr => wr.rangeLeft b rg)
  case atStart => exact ⟨[], _, _, H2.out.1, World.ownsRow_nil _ _ _ _, H2.out.2⟩
  case round =>
    obtain ⟨done, left, cnt, HR⟩ := hrel
    go_wp2_with (first | (at_next; refine wpList_next_ranges _ rfl _ rfl 57 K57 unitElem pv (fun _ : Unit => .agg #[]) invK57 invU b rg L.length D left cnt rfl HR.out.1.rng ?_ ?_) | go_in)
    · intro hc0 hl0
      clear hc0
      have hall := rng_all HR.out.1 Hfit.out hl0
      have Hall := Lib.hid hall
      obtain ⟨m, hm⟩ : ∃ m, (succs done x).length = m := ⟨_, rfl⟩
      have hlen : m ≤ 1000000 := by
        have h1 := nodup_len HR.out.1.once (fun p hp => (hall p).1 hp)
        have h2 := succs_len done x
        have h3 := Hn.out
        omega
      have hrow := HR.out.2.1
      rw [hm] at hrow
      have HS := Lib.hid (sort_ints rg m u5 (succs done x) wr hrow hm hlen (succs_nodup x HR.out.1.once))
      have Hrow := Lib.hid hrow
      clear hall hlen hl0 hrow hm
      go_wp2_with (first | (go_at_call 38; refine HS.out.mono ?_; rintro e w6 ⟨rfl, l', h6⟩) | go_in)
      go_ret
      refine ⟨_, l', rfl, h6.out.1, fun z => ?_, by rw [h6.out.2.2.1, Hwr.out]; exact h6.out.2.2.2.1, by rw [Hwr.out]; exact HR.out.2.2.grown h6.out.2.2.2.2 (by have := HR.out.2.2.size; have := Hwr.out; omega) (fun k e => (Hrow.out.lt k e).1)⟩
      rw [h6.out.2.1 z, mem_succs, Hall.out]
    · intro x1 x2 kl y1 y2 w3 cnt3 hkx hlk hv hat hrg3 hlt3 hg3 hs3 hen
      obtain ⟨hfx, rfl⟩ := inv57 (x := (x1, x2)) hkx
      obtain ⟨hxL, hxn, hrng⟩ := rng_more A57 Try.underlying3 sz57 K57 HR.out.1 hfx hlk hrg3
      obtain ⟨left3, hrng⟩ : ∃ l, RngP Try.prog 57 b rg L (done ++ [(x1, x2)]) D l cnt3 w3 := ⟨_, hrng⟩
      obtain ⟨⟨ob, hob, hob2⟩, ⟨org, horg, horg2⟩⟩ := rng_objs HR.out.1
      have hro := HR.out.2.1
      have hrow3 := row_keep hro hg3 (fun k e => by cases e; exact row_no hro horg horg2)
      have hle : done.length < n := by
        rw [← Hn.out]
        have := nodup_len hrng.once hrng.sub
        simp at this
        omega
      have hw3 : Below rg w w3 := HR.out.2.2.grown hg3 (by have := HR.out.2.2.size; have := Hwr.out; omega) (fun k hk => by cases hk; exact Nat.le_refl _)
      obtain ⟨W4, hW4, hb4, hs4, k0, k1⟩ := two_new w3 (.int .i64 x1) (.int .i64 x2) 57
      have Hrow4 := Lib.hid (ownsRow_below hrow3 hb4.out)
      have Hrng4 := Lib.hid (hrng.keep (grown_below hb4.out) (by simp) (by simp))
      have hrgw : rg ≤ w3.heap.size := by have := hw3.size; have := Hwr.out; omega
      have Hw4 : Hid (Below rg w W4) := hw3.trans (hb4.out.mono hrgw)
      have Hrg4 : Hid (rg ≤ W4.heap.size) := by have := hb4.out.size; show _ ≤ _; omega
      have Hm4 : Hid (W4.rangeLeft b rg < wr.rangeLeft b rg) := by show _ < _; rw [Hrng4.out.rng.left_eq, HR.out.1.rng.left_eq]; exact hlt3
      have Hle : Hid ((succs done x).length < n) := by have := succs_len done x; show _ < _; omega
      clear hkx hlk hv hat hrg3 hlt3 hg3 hs3 hxL hxn hrng hob horg hro hrow3 hle hfx hw3 hrgw
      by_cases hx : x1 = x
      · have e1 : (x1 == x) = true := by simpa using hx
        have HF : Hid (succs (done ++ [(x1, x2)]) x = succs done x ++ [x2]) := by
          show _ = _
          rw [← hx]
          exact succs_same done (x1, x2)
        have HA : Hid (rg ≤ (W4.alloc (.cells #[.int .i64 x2] 3)).heap.size) := by
          show _ ≤ (World.alloc _ _).heap.size
          simp
          have := Hrg4.out
          omega
        clear hx
        go_wp2_with (first
          | (at_builtin; refine wpList_append_own _ rfl _ _ 33 rfl rg 3 i0 (.int .i64 0) 1 8 Try.underlying33 hi hz0 hz1 hz2 rfl (by decide) u5 (succs done x).length (intsC (succs done x)) rfl (Hrow4.out.alloc _) ⟨W4.heap.size, 0, none⟩ 1 1 [.int .i64 x2] rfl rfl (news_new _ _ _) (intsC_one [x2]) (by unfold maxLen; have := Hle.out; omega) (by have := Hle.out; omega) HA.out ?_)
          | go_in)
        intro v5 w5 hown5 hgrow5 hnil5
        obtain ⟨⟨ob, hob, hob2⟩, ⟨org, horg, horg2⟩⟩ := rng_objs Hrng4.out
        have hb5 := Hrng4.out.keep (World.grownBy_alloc W4 (.cells #[.int .i64 x2] 3) none) (by simp) (by simp)
        have Hrng5 := Lib.hid (hb5.keep hgrow5 (row_no Hrow4.out hob hob2).symm (row_no Hrow4.out horg horg2).symm)
        have Hw5 : Hid (Below rg w w5) := (Hw4.out.alloc Hrg4.out _).grown hgrow5 HA.out (fun k hk => (Hrow4.out.lt k hk).1)
        have Hown5 : Hid (w5.ownsRow rg 3 1 v5 (succs (done ++ [(x1, x2)]) x).length (intsC (succs (done ++ [(x1, x2)]) x))) := by
          show World.ownsRow _ _ _ _ _ _ _
          rw [HF.out, intsC_snoc, List.length_append]
          exact hown5
        have Hm5 : Hid (w5.rangeLeft b rg < wr.rangeLeft b rg) := by show _ < _; rw [Hrng5.out.rng.left_eq, ← Hrng4.out.rng.left_eq]; exact Hm4.out
        clear hown5 hgrow5 hob hob2 horg horg2 hb5 hnil5
        go_wp2
        go_roundw
        case rel => exact ⟨done ++ [(x1, x2)], _, _, Hrng5.out, Hown5.out, Hw5.out⟩
        case measure => exact Hm5.out
      · have e1 : (x1 == x) = false := by simpa using hx
        have HF : Hid (succs (done ++ [(x1, x2)]) x = succs done x) := succs_other done (x1, x2) (fun e => hx e.symm)
        have Hown5 : Hid (W4.ownsRow rg 3 1 u5 (succs (done ++ [(x1, x2)]) x).length (intsC (succs (done ++ [(x1, x2)]) x))) := by
          show World.ownsRow _ _ _ _ _ _ _
          rw [HF.out]
          exact Hrow4.out
        clear hx
        go_wp2
        go_roundw
        case rel => exact ⟨done ++ [(x1, x2)], _, _, Hrng4.out, Hown5.out, Hw4.out⟩
        case measure => exact Hm4.out
end Go.Proofs.Ytadlgkakjaecdaa
