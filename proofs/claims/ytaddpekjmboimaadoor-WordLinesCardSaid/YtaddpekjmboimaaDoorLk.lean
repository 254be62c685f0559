/- The walk of the statement on words joined and lines put together. -/
import Derived.Test.YtaddpekjmboimaaDoorLj
import Derived.Test.YtaddpekjmboimaaDoorWq
namespace Go.Proofs.YtaddpekjmboimaaDoor
open Go.RowKit Go.Maps Go.WideMaps Go.WideElems Go.ChangeShapes Go.WideShapes
attribute [local go_sem] Oper.semAt_some

variable {T : TypeId} {e0 e1 e2 : Addr}

theorem unlines_len : ∀ ls : List (List UInt8), (unlines ls).length = Lib.lens ls + ls.length
  | [] => rfl
  | x :: r => by
    have := unlines_len r
    simp [unlines, Lib.lens] at this ⊢
    omega
theorem lines_total (l : List UInt8) : Lib.lens (linesL l) + (linesL l).length ≤ l.length + 1 := by
  rw [← unlines_len, unlines_lines]
  split <;> simp
/-- The lines of these places, each with a newline. -/
def putL (LL : List (List UInt8)) (pre : List Nat) : List UInt8 := unlines (pre.map fun x => LL[x]?.getD [])
theorem putL_snoc (LL : List (List UInt8)) (pre : List Nat) (x : Nat) : putL LL (pre ++ [x]) = putL LL pre ++ LL[x]?.getD [] ++ [10] := by simp [putL, unlines]
theorem putL_all (LL : List (List UInt8)) : putL LL (List.range LL.length) = unlines LL := by
  unfold putL
  congr 1
  apply List.ext_getElem
  · simp
  · intro i h1 h2
    have h3 : i < LL.length := by simpa using h1
    simp [h3]
theorem getD_le {LL : List (List UInt8)} {N : Nat} (h : ∀ x ∈ LL, x.length ≤ N) (x : Nat) : (LL[x]?.getD []).length ≤ N := by
  by_cases hx : x < LL.length
  · rw [List.getElem?_eq_getElem hx]; exact h _ (List.getElem_mem hx)
  · rw [List.getElem?_eq_none (by omega)]; simp
theorem putL_le {LL : List (List UInt8)} {N : Nat} (h : ∀ x ∈ LL, x.length ≤ N) : ∀ pre : List Nat, (putL LL pre).length ≤ pre.length * (N + 1)
  | [] => by simp [putL, unlines]
  | x :: r => by
    have h1 := putL_le h r
    have h2 := getD_le h x
    have e : putL LL (x :: r) = LL[x]?.getD [] ++ [10] ++ putL LL r := by simp [putL, unlines]
    rw [e]
    simp only [List.length_append, List.length_cons, List.length_nil]
    rw [Nat.add_mul]
    omega

theorem cell_one_at (w : World) (g : Nat) (hg : g = w.heap.size) (x : Value) (t : TypeId) : ∀ j u, [x][j]? = some u → (w.alloc (.cells #[x] t)).cell? ((⟨g, 0, none⟩ : Addr).add j) = some u := by
  subst hg
  exact cell_one_new w x t

/-- At a panic nothing is asked of the frame. -/
def calm (Q : Exit → Act → World → Prop) : Exit → Act → World → Prop
  | .panic _, _, _ => False
  | e, a, w => Q e a w

theorem le_lens : ∀ (l : List (List UInt8)) (x : List UInt8), x ∈ l → x.length ≤ Lib.lens l
  | y :: r, x, h => by
    rcases List.mem_cons.1 h with rfl | h
    · simp [Lib.lens]
    · have := le_lens r x h
      simp [Lib.lens] at this ⊢; omega

theorem leaveJ {R : Ending → World → Prop} {a : Act} {w : World} (v : Value) (hd : a.defers = []) (hp : a.tmps.getD 4 undef = v) (hR : R (.returned v) w) :
    bodyPostM Fence.wide 10 Tryd.prog Tryd.f7 R .ret a w := by
  show LeavesInM Fence.wide 10 Tryd.prog Tryd.f7 a.tmps R a.defers .returning w
  rw [hd]
  exact ⟨_, results_tmp rfl _ _ _, by rw [hp]; exact hR⟩

theorem leaveJD {R : Ending → World → Prop} {a : Act} {w : World} (v : Value) (D : Nat) (hd : a.defers = [{ target := .collected D, args := #[] }]) (hp : a.tmps.getD 4 undef = v) (hK : w.heap[D]? = some (.deferred (some []))) (hR : R (.returned v) (w.putObj D (.deferred none))) :
    bodyPostM Fence.wide 10 Tryd.prog Tryd.f7 R .ret a w := by
  show LeavesInM Fence.wide 10 Tryd.prog Tryd.f7 a.tmps R a.defers .returning w
  rw [hd]
  exact ⟨by simp, .inl ⟨_, _, rfl, run_takeDeferred hK, _, results_tmp rfl _ _ _, by rw [hp]; exact hR⟩⟩

theorem un_of {lb : List Nat} (h : ∀ x ∈ lb, x < 256) : un (lb.map UInt8.ofNat) = lb := by
  unfold un
  rw [List.map_map]
  conv => rhs; rw [← List.map_id lb]
  apply List.map_congr_left
  intro x hx
  have := h x hx
  simp [UInt8.toNat_ofNat']; omega
theorem whole_map {lb : List Nat} (h : ∀ x ∈ lb, x < 256) {n : Nat} (hn : lb.length = n + 1) : whole (lb.map UInt8.ofNat) = decide (lb[n]?.getD 0 = 10) := by
  have hlt : n < lb.length := by omega
  have hne : (lb.map UInt8.ofNat == []) = false := by
    cases lb with
    | nil => simp at hn
    | cons => rfl
  unfold whole
  rw [hne, Bool.false_or, List.getLast?_eq_getElem?, List.length_map, hn, Nat.add_sub_cancel, List.getElem?_map, List.getElem?_eq_getElem hlt]
  have hb := h _ (List.getElem_mem hlt)
  simp only [Option.map_some, Option.getD_some]
  by_cases e : lb[n] = 10
  · rw [e]; rfl
  · rw [decide_eq_false e]
    have : UInt8.ofNat lb[n] ≠ 10 := fun e2 => by
      have := congrArg UInt8.toNat e2
      simp [UInt8.toNat_ofNat'] at this
      omega
    simpa using this

set_option maxRecDepth 100000 in
set_option maxHeartbeats 4000000 in
theorem joins_any (s : ByteArray) (hs : s.size ≤ 9223372036854775807) (a : Option Addr) (c : Nat) (lb : List Nat) (w : World) (hG : Glob T e0 e1 e2 w) (hb : BAt w a lb) (hlb : ∀ x ∈ lb, x < 256) (hm : lb.length ≤ 9223372036854775807) :
    Calls Tryd.prog 7 #[.string s, .slice a lb.length c] w fun e w' => e = .returned (.bool true) ∧ Hid (Below w.heap.size w w') := by
  have HG := Lib.hid hG
  have Hf := Lib.hid (first_any w hG)
  have HB := Lib.hid hb
  have Hlb := Lib.hid hlb
  clear hG hb hlb
  have hsl : s.data.toList.length = s.size := by simp
  have hwords : s.size ≤ 65536 → ∀ w1, Below w.heap.size w w1 → Calls Tryd.prog 12 #[.string s] w1 (fun e w' => ∃ A : Nat, e = .returned (.slice (some ⟨A, 0, none⟩) (wordsL s.data.toList).length (wordsL s.data.toList).length) ∧ Hid (TAt w' (some ⟨A, 0, none⟩) (wordsL s.data.toList) ∧ Below w.heap.size w w')) := fun h65 w1 hb => by
    have h := words_any s.data.toList (by omega) w1
    simp only [tv, arr_of] at h
    refine h.mono fun e w' ⟨A, he, h2⟩ => ?_
    obtain ⟨a, c, ha, ht⟩ := tat_row h2.out.1
    cases ha
    exact ⟨A, he, ht, hb.trans (h2.out.2.mono hb.size)⟩
  have hwl : s.size ≤ 65536 → (wordsL s.data.toList).length ≤ 65537 := fun h => by have := wordsL_len s.data.toList []; simp at this; unfold wordsL; omega
  have hjl : s.size ≤ 65536 → (Lib.join (wordsL s.data.toList) [32]).length ≤ 65537 := fun h => by
    have h1 := join_le (wordsL s.data.toList)
    have h2 := join_words_le s.data.toList []
    simp at h2
    unfold wordsL at h1 ⊢
    omega
  have hcl := Lib.hid (words_clean s.data.toList)
  have Hxl : Hid (s.size ≤ 65536 → ∀ x ∈ wordsL s.data.toList, x.length ≤ 65537) := fun h x hx => by
    have h1 := le_lens _ _ hx
    have h2 := join_words_le s.data.toList []
    simp at h2
    unfold wordsL at h1
    omega
  generalize wordsL s.data.toList = WL at *
  have hj : s.size ≤ 65536 → ∀ w1 A, TAt w1 (some ⟨A, 0, none⟩) WL → Calls Tryd.prog 14 #[.slice (some ⟨A, 0, none⟩) WL.length WL.length] w1 fun e w' => e = .returned (tv (Lib.join WL [32])) ∧ Hid (Below w1.heap.size w1 w') := fun h65 w1 A ht => join_any _ _ WL w1 ht (Nat.le_refl _) (by have := hwl h65; omega) (by have := hjl h65; omega)
  have hw2 : s.size ≤ 65536 → ∀ w1, Below w.heap.size w w1 → Calls Tryd.prog 12 #[tv (Lib.join WL [32])] w1 (fun e w' => ∃ A : Nat, e = .returned (.slice (some ⟨A, 0, none⟩) WL.length WL.length) ∧ Hid (TAt w' (some ⟨A, 0, none⟩) WL ∧ Below w.heap.size w w' ∧ Below w1.heap.size w1 w')) := fun h65 w1 hb => by
    have h := words_any (Lib.join WL [32]) (by have := hjl h65; omega) w1
    rw [words_join hcl.out] at h
    refine h.mono fun e w' ⟨A, he, h2⟩ => ?_
    obtain ⟨a, c, ha, ht⟩ := tat_row h2.out.1
    cases ha
    exact ⟨A, he, ht, hb.trans (h2.out.2.mono hb.size), h2.out.2⟩
  have hst : s.size ≤ 65536 → ∀ w1 a a', TAt w1 a WL → TAt w1 a' WL → Calls Tryd.prog 11 #[.slice a WL.length WL.length, .slice a' WL.length WL.length] w1 fun e w' => e = .returned (.bool true) ∧ Hid (Below w1.heap.size w1 w') := fun h65 w1 a a' g1 g2 => by
    have h := sameTexts_any a a' WL.length WL.length _ _ w1 g1 g2 (by have := hwl h65; omega) (by have := hwl h65; omega)
    rw [decide_eq_true rfl] at h
    exact h.mono fun e w' ⟨he, q, hq⟩ => ⟨he, by show Below _ _ _; rw [← hq]; exact below_drewN (Below.refl _ _) q⟩
  have Hwords := Lib.hid hwords
  have Hj := Lib.hid hj
  have Hw2 := Lib.hid hw2
  have Hst := Lib.hid hst
  clear hwords hj hw2 hst hjl
  refine callsIn_wide.1 (callsIn_of_wp_marks (F := Fence.wide) (n := 10) Tryd.func7 rfl trivial (wpIn_wide.2 (Code.wp_mono (Q := calm (bodyPostM Fence.wide 10 Tryd.prog Tryd.f7 fun e w' => e = .returned (.bool true) ∧ Hid (Below w.heap.size w w'))) (fun e a w h => by cases e <;> first | exact h | exact h.elim) ?_)) rfl)
  simp only [Tryd.ntmps7, List.size_toArray, List.length_cons, List.length_nil, Nat.reduceAdd, Nat.reduceSub, Array.replicate_succ, Array.replicate_zero, List.push_toArray, List.append_toArray, List.nil_append, List.cons_append]
  by_cases hbig : 65536 < s.size
  · have hd : decide ((65536 : Int) < (s.size : Int)) = true := by simp; omega
    clear hbig hwl
    go_wp2_with (first | (go_at_call 9; refine Hf.out.mono ?_; rintro e w1 ⟨rfl, hb1⟩))
    exact leaveJ _ rfl rfl ⟨rfl, hb1⟩
  have hd : decide ((65536 : Int) < (s.size : Int)) = false := by simp; omega
  by_cases hbig2 : 65536 < lb.length
  · have hd2 : decide ((65536 : Int) < (lb.length : Int)) = true := by simp; omega
    clear hbig hwl hbig2
    go_wp2_with (first | (go_at_call 9; refine Hf.out.mono ?_; rintro e w1 ⟨rfl, hb1⟩))
    exact leaveJ _ rfl rfl ⟨rfl, hb1⟩
  have hd2 : decide ((65536 : Int) < (lb.length : Int)) = false := by simp; omega
  have H65 : Hid (s.size ≤ 65536) := by show _ ≤ _; omega
  have hwl := hwl H65.out
  have hlb65 : lb.length ≤ 65536 := by omega
  clear hbig hbig2
  go_wp2_with (first | (go_at_call 9; refine Hf.out.mono ?_; rintro e w1 ⟨rfl, hb1⟩) | (go_at_call 12; refine (Hwords.out H65.out _ hb1.out).mono ?_; rintro e w2 ⟨A, rfl, h2⟩; clear Hwords hb1))
  go_loopw [7] (fun i wr => ∃ r : Nat, r ≤ WL.length ∧ i = .int .i64 r ∧ Hid (TAt wr (some ⟨A, 0, none⟩) WL ∧ Below w.heap.size w wr)) (fun i _ => WL.length - (intOf i).toNat)
  case atStart => exact ⟨0, Nat.zero_le _, rfl, h2.out⟩
  case round =>
    obtain ⟨r, hr, rfl, HR⟩ := hrel
    clear h2
    by_cases hlt : r < WL.length
    · obtain ⟨b, off, e, hbl, hc⟩ := tat_at HR.out.1 hlt
      cases e
      rw [Nat.zero_add] at hc
      have hx := hcl.out (WL[r]?.getD []) (by rw [List.getElem?_eq_getElem hlt]; exact List.getElem_mem hlt)
      obtain ⟨sx, hsx⟩ : ∃ sx : ByteArray, sx = ⟨(WL[r]?.getD []).toArray⟩ := ⟨_, rfl⟩
      have hxl := Hxl.out H65.out (WL[r]?.getD []) (by rw [List.getElem?_eq_getElem hlt]; exact List.getElem_mem hlt)
      have hsxs : sx.size ≤ 65537 := by rw [hsx]; simpa [ByteArray.size] using hxl
      have hsd : sx.data.toList = WL[r]?.getD [] := by rw [hsx]
      rw [← hsd] at hx
      rw [tv, ← hsx] at hc
      clear hsd hsx hxl
      have Hx := Lib.hid hx
      clear hx
      go_wp2
      go_loopw [8] (fun i wr' => ∃ k : Nat, k ≤ sx.size ∧ i = .int .i64 k ∧ wr'.cell? ⟨A, r, none⟩ = some (.string sx) ∧ Hid (TAt wr' (some ⟨A, 0, none⟩) WL ∧ Below w.heap.size w wr')) (fun i _ => sx.size - (intOf i).toNat)
      case atStart => exact ⟨0, Nat.zero_le _, rfl, hc, HR.out⟩
      case round =>
        obtain ⟨k, hk, rfl, hc2, HR2⟩ := hrel
        clear hc HR
        by_cases hlt2 : k < sx.size
        · have hx32 : (((sx[k]'hlt2).toNat : Int) == 32) = false := by
            rw [byte32, decide_eq_false]
            exact Hx.out.2 _ (List.getElem_mem (by simpa using hlt2))
          go_wp2
          go_roundw
          case rel => exact ⟨k + 1, by omega, by go_num, hc2, HR2.out⟩
          case measure => simp [intOf]; omega
        · have hne : sx.toList.isEmpty = false := by
            have := Hx.out.1
            rw [ByteArray.toList_eq]
            simpa using this
          have hke : k = sx.size := by omega
          subst hke
          go_wp2
          go_roundw
          case rel => exact ⟨r + 1, by omega, by go_num, HR2.out⟩
          case measure => simp [intOf]; omega
    · have hre : r = WL.length := by omega
      subst hre
      go_wp2_with (first
        | (go_at_call 14; refine (Hj.out H65.out _ _ HR.out.1).mono ?_; rintro e w3 ⟨rfl, h3⟩; have HK := Lib.hid (And.intro (HR.out.1.below' h3.out) (HR.out.2.trans (h3.out.mono HR.out.2.size))); clear h3 HR)
        | (go_at_call 12; refine (Hw2.out H65.out _ HK.out.2).mono ?_; rintro e w4 ⟨A2, rfl, h4⟩; have HL := Lib.hid (And.intro (HK.out.1.below' h4.out.2.2) h4.out); clear h4 HK)
        | (go_at_call 11; refine (Hst.out H65.out _ _ _ HL.out.2.1 HL.out.1).mono ?_; rintro e w5 ⟨rfl, h5⟩; have HM := Lib.hid (HL.out.2.2.1.trans (h5.out.mono HL.out.2.2.1.size)); clear h5 HL)
        | (go_at_call 20; refine (lines_any a c lb _ ((HB.out.below' HM.out).below' ((Below.refl _ _).alloc (Nat.le_refl _) _))).mono ?_; rintro e w6 ⟨rfl, hw6⟩))
      obtain ⟨bb, hbb⟩ : ∃ bb, bb = w5.heap.size := ⟨_, rfl⟩
      have hs6 : w6.heap.size = bb + 2 := by rw [← hw6, hbb]; simp
      have hB6 : Below bb w5 w6 := by rw [← hw6]; exact ((Below.refl bb w5).alloc (by omega) _).alloc (by simp; omega) _
      have hbx : Boxed w6 bb 31 (.slice none 0 0) := by rw [← hw6, hbb]; exact (Boxed.new w5 31 _).alloc _
      have hbs : w6.cell? ⟨bb + 1, 0, none⟩ = some (tv (lb.map UInt8.ofNat)) := by
        have := (Boxed.new (w5.alloc (.cells #[.slice none 0 0] 31)) 9 (.string (sB lb))).cell
        rw [World.size_alloc, hw6, ← hbb] at this
        exact this
      have h9 : 9 ≤ bb := by have := (HG.out.below' HM.out).size; omega
      obtain ⟨m, hm5⟩ := (HG.out.below' HM.out).c3
      have hm6 := (hB6.cell (p := ⟨3, 0, none⟩) (show 3 < bb by omega)).trans hm5
      have hseq := lines_stops (10 - 1) (by decide) (bb + 1) bb (lb.map UInt8.ofNat) (by simp; omega) m w6 (by omega) hm6 hbs
      have hll := lines_total (lb.map UInt8.ofNat)
      rw [List.length_map] at hll
      have hxl : ∀ x ∈ linesL (lb.map UInt8.ofNat), x.length ≤ 65537 := fun x hx => by have := le_lens _ x hx; omega
      have hun := unlines_lines (lb.map UInt8.ofNat)
      have HUN := Lib.hid hun
      have hLn : (linesL (lb.map UInt8.ofNat)).length ≤ 65537 := by omega
      generalize linesL (lb.map UInt8.ofNat) = LL at *
      obtain ⟨i0, hi, hz0, hz1, hz2⟩ := info_parts infoB
      rw [← hbb]
      have Hxl := Lib.hid hxl
      have HB6 := Lib.hid hB6
      have Hbb := Lib.hid hbb
      have Hbx := Lib.hid hbx
      have Hs6 := Lib.hid hs6
      have HBw : Hid (w.heap.size ≤ bb) := by show _ ≤ _; rw [hbb]; exact HM.out.size
      clear hun hxl hll hbs hm6 hm5 hB6 hbb hbx hw6 hs6
      refine (wpIn_wide (n := 10)).1 ?_
      apply wpIn_rangeFunc_ownF (F := Fence.wide) (n := 10) rfl (by decide) (gf := 32) (lb := #[.pointer (some ⟨bb + 1, 0, none⟩)]) rfl trivial (enters_of Tryd.func32 (by kernel_rfl) rfl)
        hseq belowK_t (belowK_b (by rw [Hs6.out]; omega)) (Below.refl _ _) (fun _ => rfl)
        (fun pre W => (∃ v, Boxed W bb 31 v ∧ W.ownsRow bb 5 1 v (putL LL pre).length (bc (un (putL LL pre))) ∧ True) ∧ Below bb w5 W)
        (fun _ _ _ => False)
        (OwnFrom.and (Own.from (holdsRow_own bb bb 31 5 1 (fun pre => (putL LL pre).length) (fun pre => bc (un (putL LL pre))) (fun _ _ => True)) _) (ownFrom_below (by rw [Hbb.out]; exact Nat.le_refl _) (by rw [Hs6.out]; omega)))
        (fun _ _ _ _ _ hs _ _ => hs)
        ⟨⟨_, Hbx.out, World.ownsRow_nil _ _ _ _, trivial⟩, HB6.out⟩
      case hassign =>
        intro l x W K hK
        gi_wp2
        exact hK
      case hbody =>
        rintro l pre x W ⟨⟨v, hv, hrow, _⟩, hBW⟩ hlt
        have hpl := putL_le Hxl.out pre
        have hp2 : pre.length * (65537 + 1) ≤ 65537 * 65538 := Nat.mul_le_mul (by omega) (Nat.le_refl _)
        have hX := getD_le Hxl.out x
        have hF := putL_snoc LL pre x
        have HF := Lib.hid hF
        clear hF
        generalize LL[x]?.getD [] = X at *
        generalize putL LL pre = P at *
        have hP : P.length ≤ 4295163906 := by omega
        clear hp2 hpl
        have hxs : (⟨X.toArray⟩ : ByteArray).size = X.length := by simp [ByteArray.size]
        have hc := hv.cell
        have hbW : bb ≤ W.heap.size := Nat.le_of_lt hv.lt
        gi_wp2_with (first
          | (gi_at_builtin; refine wpListIn_append_own_string _ rfl _ _ 31 9 rfl bb 5 i0 under31 under9s hi hz0 hz1 hz2 _ _ _ rfl hrow ⟨X.toArray⟩ rfl (by rw [hxs]; unfold maxLen; omega) (by rw [hxs]; omega) hbW ?_; intro v1 w7 hown1 hgrow1; rw [hxs, strCells_un, ← bc_app, ← un_app] at hown1; obtain ⟨hv1, hv2, hr2, hk2, hb2⟩ := boxed_grown hv (by decide) hrow hbW (Nat.le_refl _) hown1 hgrow1; obtain ⟨a1, c1, rfl⟩ := row_shape hown1; have hc1 := hv1.cell; have hf1 := hv1.frozen; have hc2 := hv2.cell; have hbW2 := Nat.le_of_lt hv2.lt)
          | (gi_at_builtin; refine wpListIn_append_own _ rfl _ _ 31 rfl bb 5 i0 (.int .u8 0) 1 1 under31 hi hz0 hz1 hz2 rfl (by decide) _ _ _ rfl (hr2.alloc _) ⟨w7.heap.size, 0, none⟩ 1 1 [.int .u8 10] rfl rfl (cell_one_at _ _ (by simp) _ _) (by simp [Value.oneCell']) (by unfold maxLen; omega) (by omega) (by simp at hbW2 ⊢; omega) ?_; intro v9 w9 hown9 hgrow9 _; obtain ⟨hv5, hv6, hr6, hk6, hb6⟩ := hv2.appended (by decide) hr2 hbW2 (Nat.le_refl _) hown9 hgrow9; obtain ⟨a9, c9, rfl⟩ := row_shape hown9; have hc5 := hv5.cell; have hf5 := hv5.frozen))
        refine ⟨hk2.trans hk6, hb2.trans hb6, ⟨_, hv6, ?_, trivial⟩, hBW.trans (hb2.trans hb6)⟩
        have e1 : (putL LL (pre ++ [x])).length = P.length + X.length + 1 := by rw [HF.out]; simp; omega
        rw [e1, HF.out, un_app, bc_app]
        exact hr6
      case hdone =>
        rintro D ys W hD rfl ⟨⟨v, hv, hrow, _⟩, hBW⟩ hK
        rw [putL_all, HUN.out] at hrow
        have hBB := HB.out.below' (HM.out.trans (hBW.mono HBw.out))
        have HBB := Lib.hid hBB
        have HK := Lib.hid hK
        have HBW := Lib.hid hBW
        have HD := Lib.hid hD
        have hc := hv.cell
        have hf := hv.frozen
        have Hv := Lib.hid hv
        have hend : ∀ X, Below bb W X → X.heap[D]? = some (.deferred (some [])) → Below w.heap.size w (X.putObj D (.deferred none)) := fun X hX hk => by
          have h1 := HBw.out
          have h2 := Hs6.out
          exact (HM.out.trans ((hBW.trans hX).mono h1)).trans (belowK_b (w := w6) (by omega) X D _ _ hD hk rfl rfl)
        have Hend := Lib.hid hend
        clear hBB hK hBW hD hend hv
        by_cases h0 : lb.length = 0
        · have hd0 : ((lb.length : Int) == 0) = true := by rw [h0]; rfl
          have hlb : lb = [] := List.eq_nil_of_length_eq_zero h0
          have hrow' : W.ownsRow bb 5 1 v lb.length (bc lb) := by rw [hlb] at hrow ⊢; exact hrow
          obtain ⟨a8, c8, rfl, hb8⟩ := bat_row hrow'
          have hsb := sameBytes_any a8 a c8 c lb lb W hb8 HBB.out Hlb.out Hlb.out
          rw [decide_eq_true rfl] at hsb
          have Hsb := Lib.hid hsb
          clear hsb hrow hrow' hb8 hlb h0
          go_wp2_with (first | (go_at_call 21; refine Hsb.out.mono ?_; rintro e w9 ⟨rfl, rfl⟩))
          exact leaveJD _ D rfl rfl HK.out ⟨rfl, Hend.out _ (Below.refl _ _) HK.out⟩
        · obtain ⟨n, hn⟩ : ∃ n, lb.length = n + 1 := ⟨lb.length - 1, by omega⟩
          have hd0 : ((lb.length : Int) == 0) = false := by simp; intro e; rw [e] at h0; exact h0 rfl
          have hcell : ∃ b0 off, a = some ⟨b0, off, none⟩ ∧ W.cell? ⟨b0, off + n, none⟩ = some (.int .u8 ((lb[n]?.getD 0 : Nat) : Int)) := by
            rcases HBB.out with e | ⟨b0, off, e, h⟩
            · rw [e] at hn; simp at hn
            · exact ⟨b0, off, e, h n (by omega)⟩
          obtain ⟨b0, off, rfl, hcn⟩ := hcell
          have hwm := whole_map Hlb.out hn
          rw [hwm] at hrow
          have hn65 : n ≤ 65536 := by omega
          by_cases hl : lb[n]?.getD 0 = 10
          · rw [decide_eq_true hl, if_pos rfl, List.append_nil, un_of Hlb.out, List.length_map] at hrow
            rw [hl] at hcn
            obtain ⟨a8, c8, rfl, hb8⟩ := bat_row hrow
            have hsb := sameBytes_any a8 _ c8 c lb lb W hb8 HBB.out Hlb.out Hlb.out
            rw [decide_eq_true rfl] at hsb
            have Hsb := Lib.hid hsb
            clear hsb hrow hb8 h0 hwm hl
            rw [hn] at hd0 Hsb hc ⊢
            go_wp2_with (first | (go_at_call 21; refine Hsb.out.mono ?_; rintro e w9 ⟨rfl, rfl⟩))
            exact leaveJD _ D rfl rfl HK.out ⟨rfl, Hend.out _ (Below.refl _ _) HK.out⟩
          · have hne : (((lb[n]?.getD 0 : Nat) : Int) == 10) = false := by simp; omega
            rw [decide_eq_false hl, if_neg (by decide), un_app, un_of Hlb.out] at hrow
            have e2 : (lb.map UInt8.ofNat ++ [10]).length = n + 1 + 1 := by simp [hn]
            have e3 : (lb ++ un [10]).length = n + 1 + 1 := by simp [hn, un]
            rw [e2, ← e3] at hrow
            obtain ⟨a8, c8, rfl, hb8, hcap⟩ := bat_row_cap hrow
            rw [e3] at hcap
            have hst : ∀ u, BAt (W.setCell ⟨bb, 0, none⟩ u) a8 (lb ++ un [10]) := fun u => by
              have h1 := row_stored hrow ⟨bb, 0, none⟩ u (fun g hg e => Hv.out.not_row (by decide) hrow (by rw [hg, ← e]))
              obtain ⟨a9, c9, e9, h9⟩ := bat_row h1
              cases e9
              exact h9
            have hcut : ∀ u, BAt (W.setCell ⟨bb, 0, none⟩ u) a8 lb := fun u => by
              have := (hst u).cut lb.length
              rwa [List.take_left] at this
            have hbl : ∀ u, Below bb W (W.setCell ⟨bb, 0, none⟩ u) := fun u => (Below.refl bb W).setCell (p := ⟨bb, 0, none⟩) (Nat.le_refl _) u
            have hsb : ∀ u, Calls Tryd.prog 21 #[.slice a8 (n + 1) c8, .slice (some ⟨b0, off, none⟩) (n + 1) c] (W.setCell ⟨bb, 0, none⟩ u) fun e w' => e = .returned (.bool true) ∧ W.setCell ⟨bb, 0, none⟩ u = w' := fun u => by
              have h := sameBytes_any a8 _ c8 c lb lb _ (hcut u) (HB.out.below' (HM.out.trans ((HBW.out.trans (hbl u)).mono HBw.out))) Hlb.out Hlb.out
              rw [decide_eq_true rfl, hn] at h
              exact h
            have Hsb := Lib.hid hsb
            have Hbl := Lib.hid hbl
            clear hst hcut hsb hbl hrow hb8 h0 hwm hl e2
            rw [e3] at hc
            clear e3
            have hd0' : (((n : Int) + 1) == 0) = false := by simp; omega
            clear hd0
            generalize lb[n]?.getD 0 = y at hne hcn
            rw [hn]
            go_wp2_with (first | (go_at_call 21; refine (Hsb.out (.slice a8 (n + 1) c8)).mono ?_; rintro e w9 ⟨rfl, rfl⟩))
            exact leaveJD _ D rfl rfl ((KeepsOthers.setCell W _ _).same D _ HK.out rfl) ⟨rfl, Hend.out _ (Hbl.out _) ((KeepsOthers.setCell W _ _).same D _ HK.out rfl)⟩
      case hstop =>
        rintro D c pre W _ _ h _
        exact h.elim
end Go.Proofs.YtaddpekjmboimaaDoor
