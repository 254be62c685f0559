/- The walk of the statement on Each. -/
import Derived.Test.YtgkdemdpknljkaaDoorEac
import Derived.Deep.LoopGhost
namespace Go.Proofs.YtgkdemdpknljkaaDoor
open Go.RowKit Go.Maps Go.WideMaps Go.WideElems Go.ChangeShapes Go.WideShapes
attribute [local go_sem] Oper.semAt_some

set_option maxRecDepth 100000 in
set_option maxHeartbeats 4000000 in
theorem each_any (a : Option Addr) (b off n c : Nat) (ha : 0 < n → a = some ⟨b, off, none⟩) (A : Nat → Int) (most M stop more : Int) (w : World) (ea : Addr) (hg : w.cell? ⟨0, 0, none⟩ = some (.iface 88 (.pointer (some ea)))) (hA : ∀ i, i < n → w.cell? ⟨b, off + i, none⟩ = some (.int .i64 (A i)))
    (hwf : ∀ i, i < n → (Lit.int .i64 (A i)).wf = true) (hmw : (Lit.int .i64 more).wf = true) (hM : max most 0 = M) (hmx : most ≤ 9223372036854775807) :
    Calls Tryd.prog 4 #[.int .i64 most, .slice a n c, .int .i64 stop, .int .i64 more] w fun e w' => e = .returned (.bool true) ∧ Only (fun _ => False) w w' := by
  have Hb : Hid (0 < n → b < w.heap.size) := fun h => World.block_lt_of_cell? w _ (hA 0 h)
  have Ha := Lib.hid ha
  have hp0 : 0 < w.heap.size := World.block_lt_of_cell? w _ hg
  obtain ⟨tb, htb⟩ : ∃ tb, tb = w.heap.size := ⟨_, rfl⟩
  obtain ⟨w3, hw3⟩ : ∃ w3, w3 = ((w.alloc (.cells #[.int .i64 stop] 3)).alloc (.cells #[.int .i64 more] 3)).alloc (.cells #[.bool false] 4) := ⟨_, rfl⟩
  have o3 : Only (fun _ => False) w w3 := by
    rw [hw3]
    exact ((Only.of_alloc w _).trans (Only.of_alloc _ _) (fun _ h => h) (fun _ h => h.elim)).trans (Only.of_alloc _ _) (fun _ h => h) (fun _ h => h.elim)
  have hs3 : w3.heap.size = tb + 3 := by rw [hw3, htb]; simp
  have b0 : w3.heap[tb]? = some (.cells #[.int .i64 stop] 3 (0, 0)) := by
    rw [hw3, heap_alloc_old _ _ (by rw [htb]; simp; omega), heap_alloc_old _ _ (by rw [htb]; simp), htb]; exact heap_alloc_new w _
  have b1 : w3.heap[tb + 1]? = some (.cells #[.int .i64 more] 3 (0, 0)) := by
    rw [hw3, heap_alloc_old _ _ (by rw [htb]; simp)]
    have := heap_alloc_new (w.alloc (.cells #[.int .i64 stop] 3)) (.cells #[.int .i64 more] 3)
    rw [World.size_alloc, ← htb] at this; exact this
  have b2 : w3.heap[tb + 2]? = some (.cells #[.bool false] 4 (0, 0)) := by
    rw [hw3]
    have := heap_alloc_new ((w.alloc (.cells #[.int .i64 stop] 3)).alloc (.cells #[.int .i64 more] 3)) (.cells #[.bool false] 4)
    rw [World.size_alloc, World.size_alloc, ← htb] at this; exact this
  have hf := first_any w3 ea ((World.cell?_of_block (w := w) (o3.block 0 hp0 (fun h => h))).trans hg)
  have Hf := Lib.hid hf
  have Hg := Lib.hid hg
  have HA := Lib.hid hA
  have Hwf := Lib.hid hwf
  have Hmw := Lib.hid hmw
  have HM := Lib.hid hM
  have Ho3 := Lib.hid o3
  have Hs3 := Lib.hid hs3
  have H0 := Lib.hid b0
  have H1 := Lib.hid b1
  have H2 := Lib.hid b2
  have Hw3 := Lib.hid hw3
  have Htb := Lib.hid htb
  clear hf hg hA hwf hmw hM o3 hs3 b0 b1 b2 hw3 htb ha
  refine callsIn_wide.1 (callsIn_of_wp_marks (F := Fence.wide) (n := 10) Tryd.func4 rfl trivial (wpIn_wide.2 (Code.wp_mono (Q := calm (bodyPostM Fence.wide 10 Tryd.prog Tryd.f4 fun e w' => e = .returned (.bool true) ∧ Only (fun _ => False) w w')) (fun e a w h => by cases e <;> first | exact h | exact h.elim) ?_)) rfl)
  simp only [Tryd.ntmps4, List.size_toArray, List.length_cons, List.length_nil, Nat.reduceAdd, Nat.reduceSub, Array.replicate_succ, Array.replicate_zero, List.push_toArray, List.append_toArray, List.nil_append, List.cons_append]
  go_wp2_with fail
  rw [← Hw3.out, show w.heap.size + 1 + 1 = tb + 2 by rw [Htb.out], ← Htb.out]
  refine Hf.out.mono ?_
  rintro e w1 ⟨rfl, ho⟩
  have Ho1 : Hid (Only (fun _ => False) w w1) := Ho3.out.trans ho (fun _ h => h) (fun _ h => h.elim)
  have hs1 : tb + 3 ≤ w1.heap.size := by rw [← Hs3.out]; exact ho.size
  have G0 : Hid (w1.heap[tb]? = some (.cells #[.int .i64 stop] 3 (0, 0))) := by show _ = _; rw [ho.block tb (by rw [Hs3.out]; omega) (fun h => h)]; exact H0.out
  have G1 : Hid (w1.heap[tb + 1]? = some (.cells #[.int .i64 more] 3 (0, 0))) := by show _ = _; rw [ho.block (tb + 1) (by rw [Hs3.out]; omega) (fun h => h)]; exact H1.out
  have G2 : Hid (w1.heap[tb + 2]? = some (.cells #[.bool false] 4 (0, 0))) := by show _ = _; rw [ho.block (tb + 2) (by rw [Hs3.out]; omega) (fun h => h)]; exact H2.out
  clear ho H0 H1 H2 Hf Ho3 Hs3 Hw3
  have crb := cell_of_one G2.out
  have frb := free_of_one G2.out
  by_cases hbig : 300 < n
  · have hd3 : decide ((300 : Int) < (n : Int)) = true := by simp; omega
    go_wp2_with fail
    exact leave4 (tb + 2) true rfl rfl (World.cell_set _ _ _ _ crb) ⟨rfl, Ho1.out.trans (Only.of_setCell _ _ _) (fun _ h => h) (fun i hi => .inr (by rw [show i = tb + 2 from hi, Htb.out]; omega))⟩
  have hd3 : decide ((300 : Int) < (n : Int)) = false := by simp; omega
  clear crb frb
  obtain ⟨sb, hsb⟩ : ∃ sb, sb = w1.heap.size := ⟨_, rfl⟩
  go_wp2_with (go_at_call 9; refine (newi most w1).mono ?_; rintro e w2 ⟨rfl, hw2⟩)
  have hM0 := HM.out
  rw [hM0] at hw2
  have hs2 : w2.heap.size = sb + 1 := by rw [← hw2, hsb]; simp
  rw [hs2, ← hsb]
  obtain ⟨wB, hwB⟩ : ∃ wB, wB = ((w2.alloc (.cells #[.pointer (some ⟨sb, 0, none⟩)] 24)).alloc (.cells #[.slice none 0 0] 22)) := ⟨_, rfl⟩
  rw [← hwB, show sb + 1 + 1 = sb + 2 from rfl]
  have hsB : wB.heap.size = sb + 3 := by rw [hwB]; simp [hs2]
  have oB : Only (fun _ => False) w2 wB := by rw [hwB]; exact (Only.of_alloc _ _).trans (Only.of_alloc _ _) (fun _ h => h) (fun _ h => h.elim)
  have o1B : Only (fun _ => False) w1 wB := by
    refine Only.trans ?_ oB (fun _ h => h) (fun _ h => h.elim)
    rw [← hw2]; exact Only.of_alloc _ _
  have hset := set_made 3 76 M (by omega) (by omega) sb w1 (by omega)
  rw [← hsb, hw2] at hset
  have hpB : wB.heap[sb + 1]? = some (.cells #[.pointer (some ⟨sb, 0, none⟩)] 24 (0, 0)) := by
    rw [hwB, heap_alloc_old _ _ (by simp [hs2])]
    have := heap_alloc_new w2 (.cells #[.pointer (some ⟨sb, 0, none⟩)] 24)
    rw [hs2] at this; exact this
  have hlB : wB.heap[sb + 2]? = some (.cells #[.slice none 0 0] 22 (0, 0)) := by
    rw [hwB]
    have := heap_alloc_new (w2.alloc (.cells #[.pointer (some ⟨sb, 0, none⟩)] 24)) (.cells #[.slice none 0 0] 22)
    rw [World.size_alloc, hs2] at this; exact this
  have hE : EOpen wB sb M [] [] (.slice none 0 0) (.slice none 0 0) (.map none) wB := by
    refine ⟨hset.only oB (fun _ _ h => h), ?_, World.ownsRow_nil _ _ _ _, (fun b hb => by cases hb), Only.refl _ _, hsB, hlB⟩
    rintro i (h | h | h)
    · exact .inl h
    · cases h
    · cases h
  have HE := Lib.hid hE
  have HoB : Hid (Only (fun _ => False) w wB) := Ho1.out.trans o1B (fun _ h => h) (fun _ h => h.elim)
  have HpB := Lib.hid hpB
  have B0 : Hid (wB.heap[tb]? = some (.cells #[.int .i64 stop] 3 (0, 0))) := by show _ = _; rw [o1B.block tb (by omega) (fun h => h)]; exact G0.out
  have B1 : Hid (wB.heap[tb + 1]? = some (.cells #[.int .i64 more] 3 (0, 0))) := by show _ = _; rw [o1B.block (tb + 1) (by omega) (fun h => h)]; exact G1.out
  have B2 : Hid (wB.heap[tb + 2]? = some (.cells #[.bool false] 4 (0, 0))) := by show _ = _; rw [o1B.block (tb + 2) (by omega) (fun h => h)]; exact G2.out
  have htsb : tb + 3 ≤ sb := by omega
  have Htsb := Lib.hid htsb
  have Hn3 : Hid (¬ 300 < n) := hbig
  have hn3 : n ≤ 300 := by omega
  clear hE hpB hlB hset o1B oB hsB hwB hs2 hM0 hw2 hsb hs1 G0 G1 G2 htsb hbig
  go_loopw [12] (fun i wr => ∃ j : Nat, j ≤ n ∧ i = .int .i64 j ∧ Hid (∃ zs lv v mv, EOpen wB sb M zs zs lv v mv wr ∧ zs.length ≤ j)) (fun i _ => n - (intOf i).toNat)
  case atStart => exact ⟨0, Nat.zero_le _, rfl, _, _, _, _, HE.out, Nat.le_refl _⟩
  case round =>
    obtain ⟨j, hj, rfl, Hrel⟩ := hrel
    by_cases hlt : j < n
    · obtain ⟨zs, lv, v, mv, he, hle⟩ := Hrel.out
      obtain rfl := Ha.out (by omega)
      have hb : b < w.heap.size := Hb.out (by omega)
      have hcw : Hid (w.cell? ⟨b, off + j, none⟩ = some (.int .i64 (A j))) := Lib.hid (HA.out j hlt)
      have hxw : Hid ((Lit.int .i64 (A j)).wf = true) := Lib.hid (Hwf.out j hlt)
      generalize A j = x at *
      have hbs : b < sb := by have := Htb.out; have := Htsb.out; omega
      have c0 : wr.cell? ⟨b, off + j, none⟩ = some (.int .i64 x) := (World.cell?_of_block (w := w) ((he.only.block b (by rw [he.size]; omega) (fun h => by omega)).trans (HoB.out.block b hb (fun h => h)))).trans hcw.out
      have cpb : wr.cell? ⟨sb + 1, 0, none⟩ = some (.pointer (some ⟨sb, 0, none⟩)) := cell_of_one (he.box HpB.out (by omega) (by omega))
      have He := Lib.hid he
      clear he Hrel
      have hgr : wr.cell? ⟨0, 0, none⟩ = some (.iface 88 (.pointer (some ea))) := (World.cell?_of_block (w := w) ((He.out.only.block 0 (by have := He.out.size; omega) (fun h => by have := Htsb.out; omega)).trans (HoB.out.block 0 hp0 (fun h => h)))).trans Hg.out
      have hadd := addI_any (He.out.step (Only.of_drew wr)) x hxw.out hgr (by have := Hn3.out; omega) (b := b) (o := off + j) hbs c0 cpb
      have Hadd := Lib.hid hadd
      clear hadd hgr
      go_wp2_with fail
      go_region_held3 (fun w' => w'.cell? ⟨b, off + j, none⟩ = some (.int .i64 x) ∧ w'.cell? ⟨sb + 1, 0, none⟩ = some (.pointer (some ⟨sb, 0, none⟩))) (go_keep)
        (first | (go_at_call 10; refine Hadd.out.mono ?_; rintro e w4 ⟨fr, er, rfl, hcb4, hcp4, H4⟩))
      clear Hadd c0 cpb He
      cases fr with
      | false =>
        go_wp2_with fail
        go_roundw
        case rel => exact ⟨j + 1, by omega, by go_num, by obtain ⟨v', mv', h'⟩ := H4.out; exact ⟨zs, lv, v', mv', h', by omega⟩⟩
        case measure => simp [intOf]; omega
      | true =>
        have H4' : ∃ v' mv', Hid (EOpen wB sb M zs (zs ++ [x]) lv v' mv' w4) := H4.out
        obtain ⟨v', mv', H5⟩ := H4'
        have clb := cell_of_one H5.out.lb
        have flb := free_of_one H5.out.lb
        have hrow4 := H5.out.row
        obtain ⟨la, lc, rfl⟩ := ownsRow_shape hrow4
        obtain ⟨i0, hi0, hz0, hz1, hz2⟩ := info_parts Tryd.info3
        have hs4 : sb + 3 ≤ w4.heap.size := by have := H5.out.only.size; have := H5.out.size; omega
        have clbA : (w4.alloc (.cells #[.int .i64 x] 3)).cell? ⟨sb + 2, 0, none⟩ = some (.slice la zs.length lc) := (World.cell?_of_block (w := w4) ((Only.of_alloc w4 _).block (sb + 2) (lt_of_block H5.out.lb) (fun h => h))).trans clb
        clear H4 hcp4
        go_wp2_with fail
        go_region_law ((refine step_append_lies _ (by rfl) _ _ _ (by rfl) (sb + 3) 3 i0 (.int .i64 0) 1 8 Tryd.under22 hi0 hz0 hz1 hz2 rfl (by decide) (.slice la zs.length lc) zs.length (I zs) (by rfl) (by first | exact (hrow4.alloc _).drew | exact hrow4.drew.alloc _) ⟨w4.heap.size, 0, none⟩ 1 1 [.int .i64 x] (by rfl) (by rfl) (World.news_of_block (cs := #[.int .i64 x]) (t := 3) (fr := (0, 0)) (heap_alloc_new w4 _)) (by simp [Value.oneCell']) (by omega) (by unfold maxLen; omega) (by omega) (by simp; omega) (w4.heap.size + 1) (by simp) ?_; intro g5 cap5 w5 hown5 hgrow5 hat5 hlt5; have clb5 := cell_of_one (H5.out.lbX (by rfl) hgrow5); have flb5 := free_of_one (H5.out.lbX (by rfl) hgrow5)))
        all_goals
          have HE6 := Lib.hid (H5.out.note (o := .cells #[.int .i64 x] 3) (w2 := w5) hown5 ⟨hgrow5.os, hgrow5.tape, hgrow5.output, hgrow5.size, hgrow5.block⟩ (hat5.elim (fun h => .inl h.symm) (fun h => .inr (.inr (by rw [h]; rfl)))))
          clear hown5 hgrow5 hat5 hlt5 clb5 flb5 clb clbA flb hcb4 hrow4
          generalize w5.setCell ⟨sb + 2, 0, none⟩ (.slice (some ⟨g5, 0, none⟩) (zs.length + 1) cap5) = w6 at *
          go_wp2_with fail
          go_roundw
          case rel => exact ⟨j + 1, by omega, by go_num, zs ++ [x], _, _, _, HE6.out, by simp; omega⟩
          case measure => simp [intOf]; omega
    · have hjn : j = n := by omega
      obtain ⟨zs, lv, v, mv, he, hle⟩ := Hrel.out
      obtain ⟨la, lc, rfl, hlc⟩ := rowI he.row
      have He := Lib.hid he
      have cpb : wr.cell? ⟨sb + 1, 0, none⟩ = some (.pointer (some ⟨sb, 0, none⟩)) := cell_of_one (he.box HpB.out (by omega) (by omega))
      clear he Hrel hlc
      have hnf := fun w => eq_nilfunc (.func 40) #[] #[.pointer (some ⟨wr.heap.size, 0, none⟩)] w
      go_wp2_with (first | (go_at_call 16; refine (eachsI sb _).mono ?_; rintro e w5 ⟨rfl, hw5⟩))
      obtain ⟨cb, hcb⟩ : ∃ cb, cb = wr.heap.size := ⟨_, rfl⟩
      have hs5 : w5.heap.size = cb + 1 := by rw [← hw5, hcb]; simp
      rw [← hcb, hs5]
      have o5 : Only (fun _ => False) wr w5 := by rw [← hw5]; exact Only.of_alloc _ _
      obtain ⟨W1, hW1⟩ : ∃ W1, W1 = w5.alloc (.cells #[.int .i64 0] 3) := ⟨_, rfl⟩
      rw [← hW1]
      have o51 : Only (fun _ => False) w5 W1 := by rw [hW1]; exact Only.of_alloc _ _
      have hsW : W1.heap.size = cb + 2 := by rw [hW1]; simp [hs5]
      have hcbW : W1.heap[cb]? = some (.cells #[.pointer (some ⟨sb, 0, none⟩)] 24 (0, 0)) := by
        rw [o51.block cb (by omega) (fun h => h), ← hw5, hcb]; exact heap_alloc_new _ _
      have hobW : W1.heap[cb + 1]? = some (.cells #[.int .i64 0] 3 (0, 0)) := by
        rw [hW1, ← hs5]; exact heap_alloc_new _ _
      have hE1 := (He.out.step o5).step o51
      have hcbs : sb + 3 ≤ cb := by have := He.out.only.size; have := He.out.size; omega
      have hM1 : MRel wB sb cb (cb + 1) M more zs (.slice la zs.length lc) [] W1 := by
        refine ⟨⟨zs, v, mv, hE1, .inl rfl, fun i hi => ?_⟩, hcbW, by omega, hcbs, fun b hb => ?_, by simp, by simp, by simp⟩
        · have := (He.out.set.lt i hi).2; omega
        · have := (He.out.row.lt b hb).2; omega
      have HM1 := Lib.hid hM1
      have Hob := Lib.hid hobW
      have Hcbs := Lib.hid hcbs
      have hwBle := HoB.out.size
      have HwB : Hid (w.heap.size ≤ wB.heap.size) := hwBle
      have HszB : Hid (wB.heap.size = sb + 3) := He.out.size
      have Hzs : Hid (zs.length ≤ n) := by show _ ≤ _; omega
      clear hE1 hcbW hobW hsW o5 o51 hW1 hs5 hcb hw5 He hnf cpb hM1 hcbs hwBle hle hlt hj
      refine wp_loop_ghost_k (fun (k : Nat) (a' : Act) (W : World) => ∃ (pb : Nat) (Ds : List Nat) (u17 u18 u19 u20 u63 u64 u65 u66 u67 u68 u69 u70 u71 u72 u73 u74 u75 u76 u77 u78 u79 u80 u81 u82 u83 u84 u85 u86 u87 u88 u89 u90 u91 u92 u93 u94 u95 u96 u97 u98 u99 u100 u101 u102 u103 u104 u105 u106 u107 u108 u109 u110 u111 u112 u113 u114 u115 u116 u117 u118 u119 u120 u121 u122 u123 u124 u125 u126 u127 u128 u129 u130 : Value), (∃ r : Nat, r + k = 2 ∧ Hid (W.heap[pb]? = some (.cells #[.int .i64 (r : Int)] 3 (0, 0))) ∧ Hid (MRel wB sb cb pb M more zs (.slice la zs.length lc) Ds W)) ∧ a' = { tmps := #[.int .i64 most, .slice a n c, .int .i64 stop, .int .i64 more, undef, undef, .pointer (some ⟨tb, 0, none⟩), .pointer (some ⟨tb + 1, 0, none⟩), .pointer (some ⟨tb + 2, 0, none⟩), .bool true, .pointer (some ⟨sb + 1, 0, none⟩), .pointer (some ⟨sb + 2, 0, none⟩), .int .i64 n, u13, u14, .func (.func 40) #[] #[.pointer (some ⟨cb, 0, none⟩)], .pointer (some ⟨pb, 0, none⟩), u17, u18, u19, u20, .bool true, .bool true, .bool false, .slice a n c, .int .i64 n, .bool false, .bool false, .bool true, .bool false, .bool false, undef, .int .i64 most, .pointer (some ⟨sb, 0, none⟩), .pointer (some ⟨sb, 0, none⟩), .bool false, .int .i64 n, .slice a n c, .int .i64 n, .bool false, u40, u41, u42, u43, u44, u45, u46, u47, u48, u49, u50, u51, u52, u53, u54, u55, u56, u57, u58, .pointer (some ⟨sb, 0, none⟩), .func (.func 40) #[] #[.pointer (some ⟨cb, 0, none⟩)], .func (.func 40) #[] #[.pointer (some ⟨cb, 0, none⟩)], .bool false, u63, u64, u65, u66, u67, u68, u69, u70, u71, u72, u73, u74, u75, u76, u77, u78, u79, u80, u81, u82, u83, u84, u85, u86, u87, u88, u89, u90, u91, u92, u93, u94, u95, u96, u97, u98, u99, u100, u101, u102, u103, u104, u105, u106, u107, u108, u109, u110, u111, u112, u113, u114, u115, u116, u117, u118, u119, u120, u121, u122, u123, u124, u125, u126, u127, u128, u129, u130], defers := Ds.map markD }) 2 ⟨cb + 1, [], _, _, _, _, _, _, _, _, _, _, _, _, _, _, _, _, _, _, _, _, _, _, _, _, _, _, _, _, _, _, _, _, _, _, _, _, _, _, _, _, _, _, _, _, _, _, _, _, _, _, _, _, _, _, _, _, _, _, _, _, _, _, _, _, _, _, _, _, _, _, _, _, ⟨0, rfl, Hob.out, HM1.out⟩, rfl⟩ ?_
      intro gk a' wr' hI J K hJ hK
      clear HM1 Hob
      obtain ⟨pb, hI⟩ := hI
      obtain ⟨Ds, hI⟩ := hI
      obtain ⟨u17, hI⟩ := hI
      obtain ⟨u18, hI⟩ := hI
      obtain ⟨u19, hI⟩ := hI
      obtain ⟨u20, hI⟩ := hI
      obtain ⟨u63, hI⟩ := hI
      obtain ⟨u64, hI⟩ := hI
      obtain ⟨u65, hI⟩ := hI
      obtain ⟨u66, hI⟩ := hI
      obtain ⟨u67, hI⟩ := hI
      obtain ⟨u68, hI⟩ := hI
      obtain ⟨u69, hI⟩ := hI
      obtain ⟨u70, hI⟩ := hI
      obtain ⟨u71, hI⟩ := hI
      obtain ⟨u72, hI⟩ := hI
      obtain ⟨u73, hI⟩ := hI
      obtain ⟨u74, hI⟩ := hI
      obtain ⟨u75, hI⟩ := hI
      obtain ⟨u76, hI⟩ := hI
      obtain ⟨u77, hI⟩ := hI
      obtain ⟨u78, hI⟩ := hI
      obtain ⟨u79, hI⟩ := hI
      obtain ⟨u80, hI⟩ := hI
      obtain ⟨u81, hI⟩ := hI
      obtain ⟨u82, hI⟩ := hI
      obtain ⟨u83, hI⟩ := hI
      obtain ⟨u84, hI⟩ := hI
      obtain ⟨u85, hI⟩ := hI
      obtain ⟨u86, hI⟩ := hI
      obtain ⟨u87, hI⟩ := hI
      obtain ⟨u88, hI⟩ := hI
      obtain ⟨u89, hI⟩ := hI
      obtain ⟨u90, hI⟩ := hI
      obtain ⟨u91, hI⟩ := hI
      obtain ⟨u92, hI⟩ := hI
      obtain ⟨u93, hI⟩ := hI
      obtain ⟨u94, hI⟩ := hI
      obtain ⟨u95, hI⟩ := hI
      obtain ⟨u96, hI⟩ := hI
      obtain ⟨u97, hI⟩ := hI
      obtain ⟨u98, hI⟩ := hI
      obtain ⟨u99, hI⟩ := hI
      obtain ⟨u100, hI⟩ := hI
      obtain ⟨u101, hI⟩ := hI
      obtain ⟨u102, hI⟩ := hI
      obtain ⟨u103, hI⟩ := hI
      obtain ⟨u104, hI⟩ := hI
      obtain ⟨u105, hI⟩ := hI
      obtain ⟨u106, hI⟩ := hI
      obtain ⟨u107, hI⟩ := hI
      obtain ⟨u108, hI⟩ := hI
      obtain ⟨u109, hI⟩ := hI
      obtain ⟨u110, hI⟩ := hI
      obtain ⟨u111, hI⟩ := hI
      obtain ⟨u112, hI⟩ := hI
      obtain ⟨u113, hI⟩ := hI
      obtain ⟨u114, hI⟩ := hI
      obtain ⟨u115, hI⟩ := hI
      obtain ⟨u116, hI⟩ := hI
      obtain ⟨u117, hI⟩ := hI
      obtain ⟨u118, hI⟩ := hI
      obtain ⟨u119, hI⟩ := hI
      obtain ⟨u120, hI⟩ := hI
      obtain ⟨u121, hI⟩ := hI
      obtain ⟨u122, hI⟩ := hI
      obtain ⟨u123, hI⟩ := hI
      obtain ⟨u124, hI⟩ := hI
      obtain ⟨u125, hI⟩ := hI
      obtain ⟨u126, hI⟩ := hI
      obtain ⟨u127, hI⟩ := hI
      obtain ⟨u128, hI⟩ := hI
      obtain ⟨u129, hI⟩ := hI
      obtain ⟨u130, hI⟩ := hI
      obtain ⟨⟨r, hrk, Hpb, HM⟩, rfl⟩ := hI
      by_cases hr2 : r < 2
      · obtain ⟨⟨zs2, v2, mv2, hE, hz, hft⟩, hcbp, hcbpb, hsbcb, hlvlt, hmk, hnd, hdge⟩ := HM.out
        have cpbc := cell_of_one Hpb.out
        have csb : (wr'.alloc (.cells #[.int .i64 0] 3)).cell? ⟨sb + 1, 0, none⟩ = some (.pointer (some ⟨sb, 0, none⟩)) := cell_of_one ((hE.step (Only.of_alloc wr' _)).box HpB.out (by omega) (by omega))
        have hln := seti_len _ sb v2 mv2 M _ _ _ (hE.step (Only.of_alloc wr' (.cells #[.int .i64 0] 3))).set
        rw [show (L zs2).length = zs2.length by simp] at hln
        have Hln := Lib.hid hln
        have HE := Lib.hid hE
        have Hz := Lib.hid hz
        have Hft := Lib.hid hft
        have Hcbp := Lib.hid hcbp
        have Hmk := Lib.hid hmk
        have Hrk := Lib.hid hrk
        have Hlvlt := Lib.hid hlvlt
        have Hnd := Lib.hid hnd
        have Hdge := Lib.hid hdge
        clear hE hz hft hcbp hmk hnd hdge hln hlvlt hrk
        go_wp2_with (first | (go_at_call 13; refine Hln.out.mono ?_; rintro e w' ⟨rfl, rfl⟩))
        obtain ⟨ib, hib⟩ : ∃ ib, ib = wr'.heap.size := ⟨_, rfl⟩
        obtain ⟨Wb, hWb⟩ : ∃ Wb, Wb = (wr'.alloc (.cells #[.int .i64 0] 3)).alloc (.cells #[.int .i64 (zs2.length : Int)] 3) := ⟨_, rfl⟩
        rw [← hWb, ← hib]
        have hsb' : Wb.heap.size = ib + 2 := by rw [hWb, hib]; simp
        have oWb : Only (fun _ => False) wr' Wb := by rw [hWb]; exact (Only.of_alloc _ _).trans (Only.of_alloc _ _) (fun _ h => h) (fun _ h => h.elim)
        have hpblt : pb < ib := by rw [hib]; exact lt_of_block Hpb.out
        have hbi : Boxed Wb ib 3 (.int .i64 (([] : List Nat).length : Int)) := by
          show _ = _
          rw [hWb, heap_alloc_old _ _ (by rw [hib]; simp), hib]; exact heap_alloc_new _ _
        have hbn : Boxed Wb (ib + 1) 3 (.int .i64 (zs2.length : Int)) := by
          show _ = _
          have := heap_alloc_new (wr'.alloc (.cells #[.int .i64 0] 3)) (.cells #[.int .i64 (zs2.length : Int)] 3)
          rw [World.size_alloc, ← hib, ← hWb] at this; exact this
        have hbp : Boxed Wb pb 3 (.int .i64 (r : Int)) := by
          show _ = _
          rw [oWb.block pb (by omega) (fun h => h)]; exact Hpb.out
        have hbc : Boxed Wb cb 24 (.pointer (some ⟨sb, 0, none⟩)) := by
          show _ = _
          rw [oWb.block cb (by omega) (fun h => h)]; exact Hcbp.out
        have hmkb : ∀ D ∈ Ds, Wb.heap[D]? = some (.deferred (some [])) := fun D hD => by
          rw [oWb.block D (lt_of_block (Hmk.out D hD)) (fun h => h)]; exact Hmk.out D hD
        have hEb := HE.out.step oWb
        obtain ⟨sa, sc, hv2, hrows⟩ := rowI (by have := hEb.set.row; simpa using this)
        have hRI : RI wB sb M more zs (.slice la zs.length lc) pb (ib + 2) zs2 v2 [] Wb := ⟨zs2, v2, mv2, hEb, Hz.out, fun b hb => Hft.out b (.inr (.inr hb)), fun i hi => .inl (Hft.out i hi), .inl ⟨rfl, rfl, rfl, Hft.out⟩⟩
        have hzl : zs2.length ≤ 301 := by
          have := Hzs.out
          rcases Hz.out with e | e <;> rw [e] <;> simp <;> omega
        have hseq := eachi_stops Fence.wide (10 - 1) trivial rfl (by decide) cb sb sa zs2.length sc zs2 (by omega) Wb hbc.cell (by rw [← hv2]; exact hEb.set.cell1) (fun j hj => by obtain ⟨g, h1, _, h3⟩ := hrows j hj; exact ⟨g, h1, h3⟩)
        have HRI := Lib.hid hRI
        have Hbi := Lib.hid hbi
        have Hbn := Lib.hid hbn
        have Hbp := Lib.hid hbp
        have Hbc := Lib.hid hbc
        have Hmkb := Lib.hid hmkb
        have Hsb' := Lib.hid hsb'
        have Hv2 := Lib.hid hv2
        have Hrows := Lib.hid hrows
        have Hib := Lib.hid hib
        have HoWb := Lib.hid oWb
        clear hRI hbi hbn hbp hbc hmkb hsb' hv2 hrows hEb Hln csb cpbc oWb hWb hib
        have Hkb : Hid (∀ l, Wb.heap.size ≤ l → ∀ b', (Value.slice sa zs2.length sc).ownBlock = some b' → ¬ some l = some b') := by
          intro l hl b' hb' e
          cases e
          have h1 := Hft.out l (.inr (.inl (by rw [Hv2.out]; exact hb')))
          rw [Hsb'.out] at hl
          omega
        have HI : Hid (OwnFrom Wb.heap.size (fun (pre : List Nat) W => RI wB sb M more zs (.slice la zs.length lc) pb (ib + 2) zs2 v2 pre W ∧ Boxed W ib 3 (.int .i64 (pre.length : Int)) ∧ Boxed W (ib + 1) 3 (.int .i64 (zs2.length : Int)) ∧ Boxed W pb 3 (.int .i64 (r : Int)) ∧ Boxed W cb 24 (.pointer (some ⟨sb, 0, none⟩)) ∧ ∀ D ∈ Ds, W.heap[D]? = some (.deferred (some [])))) := by
          show OwnFrom _ _
          rw [Hsb'.out]
          refine OwnFrom.and (RI.own (by omega) (by rw [HszB.out]; omega)) (OwnFrom.and (Own.from (boxed_own _ _ _) _) (OwnFrom.and (Own.from (boxed_own _ _ _) _) (OwnFrom.and (Own.from (boxed_own _ _ _) _) (OwnFrom.and (Own.from (boxed_own _ _ _) _) ?_))))
          intro s X Y row hs hg hr D hD
          refine (hg.block D (lt_of_block (hs D hD)) (fun e => ?_)).trans (hs D hD)
          have h1 := (hr D e.symm).1
          have h2 := lt_of_block (Hmkb.out D hD)
          rw [Hsb'.out] at h2
          omega
        refine (wpIn_wide (n := 10)).1 ?_
        apply wpIn_rangeFunc_ownG (F := Fence.wide) (n := 10) rfl (by decide) (gf := 40) (lb := #[.pointer (some ⟨cb, 0, none⟩)]) rfl trivial (enters_of Tryd.func40 (by kernel_rfl) rfl)
          hseq (fun h k => RowStays.trans h k) (fun W l o o' hl ho hc hw => RowStays.of_only (Only.of_grown (grownBy_putObj' W l o')) (Hkb.out l hl)) (Below.refl _ _) (fun _ => rfl)
          (fun pre W => RI wB sb M more zs (.slice la zs.length lc) pb (ib + 2) zs2 v2 pre W ∧ Boxed W ib 3 (.int .i64 (pre.length : Int)) ∧ Boxed W (ib + 1) 3 (.int .i64 (zs2.length : Int)) ∧ Boxed W pb 3 (.int .i64 (r : Int)) ∧ Boxed W cb 24 (.pointer (some ⟨sb, 0, none⟩)) ∧ ∀ D ∈ Ds, W.heap[D]? = some (.deferred (some [])))
          (fun c pre W => (c = .exit 4 ∧ r = 0 ∧ (pre.length : Int) = stop ∧ RI wB sb M more zs (.slice la zs.length lc) pb (ib + 2) zs2 v2 pre W ∧ Boxed W ib 3 (.int .i64 (pre.length : Int)) ∧ Boxed W (ib + 1) 3 (.int .i64 (zs2.length : Int)) ∧ Boxed W pb 3 (.int .i64 (r : Int)) ∧ Boxed W cb 24 (.pointer (some ⟨sb, 0, none⟩)) ∧ ∀ D ∈ Ds, W.heap[D]? = some (.deferred (some []))) ∨ ¬ ∃ q, pre = List.range q)
          ?hI ?hIx ⟨HRI.out, Hbi.out, Hbn.out, Hbp.out, Hbc.out, Hmkb.out⟩
        case hI => exact HI.out
        case hIx =>
          intro c
          rintro s X Y row hs hg hr
          rcases hs with ⟨h1, h2, h3, h4⟩ | hs
          · exact .inl ⟨h1, h2, h3, HI.out s X Y row h4 hg hr⟩
          · exact .inr hs
        case hassign =>
          intro l x W K hK
          gi_wp2
          exact hK
        case hbody =>
          rintro l pre x Wc ⟨hRI, hib', hin, hip, hic, hmc⟩ hlt
          obtain ⟨zs3, v3, mv3, hE3, hrest⟩ := id hRI
          have c17 := hib'.cell
          have f17 := hib'.frozen
          have c18 := hin.cell
          have c16 := hip.cell
          have c10 : Wc.cell? ⟨sb + 1, 0, none⟩ = some (.pointer (some ⟨sb, 0, none⟩)) := cell_of_one (hE3.box HpB.out (by omega) (by omega))
          have c11 := cell_of_one hE3.lb
          have c7 : Wc.cell? ⟨tb + 1, 0, none⟩ = some (.int .i64 more) := cell_of_one (hE3.box B1.out (by have := Htsb.out; omega) (by have := Htsb.out; omega))
          have c6 : Wc.cell? ⟨tb, 0, none⟩ = some (.int .i64 stop) := cell_of_one (hE3.box B0.out (by have := Htsb.out; omega) (by have := Htsb.out; omega))
          have c8 : Wc.cell? ⟨tb + 2, 0, none⟩ = some (.bool false) := cell_of_one (hE3.box B2.out (by have := Htsb.out; omega) (by have := Htsb.out; omega))
          have f8 : Wc.frozen? ⟨tb + 2, 0, none⟩ = false := free_of_one (hE3.box B2.out (by have := Htsb.out; omega) (by have := Htsb.out; omega))
          have hgc : Wc.cell? ⟨0, 0, none⟩ = some (.iface 88 (.pointer (some ea))) := (World.cell?_of_block (w := w) ((hE3.only.block 0 (by have := HwB.out; omega) (fun h => by have := Htsb.out; omega)).trans (HoB.out.block 0 hp0 (fun h => h)))).trans Hg.out
          have hBW : ib + 2 ≤ Wc.heap.size := hin.lt
          have hrow := hE3.row
          have hadd := RI.add hRI x (by omega) hBW (by intro e; rw [e] at hlt; simp at hlt) Hmw.out hgc (by have := Hzs.out; omega) (by omega)
          have Hadd := Lib.hid hadd
          have HRIc := Lib.hid hRI
          have Hi := Lib.hid hib'
          have Hn := Lib.hid hin
          have Hp := Lib.hid hip
          have Hc := Lib.hid hic
          have Hmc := Lib.hid hmc
          have Hrow := Lib.hid hrow
          have Hlt := Lib.hid hlt
          have hgei : decide ((zs2.length : Int) ≤ (pre.length : Int)) = false := by simp; omega
          clear hadd hRI hib' hin hip hic hmc hE3 hrest hgc hrow hlt
          by_cases hok : x = pre.length
          · subst hok
            have hr01 : r = 0 ∨ r = 1 := by omega
            have hpn : pre.length ≤ 301 := by have := Hlt.out; omega
            have f6 : decide (zs2.length ≤ pre.length) = false := by have := Hlt.out; simp; omega
            by_cases hin2 : pre.length < zs.length
            · obtain ⟨la2, lc2, e1, hcl⟩ := rowI Hrow.out
              obtain ⟨g, hg1, _, hg3⟩ := hcl pre.length hin2
              obtain rfl : la = la2 := by cases e1; rfl
              clear hcl e1
              have hy : zs2[pre.length]?.getD 0 = zs[pre.length]?.getD 0 := by
                rcases Hz.out with e | e
                · rw [e]
                · rw [e, List.getElem?_append_left hin2]
              rw [hy]
              clear hy
              generalize zs[pre.length]?.getD 0 = y at *
              generalize hpl : pre.length = p at *
              have Hpl := Lib.hid hpl
              clear hpl
              gi_wp2_with fail
              refine ⟨trivial, ?_⟩
              gi_at_call 10
              refine (CallsIn.inRound l (callsIn_wide.2 Hadd.out)).mono ?_
              rintro e w4 ⟨fr, er, rfl, H4⟩
              have hst4 := H4.out.2.2.2.1
              have C17 : w4.cell? ⟨ib, 0, none⟩ = some (.int .i64 (p : Int)) := (World.cell?_of_block (hst4 ib (.inr (.inr ⟨by omega, by omega⟩)) (by omega))).trans c17
              have F17 : w4.frozen? ⟨ib, 0, none⟩ = false := (World.frozen?_of_block (hst4 ib (.inr (.inr ⟨by omega, by omega⟩)) (by omega))).trans f17
              have C16 : w4.cell? ⟨pb, 0, none⟩ = some (.int .i64 (r : Int)) := (World.cell?_of_block (hst4 pb (.inr (.inr ⟨by omega, by omega⟩)) (by omega))).trans c16
              have C6 : w4.cell? ⟨tb, 0, none⟩ = some (.int .i64 stop) := (World.cell?_of_block (hst4 tb (.inl (by have := Htsb.out; omega)) (World.block_lt_of_cell? _ _ c6))).trans c6
              have hne1 : ¬ ib = pb := by omega
              have hne2 : ¬ ib = tb := by have := Htsb.out; omega
              have hodd := H4.out.2.2.2.2
              have HF : ∀ W5, W5 = w4.setCell ⟨ib, 0, none⟩ (.int .i64 ((p : Int) + 1)) → Hid (KeepsFrom Wb.heap.size Wc W5 ∧ RowStays (.slice sa zs2.length sc) zs2.length Wc W5 ∧ RI wB sb M more zs (.slice la zs.length lc) pb (ib + 2) zs2 v2 (pre ++ [p]) W5 ∧ Boxed W5 ib 3 (.int .i64 ((pre ++ [p]).length : Int)) ∧ Boxed W5 (ib + 1) 3 (.int .i64 (zs2.length : Int)) ∧ Boxed W5 pb 3 (.int .i64 (r : Int)) ∧ Boxed W5 cb 24 (.pointer (some ⟨sb, 0, none⟩)) ∧ ∀ D ∈ Ds, W5.heap[D]? = some (.deferred (some []))) := by
                rintro W5 rfl
                have o5 := Only.of_setCell w4 ⟨ib, 0, none⟩ (.int .i64 ((p : Int) + 1))
                have hB4 : ib + 2 ≤ w4.heap.size := Nat.le_trans hBW H4.out.2.1.size
                have hi4 : Boxed w4 ib 3 (.int .i64 (p : Int)) := by
                  have := Hi.out
                  exact (hst4 ib (.inr (.inr ⟨by omega, by omega⟩)) (by omega)).trans this
                refine ⟨?_, ?_, ?_, ?_, ?_, ?_, ?_, ?_⟩
                · rw [Hsb'.out]; exact H4.out.2.1.trans ((KeepsOthers.setCell _ _ _).from _)
                · have h1 := H4.out.2.2.1
                  rw [Hv2.out] at h1
                  refine h1.trans (RowStays.of_only o5 (fun b' hb' e => ?_))
                  have h2 := Hft.out b' (.inr (.inl (by rw [Hv2.out]; exact hb')))
                  have h3 : b' = ib := e
                  omega
                · exact H4.out.1.step (o5.mono (fun i hi => .inl (by have h : i = ib := hi; omega))) (by omega) (fun b' hb' => by have := Hlvlt.out b' hb'; omega)
                · have h1 := hi4.set (.int .i64 ((p : Int) + 1))
                  rw [List.length_append, Hpl.out, List.length_singleton]
                  exact h1
                · exact Boxed.other ((hst4 (ib + 1) (.inr (.inr ⟨by omega, by omega⟩)) (by omega)).trans Hn.out) (by omega) _
                · exact Boxed.other ((hst4 pb (.inr (.inr ⟨by omega, by omega⟩)) (by omega)).trans Hp.out) (by omega) _
                · exact Boxed.other (hodd cb _ (by omega) Hc.out (.inr ⟨_, rfl⟩)) (by omega) _
                · intro D hD
                  have h1 := Hdge.out D hD
                  have h2 := hodd D _ (by omega) (Hmc.out D hD) (.inl ⟨_, rfl⟩)
                  have h3 := lt_of_block (Hmk.out D hD)
                  have h4 := Hib.out
                  exact (o5.block D (lt_of_block h2) (fun e => by have h : D = ib := e; omega)).trans h2
              clear hst4 hodd c17 f17 c18 c16 c10 c11 c7 c6 c8 f8 Hadd
              gi_wp2
              · have hst : (((p : Int) + 1) == stop) = true := by assumption
                have hr0 : r = 0 := by assumption
                have h1 := (HF _ rfl).out
                exact ⟨h1.1, .inl ⟨rfl, hr0, by rw [List.length_append, List.length_singleton, Hpl.out]; simpa using hst, h1.2.2⟩⟩
              · exact (HF _ rfl).out
              · exact (HF _ rfl).out
            · have hy : zs2[pre.length]?.getD 0 = more := by
                rcases Hz.out with e | e
                · have := Hlt.out; rw [e] at this; omega
                · have h2 := Hlt.out
                  rw [e] at h2 ⊢
                  simp only [List.length_append, List.length_singleton] at h2
                  have h3 : pre.length = zs.length := by omega
                  rw [h3]; simp
              rw [hy]
              clear hy
              generalize hpl : pre.length = p at *
              have Hpl := Lib.hid hpl
              clear hpl
              gi_wp2_with fail
              refine ⟨trivial, ?_⟩
              gi_at_call 10
              refine (CallsIn.inRound l (callsIn_wide.2 Hadd.out)).mono ?_
              rintro e w4 ⟨fr, er, rfl, H4⟩
              have hst4 := H4.out.2.2.2.1
              have C17 : w4.cell? ⟨ib, 0, none⟩ = some (.int .i64 (p : Int)) := (World.cell?_of_block (hst4 ib (.inr (.inr ⟨by omega, by omega⟩)) (by omega))).trans c17
              have F17 : w4.frozen? ⟨ib, 0, none⟩ = false := (World.frozen?_of_block (hst4 ib (.inr (.inr ⟨by omega, by omega⟩)) (by omega))).trans f17
              have C16 : w4.cell? ⟨pb, 0, none⟩ = some (.int .i64 (r : Int)) := (World.cell?_of_block (hst4 pb (.inr (.inr ⟨by omega, by omega⟩)) (by omega))).trans c16
              have C6 : w4.cell? ⟨tb, 0, none⟩ = some (.int .i64 stop) := (World.cell?_of_block (hst4 tb (.inl (by have := Htsb.out; omega)) (World.block_lt_of_cell? _ _ c6))).trans c6
              have hne1 : ¬ ib = pb := by omega
              have hne2 : ¬ ib = tb := by have := Htsb.out; omega
              have hodd := H4.out.2.2.2.2
              have HF : ∀ W5, W5 = w4.setCell ⟨ib, 0, none⟩ (.int .i64 ((p : Int) + 1)) → Hid (KeepsFrom Wb.heap.size Wc W5 ∧ RowStays (.slice sa zs2.length sc) zs2.length Wc W5 ∧ RI wB sb M more zs (.slice la zs.length lc) pb (ib + 2) zs2 v2 (pre ++ [p]) W5 ∧ Boxed W5 ib 3 (.int .i64 ((pre ++ [p]).length : Int)) ∧ Boxed W5 (ib + 1) 3 (.int .i64 (zs2.length : Int)) ∧ Boxed W5 pb 3 (.int .i64 (r : Int)) ∧ Boxed W5 cb 24 (.pointer (some ⟨sb, 0, none⟩)) ∧ ∀ D ∈ Ds, W5.heap[D]? = some (.deferred (some []))) := by
                rintro W5 rfl
                have o5 := Only.of_setCell w4 ⟨ib, 0, none⟩ (.int .i64 ((p : Int) + 1))
                have hB4 : ib + 2 ≤ w4.heap.size := Nat.le_trans hBW H4.out.2.1.size
                have hi4 : Boxed w4 ib 3 (.int .i64 (p : Int)) := by
                  have := Hi.out
                  exact (hst4 ib (.inr (.inr ⟨by omega, by omega⟩)) (by omega)).trans this
                refine ⟨?_, ?_, ?_, ?_, ?_, ?_, ?_, ?_⟩
                · rw [Hsb'.out]; exact H4.out.2.1.trans ((KeepsOthers.setCell _ _ _).from _)
                · have h1 := H4.out.2.2.1
                  rw [Hv2.out] at h1
                  refine h1.trans (RowStays.of_only o5 (fun b' hb' e => ?_))
                  have h2 := Hft.out b' (.inr (.inl (by rw [Hv2.out]; exact hb')))
                  have h3 : b' = ib := e
                  omega
                · exact H4.out.1.step (o5.mono (fun i hi => .inl (by have h : i = ib := hi; omega))) (by omega) (fun b' hb' => by have := Hlvlt.out b' hb'; omega)
                · have h1 := hi4.set (.int .i64 ((p : Int) + 1))
                  rw [List.length_append, Hpl.out, List.length_singleton]
                  exact h1
                · exact Boxed.other ((hst4 (ib + 1) (.inr (.inr ⟨by omega, by omega⟩)) (by omega)).trans Hn.out) (by omega) _
                · exact Boxed.other ((hst4 pb (.inr (.inr ⟨by omega, by omega⟩)) (by omega)).trans Hp.out) (by omega) _
                · exact Boxed.other (hodd cb _ (by omega) Hc.out (.inr ⟨_, rfl⟩)) (by omega) _
                · intro D hD
                  have h1 := Hdge.out D hD
                  have h2 := hodd D _ (by omega) (Hmc.out D hD) (.inl ⟨_, rfl⟩)
                  have h3 := lt_of_block (Hmk.out D hD)
                  have h4 := Hib.out
                  exact (o5.block D (lt_of_block h2) (fun e => by have h : D = ib := e; omega)).trans h2
              clear hst4 hodd c17 f17 c18 c16 c10 c11 c7 c6 c8 f8 Hadd
              gi_wp2
              · have hst : (((p : Int) + 1) == stop) = true := by assumption
                have hr0 : r = 0 := by assumption
                have h1 := (HF _ rfl).out
                exact ⟨h1.1, .inl ⟨rfl, hr0, by rw [List.length_append, List.length_singleton, Hpl.out]; simpa using hst, h1.2.2⟩⟩
              · exact (HF _ rfl).out
              · exact (HF _ rfl).out
          · have hxne : ((x : Int) != (pre.length : Int)) = true := by simp; omega
            have Hok := Lib.hid hok
            clear hok
            gi_wp2
            refine ⟨(KeepsOthers.setCell _ _ _).from _, .inr ?_⟩
            rintro ⟨q, hq⟩
            have hl := congrArg List.length hq
            rw [List.length_append, List.length_singleton, List.length_range] at hl
            rw [← hl, List.range_succ] at hq
            have h2 := (List.append_inj' hq rfl).2
            exact Hok.out (by simpa using h2)
        case hdone =>
          rintro D ys W hD rfl ⟨hRI, hib', hin, hip, hic, hmc⟩ hKd
          rw [List.length_range] at hib'
          obtain ⟨zs3, v3, mv3, hE3, hz3, hmb3, hft3, _⟩ := id hRI
          have c17 := hib'.cell
          have c18 := hin.cell
          have c16 := hip.cell
          have hsW : ib + 2 ≤ W.heap.size := hin.lt
          have HRI := Lib.hid hRI
          have Hin := Lib.hid hin
          have Hip := Lib.hid hip
          have Hic := Lib.hid hic
          have Hmc := Lib.hid hmc
          have HKd := Lib.hid hKd
          have HD := Lib.hid hD
          clear hRI hib' hin hip hic hmc hKd hD hE3 hz3 hmb3 hft3
          go_wp2
          have HW : ∀ W7, W7 = W.alloc (.cells #[.int .i64 ((r : Int) + 1)] 3) → Hid (W7.heap[W.heap.size]? = some (.cells #[.int .i64 (((r + 1 : Nat) : Int))] 3 (0, 0))) ∧ Hid (MRel wB sb cb W.heap.size M more zs (.slice la zs.length lc) (D :: Ds) W7) := by
            rintro W7 rfl
            have o7 := Only.of_alloc W (.cells #[.int .i64 ((r : Int) + 1)] 3)
            refine ⟨by show _ = _; rw [heap_alloc_new]; simp, ?_⟩
            obtain ⟨zs3, v3, mv3, hE3, hz3, hmb3, hft3, _⟩ := HRI.out
            have hcl := Hic.out.lt
            refine ⟨⟨zs3, v3, mv3, hE3.step o7, hz3, fun i hi => (hE3.set.lt i hi).2⟩, ?_, hcl, hsbcb, Hlvlt.out, ?_, ?_, ?_⟩
            · exact (o7.block cb hcl (fun h => h)).trans Hic.out
            · intro D' hD'
              rcases List.mem_cons.1 hD' with rfl | hD'
              · exact (o7.block D' (lt_of_block HKd.out) (fun h => h)).trans HKd.out
              · exact (o7.block D' (lt_of_block (Hmc.out D' hD')) (fun h => h)).trans (Hmc.out D' hD')
            · refine List.nodup_cons.2 ⟨fun hD' => ?_, Hnd.out⟩
              have h1 := lt_of_block (Hmkb.out D hD')
              have h2 := HD.out
              omega
            · intro D' hD'
              rcases List.mem_cons.1 hD' with rfl | hD'
              · have h2 := HD.out
                rw [Hsb'.out] at h2
                omega
              · exact Hdge.out D' hD'
          refine Handed.intro (gk - 1) (by have := Hrk.out; omega) (hJ _ _ _ ?_)
          exact ⟨_, D :: Ds, _, _, _, _, _, _, _, _, _, _, _, _, _, _, _, _, _, _, _, _, _, _, _, _, _, _, _, _, _, _, _, _, _, _, _, _, _, _, _, _, _, _, _, _, _, _, _, _, _, _, _, _, _, _, _, _, _, _, _, _, _, _, _, _, _, _, _, _, _, _, _, _, ⟨r + 1, by have := Hrk.out; omega, (HW _ rfl).1, (HW _ rfl).2⟩, rfl⟩
        case hstop =>
          rintro D c pre W hD ⟨q, _, e⟩ hx hKd
          rcases hx with ⟨rfl, hr0, hst, hRI, hib', hin, hip, hic, hmc⟩ | hx
          · refine wpIn_wide.2 ?_
            obtain ⟨zs3, v3, mv3, hE3, hz3, hmb3, hft3, hrs3⟩ := id hRI
            have c17 := hib'.cell
            have c18 := hin.cell
            have c16 : W.cell? ⟨pb, 0, none⟩ = some (.int .i64 0) := by have := hip.cell; rw [hr0] at this; exact this
            have c6 : W.cell? ⟨tb, 0, none⟩ = some (.int .i64 (pre.length : Int)) := by rw [hst]; exact cell_of_one (hE3.box B0.out (by have := Htsb.out; omega) (by have := Htsb.out; omega))
            have hsW : ib + 2 ≤ W.heap.size := hin.lt
            have HRI := Lib.hid hRI
            have Hin := Lib.hid hin
            have Hip := Lib.hid hip
            have Hic := Lib.hid hic
            have Hmc := Lib.hid hmc
            have HKd := Lib.hid hKd
            have HD := Lib.hid hD
            have Hr0 := Lib.hid hr0
            clear hRI hib' hin hip hic hmc hKd hD hE3 hz3 hmb3 hft3 hrs3 hr0 hst e
            generalize pre.length = p at *
            go_wp2
            all_goals
              have HW : ∀ W7, W7 = W.alloc (.cells #[.int .i64 1] 3) → Hid (W7.heap[W.heap.size]? = some (.cells #[.int .i64 (((r + 1 : Nat) : Int))] 3 (0, 0))) ∧ Hid (MRel wB sb cb W.heap.size M more zs (.slice la zs.length lc) (D :: Ds) W7) := by
                rintro W7 rfl
                have o7 := Only.of_alloc W (.cells #[.int .i64 1] 3)
                refine ⟨by show _ = _; rw [heap_alloc_new]; simp [Hr0.out], ?_⟩
                obtain ⟨zs3, v3, mv3, hE3, hz3, hmb3, hft3, _⟩ := HRI.out
                have hcl := Hic.out.lt
                refine ⟨⟨zs3, v3, mv3, hE3.step o7, hz3, fun i hi => (hE3.set.lt i hi).2⟩, ?_, hcl, hsbcb, Hlvlt.out, ?_, ?_, ?_⟩
                · exact (o7.block cb hcl (fun h => h)).trans Hic.out
                · intro D' hD'
                  rcases List.mem_cons.1 hD' with rfl | hD'
                  · exact (o7.block D' (lt_of_block HKd.out) (fun h => h)).trans HKd.out
                  · exact (o7.block D' (lt_of_block (Hmc.out D' hD')) (fun h => h)).trans (Hmc.out D' hD')
                · refine List.nodup_cons.2 ⟨fun hD' => ?_, Hnd.out⟩
                  have h1 := lt_of_block (Hmkb.out D hD')
                  have h2 := HD.out
                  omega
                · intro D' hD'
                  rcases List.mem_cons.1 hD' with rfl | hD'
                  · have h2 := HD.out
                    rw [Hsb'.out] at h2
                    omega
                  · exact Hdge.out D' hD'
              refine Handed.intro (gk - 1) (by have := Hrk.out; omega) (hJ _ _ _ ?_)
              exact ⟨_, D :: Ds, _, _, _, _, _, _, _, _, _, _, _, _, _, _, _, _, _, _, _, _, _, _, _, _, _, _, _, _, _, _, _, _, _, _, _, _, _, _, _, _, _, _, _, _, _, _, _, _, _, _, _, _, _, _, _, _, _, _, _, _, _, _, _, _, _, _, _, _, _, _, _, _, ⟨r + 1, by have := Hrk.out; omega, (HW _ rfl).1, (HW _ rfl).2⟩, rfl⟩
          · exact absurd ⟨q, e⟩ hx
      · obtain ⟨⟨zs2, v2, mv2, hE, hz, hft⟩, hcbp, hcbpb, hsbcb, hlvlt, hmk, hnd, hdge⟩ := HM.out
        have hr22 : r = 2 := by omega
        have cpbc : wr'.cell? ⟨pb, 0, none⟩ = some (.int .i64 2) := by have := cell_of_one Hpb.out; rw [hr22] at this; exact this
        have hb8 := hE.box B2.out (by have := Htsb.out; omega) (by have := Htsb.out; omega)
        have c8 := cell_of_one hb8
        have f8 := free_of_one hb8
        have HE := Lib.hid hE
        have Hmk := Lib.hid hmk
        have Hnd := Lib.hid hnd
        have Hdge := Lib.hid hdge
        clear hE hz hft hcbp hmk hnd hdge hlvlt hrk hr22 hb8 hr2
        go_wp2
        refine leave4D (tb + 2) true Ds rfl rfl Hnd.out (fun D hD => (KeepsOthers.setCell wr' ⟨tb + 2, 0, none⟩ (.bool true)).same D _ (Hmk.out D hD) rfl) (World.cell_set _ _ _ _ c8) (fun w' ho => ⟨rfl, ?_⟩)
        have htb := Htb.out
        have hts := Htsb.out
        refine ((HoB.out.trans HE.out.only (fun _ h => h) (fun i hi => .inr (by omega))).trans (Only.of_setCell _ _ _) (fun _ h => h) (fun i hi => .inr (by have h : i = tb + 2 := hi; omega))).trans ho (fun _ h => h) (fun i hi => .inr (by have := Hdge.out i hi; omega))
end Go.Proofs.YtgkdemdpknljkaaDoor
