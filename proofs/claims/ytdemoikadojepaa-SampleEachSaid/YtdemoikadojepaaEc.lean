/- SampleEach answers true. -/
import Derived.Test.YtdemoikadojepaaEb
import Derived.Test.YtdemoikadojepaaSv
import Derived.Test.YtdemoikadojepaaSu
import Derived.Test.YtdemoikadojepaaSs
import Derived.Deep.LoopGhost
namespace Go.Proofs.Ytdemoikadojepaa
open Go.RowKit Go.Maps Go.WideMaps Go.WideElems Go.ChangeShapes Go.WideShapes
attribute [local go_sem] Oper.semAt_some

def calm (Q : Exit → Act → World → Prop) : Exit → Act → World → Prop
  | .panic _, _, _ => False
  | e, a, w => Q e a w
theorem res2 (tmps : Array Value) (w : World) (rb : Nat) (v : Bool) (hp : tmps.getD 2 undef = .pointer (some ⟨rb, 0, none⟩)) (hg : w.cell? ⟨rb, 0, none⟩ = some (.bool v)) :
    (results Try.f4 tmps).run Try.prog w = .ok (.bool v) w := by
  have hp' : tmps[2]?.getD undef = .pointer (some ⟨rb, 0, none⟩) := by simpa using hp
  have hu := Try.underlying4
  simp [results, hp', asAddr, loadVar, isAgg, underlying, hu, go_sem, hg]
def markD (D : Nat) : Deferred := { target := .collected D, args := #[] }
theorem leavesD4 {R : Ending → World → Prop} {tmps : Array Value} (B rb : Nat) (v : Bool) (hp : tmps.getD 2 undef = .pointer (some ⟨rb, 0, none⟩)) : ∀ (Ds : List Nat) (w : World), Ds.Nodup → (∀ D ∈ Ds, w.heap[D]? = some (.deferred (some []))) → (∀ D ∈ Ds, B ≤ D) → B ≤ w.heap.size →
    w.cell? ⟨rb, 0, none⟩ = some (.bool v) → (∀ w', Below B w w' → R (.returned (.bool v)) w') → LeavesInM Fence.wide 10 Try.prog Try.f4 tmps R (Ds.map markD) .returning w
  | [], w, _, _, _, _, hg, hR => ⟨_, res2 tmps w rb v hp hg, hR w (Below.refl _ _)⟩
  | D :: Ds, w, hn, hk, hb, hB, hg, hR => by
    have hK := hk D (List.mem_cons_self ..)
    have hn' := List.nodup_cons.1 hn
    refine ⟨by simp, .inl ⟨D, _, rfl, run_takeDeferred hK, ?_⟩⟩
    have hgr := grownBy_putObj' w D (.deferred none)
    have ho : Below B w (w.putObj D (.deferred none)) := (Below.refl B w).grown hgr hB (fun k e => by cases e; exact hb D (List.mem_cons_self ..))
    refine leavesD4 B rb v hp Ds _ hn'.2 (fun D' hD' => ?_) (fun D' hD' => hb D' (List.mem_cons_of_mem _ hD')) (Nat.le_trans hB ho.size) ?_ (fun w' h' => hR w' (ho.trans h'))
    · have h1 := hk D' (List.mem_cons_of_mem _ hD')
      exact (hgr.block D' (Array.getElem?_eq_some_iff.1 h1).1 (fun e => hn'.1 (by cases e; exact hD'))).trans h1
    · exact cell_kept hg hgr (fun r e => by cases e; exact ⟨_, hK, rfl⟩)
theorem leave4D {R : Ending → World → Prop} {a : Act} {w : World} (B rb : Nat) (v : Bool) (Ds : List Nat) (hd : a.defers = Ds.map markD) (hp : a.tmps.getD 2 undef = .pointer (some ⟨rb, 0, none⟩)) (hn : Ds.Nodup) (hk : ∀ D ∈ Ds, w.heap[D]? = some (.deferred (some []))) (hb : ∀ D ∈ Ds, B ≤ D) (hB : B ≤ w.heap.size)
    (hg : w.cell? ⟨rb, 0, none⟩ = some (.bool v)) (hR : ∀ w', Below B w w' → R (.returned (.bool v)) w') : bodyPostM Fence.wide 10 Try.prog Try.f4 R .ret a w := by
  show LeavesInM Fence.wide 10 Try.prog Try.f4 a.tmps R a.defers .returning w
  rw [hd]
  exact leavesD4 B rb v hp Ds w hn hk hb hB hg hR
theorem eq_nilfunc (fn : Fn) (x y : Array Value) (w : World) : (binOp .eql 38 (.func fn x y) .nilFunc).run Try.prog w = .ok (.bool false) w := by
  have hu : Try.prog.underlying 38 = _ := Try.underlying38
  have h : ∀ k, (Op.equalIn (k + 1) 38 (.func fn x y) .nilFunc).run Try.prog w = .ok false w := fun k => by
    simp only [Op.equalIn, Sem.run_bind, run_underlying hu, Result.andThen_ok, Sem.run_pure]
  simp only [binOp]
  simp [Op.equal, Op.maxDepth, h 9999]

/-- What holds while the histories are gone over: B is where the loop's own blocks begin. -/
structure LMRel (B : Nat) (W0 : World) (pb : Nat) (r : Int) (Ds : List Nat) (W : World) : Prop where
  below : Below B W0 W
  pc : Boxed W pb 3 (.int .i64 r)
  pbB : B ≤ pb
  mks : ∀ D ∈ Ds, W.heap[D]? = some (.deferred (some []))
  nd : Ds.Nodup
  ge : ∀ D ∈ Ds, B ≤ D
/-- Behind W one row has been written over, cell by cell. -/
structure OneW (g : Nat) (W W' : World) : Prop where
  os : W'.os = W.os
  tape : W'.tape = W.tape
  output : W'.output = W.output
  size : W.heap.size ≤ W'.heap.size
  other : ∀ k, k ≠ g → W'.heap[k]? = W.heap[k]?
  row : ∀ (cs : Array Value) (t : TypeId), W.heap[g]? = some (.cells cs t) → ∃ cs' : Array Value, W'.heap[g]? = some (.cells cs' t) ∧ cs'.size = cs.size
theorem OneW.refl (g : Nat) (W : World) : OneW g W W := ⟨rfl, rfl, rfl, Nat.le_refl _, fun _ _ => rfl, fun cs _ h => ⟨cs, h, rfl⟩⟩
theorem OneW.set {g : Nat} {W W' : World} (h : OneW g W W') (o : Nat) (v : Value) : OneW g W (W'.setCell ⟨g, o, none⟩ v) := by
  have h5 := (Below.refl 0 W').setCell (p := ⟨g, o, none⟩) (Nat.zero_le _) v
  refine ⟨h5.os.trans h.os, h5.tape.trans h.tape, h5.output.trans h.output, Nat.le_trans h.size h5.size, fun k hk => (Below.heap_setCell W' ⟨g, o, none⟩ v k hk).trans (h.other k hk), fun cs t hk => ?_⟩
  obtain ⟨cs', h1, h2⟩ := h.row cs t hk
  exact ⟨cs'.setIfInBounds o v, heap_setCell_same W' g o _ _ v h1, by simpa using h2⟩
theorem OneW.cell {g o : Nat} {cs : Array Value} {t : TypeId} {W W' : World} (h : OneW g W W') (hg : W.heap[g]? = some (.cells cs t)) (ho : o < cs.size) : (∃ u, W'.cell? ⟨g, o, none⟩ = some u) ∧ W'.frozen? ⟨g, o, none⟩ = false := by
  obtain ⟨cs', h1, h2⟩ := h.row cs t hg
  exact ⟨⟨cs'[o]'(by omega), by simp [World.cell?, h1, show o < cs'.size by omega]⟩, frozen_of_row _ _ o _ _ h1⟩
theorem OneW.keeps {g : Nat} {cs : Array Value} {t : TypeId} {W W' : World} (h : OneW g W W') (hg : W.heap[g]? = some (.cells cs t)) : KeepsOthers W W' :=
  ⟨h.size, fun k o hk ho => (h.other k (fun e => by subst e; rw [hg] at hk; cases hk; cases ho)).trans hk⟩
theorem OneW.below {g B : Nat} {W W' : World} (h : OneW g W W') (hB : B ≤ g) : Below B W W' := ⟨h.os, h.tape, h.output, h.size, fun k hk => h.other k (by omega)⟩
theorem ne_of_type {W : World} {a b : Nat} {c c' : Array Value} {t t' : TypeId} (h1 : W.heap[a]? = some (.cells c t)) (h2 : W.heap[b]? = some (.cells c' t')) (ht : t ≠ t') : a ≠ b := by
  rintro rfl
  rw [h1] at h2
  cases h2
  exact ht rfl
theorem evs_row {W : World} {B n : Nat} {v : Value} {xs : List Value} (h : W.ownsRow B 41 8 v n xs) (hn : 0 < n) : ∃ g c cs, v = .slice (some ⟨g, 0, none⟩) n c ∧ B ≤ g ∧ W.heap[g]? = some (.cells cs 41) ∧ n * 8 ≤ cs.size := by
  obtain ⟨hl, ⟨rfl, h0⟩ | ⟨g, cap, cur, rfl, hb, hg, hc, hm, hs, ht⟩⟩ := h
  · omega
  · exact ⟨g, cap, cur, rfl, hb, hg, by rw [hs]; exact Nat.mul_le_mul_right _ hc⟩
theorem kc_heap' {A B : World} {n k : Nat} {x : Obj} (h : Below n A B) (hk : A.heap[k]? = some x) (hl : k < n) : B.heap[k]? = some x := (h.block k hl).trans hk
theorem posK (k : Nat) (hk : k < 4) : 0 < mK k := by
  match k, hk with
  | 0, _ => decide
  | 1, _ => decide
  | 2, _ => decide
  | 3, _ => decide

set_option maxRecDepth 100000 in
set_option maxHeartbeats 8000000 in
theorem eachLaw_any (stop : Int) (w : World) : Calls Try.prog 4 #[.int .i64 stop] w fun e w' => e = .returned (.bool true) ∧ Hid (Below w.heap.size w w') := by
  obtain ⟨Wa, hWa, Hba, hsa, Hxa⟩ := cells_new w #[.int .i64 stop] 3
  obtain ⟨Wb, hWb, Hbb, hsb, Hxb⟩ := cells_new Wa #[.bool false] 4
  have Hf := Lib.hid (first_any Wb)
  have hnf := fun w => eq_nilfunc (.func 38) #[] #[] w
  refine callsIn_wide.1 (callsIn_of_wp_marks (F := Fence.wide) (n := 10) Try.func4 rfl trivial (wpIn_wide.2 (Code.wp_mono (Q := calm (bodyPostM Fence.wide 10 Try.prog Try.f4 fun e w' => e = .returned (.bool true) ∧ Hid (Below w.heap.size w w'))) (fun e a w h => by cases e <;> first | exact h | exact h.elim) ?_)) rfl)
  simp only [Try.ntmps4, List.size_toArray, List.length_cons, List.length_nil, Nat.reduceAdd, Nat.reduceSub, Array.replicate_succ, Array.replicate_zero, List.push_toArray, List.append_toArray, List.nil_append, List.cons_append]
  go_wp2_with (first
    | (go_at_call 6; (with_reducible refine Hf.out.mono ?_); rintro e w1 ⟨rfl, h1⟩)
    | (go_at_call 16; (with_reducible refine (each_any w1).mono ?_); rintro e w2 ⟨rfl, rfl⟩)
    | (go_at_call 12; (with_reducible refine (dnames_any _).mono ?_); rintro e w3 ⟨rfl, h3⟩
       obtain ⟨Wc, hWc, Hbc, hsc, Hxc⟩ := cells_new w3 #[.slice (some ⟨w1.heap.size, 0, none⟩) 4 4] 32
       obtain ⟨Wd, hWd, Hbd, hsd, Hxd⟩ := cells_new Wc #[.int .i64 0] 3
       have d0 : Wd.cell? ⟨Wc.heap.size, 0, none⟩ = some (.int .i64 0) := by simp [World.cell?, Hxd.out]
       have df := frozen_of_row _ _ 0 _ _ Hxd.out
       obtain ⟨We, hWe⟩ : ∃ We, Wd.setCell ⟨Wc.heap.size, 0, none⟩ (.int .i64 0) = We := ⟨_, rfl⟩))
  have D1 : Hid (Below Wb.heap.size Wb Wc) := stepB (stepB h1.out h3.out.2) Hbc.out
  have DL : Hid (Below w.heap.size w Wc) := stepB (stepB Hba.out Hbb.out) D1.out
  have J0 : Hid (Boxed Wc w.heap.size 3 (.int .i64 stop)) := keepB D1.out (keepB Hbb.out Hxa.out)
  have J1 : Hid (Boxed Wc Wa.heap.size 4 (.bool false)) := keepB D1.out Hxb.out
  have J2 : Hid (Boxed Wc w3.heap.size 32 (.slice (some ⟨w1.heap.size, 0, none⟩) 4 4)) := Hxc.out
  have J3 : Hid (Wc.heap[w1.heap.size]? = some (.cells namesC 9)) := keepB Hbc.out h3.out.1
  have l0 : w.heap.size < Wc.heap.size := J0.out.lt
  have l1 : Wa.heap.size < Wc.heap.size := J1.out.lt
  have l2 : w3.heap.size < Wc.heap.size := J2.out.lt
  have l3 : w1.heap.size < Wc.heap.size := (Array.getElem?_eq_some_iff.1 J3.out).1
  have l4 : w.heap.size ≤ Wa.heap.size := Hba.out.size
  have HM0 : Hid (LMRel Wc.heap.size Wc Wc.heap.size 0 [] We) := by
    refine ⟨?_, ?_, Nat.le_refl _, by simp, List.nodup_nil, by simp⟩
    · rw [← hWe]; exact Hbd.out.setCell (p := ⟨Wc.heap.size, 0, none⟩) (Nat.le_refl _) _
    · rw [← hWe]; exact heap_setCell_same Wd Wc.heap.size 0 _ _ _ Hxd.out
  clear hWa hWb hWc hWd hWe Hba Hbb Hbc Hbd hsa hsb hsc hsd Hxa Hxb Hxc Hxd Hf hnf h1 h3 d0 df D1
  refine wp_loop_ghost_k (fun (k : Nat) (a' : Act) (W : World) => ∃ (pb : Nat) (Ds : List Nat) (u7 u8 u9 u10 u11 u12 u25 u26 u27 u28 u29 u30 u31 u32 u33 u34 u35 u36 u37 u38 u39 u40 u41 u42 u43 u44 u45 u46 u47 u48 u49 u50 u51 u52 u53 u54 u55 u56 u57 u58 u59 u60 u61 u62 u63 u64 u65 u66 u67 u68 u69 u70 u71 u72 u73 u74 u75 u76 u77 u78 u79 u80 u81 u82 u83 u84 u85 u86 u87 u88 : Value), (∃ r : Nat, r + k = 2 ∧ Hid (LMRel Wc.heap.size Wc pb r Ds W)) ∧ a' = { tmps := #[.int .i64 stop, .pointer (some ⟨w.heap.size, 0, none⟩), .pointer (some ⟨Wa.heap.size, 0, none⟩), .bool true, .func (.func 38) #[] #[], .pointer (some ⟨w3.heap.size, 0, none⟩), .pointer (some ⟨pb, 0, none⟩), u7, u8, u9, u10, u11, u12, undef, undef, undef, undef, undef, .bool true, .bool true, .bool false, .func (.func 38) #[] #[], .func (.func 38) #[] #[], .bool false, .slice (some ⟨w1.heap.size, 0, none⟩) 4 4, u25, u26, u27, u28, u29, u30, u31, u32, u33, u34, u35, u36, u37, u38, u39, u40, u41, u42, u43, u44, u45, u46, u47, u48, u49, u50, u51, u52, u53, u54, u55, u56, u57, u58, u59, u60, u61, u62, u63, u64, u65, u66, u67, u68, u69, u70, u71, u72, u73, u74, u75, u76, u77, u78, u79, u80, u81, u82, u83, u84, u85, u86, u87, u88, undef, undef, undef, undef, undef, undef, undef, undef, undef, undef, undef, undef, undef, undef, undef, undef, undef, undef, undef, undef], defers := Ds.map markD }) 2 ⟨Wc.heap.size, [], _, _, _, _, _, _, _, _, _, _, _, _, _, _, _, _, _, _, _, _, _, _, _, _, _, _, _, _, _, _, _, _, _, _, _, _, _, _, _, _, _, _, _, _, _, _, _, _, _, _, _, _, _, _, _, _, _, _, _, _, _, _, _, _, _, _, _, _, _, _, ⟨0, rfl, HM0.out⟩, rfl⟩ ?_
  intro gk a' wr hI J K hJ hK
  clear HM0
  obtain ⟨pb, hI⟩ := hI
  obtain ⟨Ds, hI⟩ := hI
  obtain ⟨u7, hI⟩ := hI
  obtain ⟨u8, hI⟩ := hI
  obtain ⟨u9, hI⟩ := hI
  obtain ⟨u10, hI⟩ := hI
  obtain ⟨u11, hI⟩ := hI
  obtain ⟨u12, hI⟩ := hI
  obtain ⟨u25, hI⟩ := hI
  obtain ⟨u26, hI⟩ := hI
  obtain ⟨u27, hI⟩ := hI
  obtain ⟨u28, hI⟩ := hI
  obtain ⟨u29, hI⟩ := hI
  obtain ⟨u30, hI⟩ := hI
  obtain ⟨u31, hI⟩ := hI
  obtain ⟨u32, hI⟩ := hI
  obtain ⟨u33, hI⟩ := hI
  obtain ⟨u34, hI⟩ := hI
  obtain ⟨u35, hI⟩ := hI
  obtain ⟨u36, hI⟩ := hI
  obtain ⟨u37, hI⟩ := hI
  obtain ⟨u38, hI⟩ := hI
  obtain ⟨u39, hI⟩ := hI
  obtain ⟨u40, hI⟩ := hI
  obtain ⟨u41, hI⟩ := hI
  obtain ⟨u42, hI⟩ := hI
  obtain ⟨u43, hI⟩ := hI
  obtain ⟨u44, hI⟩ := hI
  obtain ⟨u45, hI⟩ := hI
  obtain ⟨u46, hI⟩ := hI
  obtain ⟨u47, hI⟩ := hI
  obtain ⟨u48, hI⟩ := hI
  obtain ⟨u49, hI⟩ := hI
  obtain ⟨u50, hI⟩ := hI
  obtain ⟨u51, hI⟩ := hI
  obtain ⟨u52, hI⟩ := hI
  obtain ⟨u53, hI⟩ := hI
  obtain ⟨u54, hI⟩ := hI
  obtain ⟨u55, hI⟩ := hI
  obtain ⟨u56, hI⟩ := hI
  obtain ⟨u57, hI⟩ := hI
  obtain ⟨u58, hI⟩ := hI
  obtain ⟨u59, hI⟩ := hI
  obtain ⟨u60, hI⟩ := hI
  obtain ⟨u61, hI⟩ := hI
  obtain ⟨u62, hI⟩ := hI
  obtain ⟨u63, hI⟩ := hI
  obtain ⟨u64, hI⟩ := hI
  obtain ⟨u65, hI⟩ := hI
  obtain ⟨u66, hI⟩ := hI
  obtain ⟨u67, hI⟩ := hI
  obtain ⟨u68, hI⟩ := hI
  obtain ⟨u69, hI⟩ := hI
  obtain ⟨u70, hI⟩ := hI
  obtain ⟨u71, hI⟩ := hI
  obtain ⟨u72, hI⟩ := hI
  obtain ⟨u73, hI⟩ := hI
  obtain ⟨u74, hI⟩ := hI
  obtain ⟨u75, hI⟩ := hI
  obtain ⟨u76, hI⟩ := hI
  obtain ⟨u77, hI⟩ := hI
  obtain ⟨u78, hI⟩ := hI
  obtain ⟨u79, hI⟩ := hI
  obtain ⟨u80, hI⟩ := hI
  obtain ⟨u81, hI⟩ := hI
  obtain ⟨u82, hI⟩ := hI
  obtain ⟨u83, hI⟩ := hI
  obtain ⟨u84, hI⟩ := hI
  obtain ⟨u85, hI⟩ := hI
  obtain ⟨u86, hI⟩ := hI
  obtain ⟨u87, hI⟩ := hI
  obtain ⟨u88, hI⟩ := hI
  obtain ⟨⟨r, hrk, HM⟩, rfl⟩ := hI
  have Hrk := Lib.hid hrk
  clear hrk
  by_cases hr2 : r < 2
  · have cp := HM.out.pc.cell
    obtain ⟨Wi, hWi, Hbi, hsi, Hxi⟩ := cells_new wr #[.int .i64 0] 3
    have d0 : Wi.cell? ⟨wr.heap.size, 0, none⟩ = some (.int .i64 0) := by simp [World.cell?, Hxi.out]
    have df := frozen_of_row _ _ 0 _ _ Hxi.out
    obtain ⟨Wj, hWj⟩ : ∃ Wj, Wi.setCell ⟨wr.heap.size, 0, none⟩ (.int .i64 0) = Wj := ⟨_, rfl⟩
    go_wp2_with fail
    clear cp d0 df
    have hBr : Wc.heap.size ≤ wr.heap.size := HM.out.below.size
    have Hij : Hid (Below wr.heap.size wr Wj) := by
      show Below _ _ _
      rw [← hWj]; exact Hbi.out.setCell (p := ⟨wr.heap.size, 0, none⟩) (Nat.le_refl _) _
    have Hbj : Hid (Below Wc.heap.size Wc Wj) := HM.out.below.trans (Hij.out.mono hBr)
    have Hib : Hid (Boxed Wj wr.heap.size 3 (.int .i64 (([] : List Item).length : Int))) := by
      show _ = _
      rw [← hWj]; exact heap_setCell_same Wi wr.heap.size 0 _ _ _ Hxi.out
    have Hpb : Hid (Boxed Wj pb 3 (.int .i64 (r : Int))) := kc_heap Hij.out HM.out.pc
    have hpi : pb < wr.heap.size := HM.out.pc.lt
    have Hmk : Hid (∀ D ∈ Ds, Wj.heap[D]? = some (.deferred (some []))) := fun D hD => kc_heap Hij.out (HM.out.mks D hD)
    obtain ⟨ib, hib⟩ : ∃ ib, wr.heap.size = ib := ⟨_, rfl⟩
    rw [hib] at Hib hBr hpi ⊢
    have hpB := HM.out.pbB
    have hij : Hid (ib < Wj.heap.size) := Hib.out.lt
    have HI : Hid (OwnFrom Wj.heap.size (fun (pre : List Item) W => Boxed W ib 3 (.int .i64 (pre.length : Int)) ∧ Boxed W pb 3 (.int .i64 (r : Int)) ∧ Below Wc.heap.size Wc W ∧ ∀ D ∈ Ds, W.heap[D]? = some (.deferred (some [])))) := by
      show OwnFrom _ _
      refine OwnFrom.and (Own.from (boxed_own _ _ _) _) (OwnFrom.and (Own.from (boxed_own _ _ _) _) (OwnFrom.and (ownFrom_below (Nat.le_refl _) Hbj.out.size) ?_))
      intro s X Y row hs hg hr D hD
      refine (hg.block D (Array.getElem?_eq_some_iff.1 (hs D hD)).1 (fun e => ?_)).trans (hs D hD)
      have h1 := (hr D e.symm).1
      have h2 := (Array.getElem?_eq_some_iff.1 (Hmk.out D hD)).1
      omega
    have HBxo : Hid (∀ (pre : List Item) (x : Item) (hb : Nat), OwnFrom Wj.heap.size (fun (_ : Unit) W => W.heap[hb]? = some (.cells #[voI x, vI x] 26) ∧ OkI Wc.heap.size pre x W)) := by
      intro pre x hb _ X Y row ⟨h1, h2⟩ hg hr
      have hk : ∀ {k : Nat} {o : Obj}, X.heap[k]? = some o → o.isCells = true → Y.heap[k]? = some o := fun {k o} hk hc => (hg.block k (Array.getElem?_eq_some_iff.1 hk).1 (fun e => by
        obtain ⟨-, o', ho, hc'⟩ := hr k e.symm
        rw [hk] at ho; cases ho; rw [hc] at hc'; cases hc')).trans hk
      have hrow : ∀ {e size n : Nat} {v : Value} {xs : List Value}, X.ownsRow Wc.heap.size e size v n xs → Y.ownsRow Wc.heap.size e size v n xs := fun {e size n v xs} h => ⟨h.1, h.2.imp id fun ⟨g, cap, cur, e1, hB, hg', r⟩ => ⟨g, cap, cur, e1, hB, hk hg' rfl, r⟩⟩
      exact ⟨hk h1 rfl, h2.place, h2.lt, ⟨Nat.le_trans h2.hist.le hg.size, hrow h2.hist.obj, hrow h2.hist.evs, h2.hist.apart⟩⟩
    have hcl : Hid (Wc.heap.size ≤ Wj.heap.size) := Hbj.out.size
    clear hWi hWj Hbi hsi Hxi hib
    refine (wpIn_wide (n := 10)).1 ?_
    apply rangeFunc_f (F := Fence.wide) (n := 10) rfl (by decide) (gf := 38) (lb := #[]) rfl trivial (enters_of Try.func38 (by kernel_rfl) rfl)
      (each_seq (10 - 1) (by decide) Wc.heap.size Wj hcl.out) (fun A B h => keeps_below h) (fun h k => h.trans k) ?hKb (Below.refl _ _) (fun _ => rfl)
      (fun (pre : List Item) W => Boxed W ib 3 (.int .i64 (pre.length : Int)) ∧ Boxed W pb 3 (.int .i64 (r : Int)) ∧ Below Wc.heap.size Wc W ∧ ∀ D ∈ Ds, W.heap[D]? = some (.deferred (some [])))
      (fun c (pre : List Item) W => c = .exit 2 ∧ r = 0 ∧ (pre.length : Int) = stop ∧ Boxed W ib 3 (.int .i64 (pre.length : Int)) ∧ Boxed W pb 3 (.int .i64 (r : Int)) ∧ Below Wc.heap.size Wc W ∧ ∀ D ∈ Ds, W.heap[D]? = some (.deferred (some [])))
      HI.out ?hIT ?hIx ⟨Hib.out, Hpb.out, Hbj.out, Hmk.out⟩ (fun pre x hb W => W.heap[hb]? = some (.cells #[voI x, vI x] 26) ∧ OkI Wc.heap.size pre x W) HBxo.out ?hKT
    case hKb =>
      intro W rr o h
      refine ⟨(Below.refl _ W).grown (grownBy_putObj' _ _ _) ?_ (fun k e => ?_), fun k cs hk => (World.putObj_heap_other (fun e => ?_)).trans hk⟩
      · have h1 := (Array.getElem?_eq_some_iff.1 h).1
        have := hcl.out
        omega
      · cases e
        have := hcl.out
        omega
      · subst e; rw [h] at hk; cases hk
    case hIT =>
      rintro s A Bw ⟨h1, h2, h3, h4⟩ hT
      exact ⟨kc_heap hT h1, kc_heap hT h2, h3.trans (hT.mono h3.size), fun D hD => kc_heap hT (h4 D hD)⟩
    case hIx =>
      rintro c s X Y row ⟨h1, h2, h3, h4⟩ hg hr
      exact ⟨h1, h2, h3, HI.out s X Y row h4 hg hr⟩
    case hKT =>
      rintro s A Bw ⟨h1, h2, h3, h4⟩ hT
      exact KpI.of_below hT h3.size
    case hassign =>
      intro l pre x W K hok hK
      obtain ⟨hb, hhb⟩ : ∃ hb, W.heap.size = hb := ⟨_, rfl⟩
      obtain ⟨W5, hW5, Hb5, hs5, Hx5⟩ := cells_new W #[voI x, vI x] 26
      have hhb5 := Lib.hid hhb
      rw [hhb] at Hx5
      obtain ⟨x0, x1⟩ := row_two Hx5.out
      have hOk : OkI Wc.heap.size pre x W5 := ⟨hok.place, hok.lt, hok.hist.below Hb5.out⟩
      gi_wp2
      exact hK hb _ Hb5.out ⟨Hx5.out, hOk⟩
    case hbody =>
      rintro l pre ⟨k0, ⟨oa, oc⟩, ea, ec⟩ hb Wx ⟨hi', hp', hb', hm'⟩ ⟨hx9, hpl, hk4, hh⟩ hlt
      obtain ⟨k, hk⟩ : ∃ k, pre.length = k := ⟨_, rfl⟩
      obtain rfl : k0 = k := hpl.trans hk
      have Hk := Lib.hid hk
      rw [hk] at hi'
      replace hk4 : k0 < 4 := hk4
      obtain ⟨g, c, cs, he, hgB, hg, hgs⟩ := evs_row hh.evs (posK k0 hk4)
      obtain rfl : ea = some ⟨g, 0, none⟩ := by cases he; rfl
      obtain rfl : ec = c := by cases he; rfl
      have Hx9 : Hid (Wx.heap[hb]? = some (.cells #[.slice oa (noK k0) oc, .slice (some ⟨g, 0, none⟩) (mK k0) ec] 26)) := hx9
      have Hh : Hid (HistAt Wc.heap.size (.slice oa (noK k0) oc) (.slice (some ⟨g, 0, none⟩) (mK k0) ec) (noK k0) (mK k0) (OK k0) (FK k0) Wx) := hh
      have Hg := Lib.hid hg
      have Hi := Lib.hid hi'
      have Hp := Lib.hid hp'
      have HbW := Lib.hid hb'
      have Hm := Lib.hid hm'
      have Hs : Hid (noK k0 ≤ 100000 ∧ mK k0 ≤ 100000) := ⟨by have := (smallK k0 hk4).1; omega, by have := (smallK k0 hk4).2; omega⟩
      have HD := Lib.hid (dget_any (namedK k0 hk4) Wx)
      have c5 : Wx.cell? ⟨w3.heap.size, 0, none⟩ = some (.slice (some ⟨w1.heap.size, 0, none⟩) 4 4) := (show Boxed Wx w3.heap.size 32 _ from kc_heap' HbW.out J2.out l2).cell
      have cN : Wx.cell? ⟨w1.heap.size, k0, none⟩ = some (.string (nmK k0)) := names_at (kc_heap' HbW.out J3.out l3) hk4
      have c7 := Hi.out.cell
      obtain ⟨y0, y1⟩ := row_two Hx9.out
      have hd1 : decide ((4 : Int) ≤ (k0 : Int)) = false := by simp; omega
      have Hgs := Lib.hid hgs
      have Hk4 := Lib.hid hk4
      clear hpl hk hi' hx9 hh hg hp' hb' hm' he hgs hk4
      generalize nmK k0 = nm at *
      generalize hno : noK k0 = no at *
      generalize hmk : mK k0 = m at *
      generalize hO : OK k0 = O at *
      generalize hF : FK k0 = Fk at *
      clear hno hmk hO hF
      have hk4n : k0 < 4 := Hk4.out
      gi_wp2_with (first
        | (refine ⟨trivial, ?_⟩; gi_at_call 8; refine (callsIn_wide.2 HD.out).mono ?_; rintro e w4 ⟨vo, v, rfl, h4⟩
           obtain ⟨ao, co, rfl, -, -⟩ := row_sl h4.out.1.obj
           obtain ⟨ae, ce, rfl, -, -⟩ := row_sl h4.out.1.evs
           obtain ⟨W4, hW4, Hb4, hs4, Hx4⟩ := cells_new w4 #[.slice ao no co, .slice ae m ce] 26
           have L4 : Hid (Below Wx.heap.size Wx W4) := stepB h4.out.2 Hb4.out
           obtain ⟨z0, z1⟩ := row_two (kc_heap L4.out Hx9.out)
           obtain ⟨z2, z3⟩ := row_two Hx4.out
           have HA := Lib.hid (shist_at (w := W4) Hs.out.1 Hs.out.2 (Hh.out.below L4.out) (h4.out.1.below Hb4.out)))
        | (refine ⟨trivial, ?_⟩; gi_at_call 13; refine (callsIn_wide.2 HA.out).mono ?_; rintro e w5 ⟨rfl, h5⟩
           have L5 : Hid (Below Wx.heap.size Wx w5) := stepB L4.out h5.out
           have G5 := Lib.hid (kc_heap L5.out Hg.out)
           have X5 := Lib.hid (kc_heap L5.out Hx9.out)
           have I5 := Lib.hid (kc_heap L5.out Hi.out)
           have P5 := Lib.hid (kc_heap L5.out Hp.out)))
      clear c5 cN c7 y0 y1 z0 z1 z2 z3 hd1
      clear hk4n
      have hm5 := Hs.out.2
      gi_loopw [12] (fun i wx => ∃ j : Nat, j ≤ m ∧ i = .int .i64 j ∧ Hid (OneW g w5 wx)) (fun i _ => m - (intOf i).toNat)
      case atStart => exact ⟨0, Nat.zero_le _, rfl, OneW.refl _ _⟩
      case round =>
        obtain ⟨j, hj, rfl, HO⟩ := hrel
        have hbg := ne_of_type X5.out G5.out (by decide)
        obtain ⟨-, q1⟩ := row_two ((HO.out.other hb hbg).trans X5.out)
        by_cases hlj : j < m
        · obtain ⟨⟨u, hu⟩, hf⟩ := HO.out.cell (o := j * 8 + 1) G5.out (by have := Hgs.out; omega)
          have HNEW : Hid (OneW g w5 (wr.setCell ⟨g, j * 8 + 1, none⟩ (.int .i64 (-9)))) := HO.out.set _ _
          clear HO hbg
          gi_wp2
          go_roundw
          case rel => exact ⟨j + 1, by omega, by go_num, HNEW.out⟩
          case measure => simp [intOf]; omega
        · have hig := ne_of_type I5.out G5.out (by decide)
          have I6 : Hid (Boxed wr ib 3 (.int .i64 (k0 : Int))) := (HO.out.other ib hig).trans I5.out
          have P6 : Hid (Boxed wr pb 3 (.int .i64 (r : Int))) := (HO.out.other pb (ne_of_type P5.out G5.out (by decide))).trans P5.out
          have B6 : Hid (Below Wc.heap.size Wx wr) := (L5.out.mono HbW.out.size).trans (HO.out.below hgB)
          have C6 : Hid (Below Wc.heap.size Wc wr) := HbW.out.trans B6.out
          have K6 : Hid (KeepsOthers Wx wr) := (keeps_below L5.out).trans (HO.out.keeps G5.out)
          have T6 : Hid (∀ (i : Nat) (cs : Array Value), Wx.heap[i]? = some (.cells cs 9) → wr.heap[i]? = some (.cells cs 9)) := fun i cs' h => by
            have h5 := kc_heap L5.out h
            exact (HO.out.other i (ne_of_type h5 G5.out (by decide))).trans h5
          have c7 := I6.out.cell
          have f7 := I6.out.frozen
          obtain ⟨Wz, hWz⟩ : ∃ Wz, wr.setCell ⟨ib, 0, none⟩ (.int .i64 ((k0 : Int) + 1)) = Wz := ⟨_, rfl⟩
          have I7 : Hid (Boxed Wz ib 3 (.int .i64 ((k0 : Int) + 1))) := by
            show _ = _
            rw [← hWz]; exact heap_setCell_same wr ib 0 _ _ _ I6.out
          have P7 : Hid (Boxed Wz pb 3 (.int .i64 (r : Int))) := by
            show _ = _
            rw [← hWz]; exact keepS (by omega) P6.out
          have B7 : Hid (Below Wc.heap.size Wx Wz) := by
            show Below _ _ _
            rw [← hWz]; exact B6.out.setCell (p := ⟨ib, 0, none⟩) hBr _
          have HF : Hid (KeepsOthers Wx Wz ∧ KpI Wc.heap.size Wx Wz ∧ Boxed Wz ib 3 (.int .i64 ((pre ++ [((k0, (oa, oc), (some ⟨g, 0, none⟩, ec)) : Item)]).length : Int)) ∧ Boxed Wz pb 3 (.int .i64 (r : Int)) ∧ Below Wc.heap.size Wc Wz ∧ ∀ D ∈ Ds, Wz.heap[D]? = some (.deferred (some []))) := by
            have hkz : KeepsOthers wr Wz := by rw [← hWz]; exact KeepsOthers.setCell wr ⟨ib, 0, none⟩ (.int .i64 ((k0 : Int) + 1))
            have hk := K6.out.trans hkz
            refine ⟨hk, ⟨B7.out, fun i cs' h => ?_⟩, ?_, P7.out, HbW.out.trans B7.out, fun D hD => hk.same D _ (Hm.out D hD) rfl⟩
            · rw [← hWz]
              have h6 := T6.out i cs' h
              exact keepS (ne_of_type I6.out h6 (by decide)) h6
            · rw [List.length_append, Hk.out]; exact I7.out
          have Hlen : Hid (((pre ++ [((k0, (oa, oc), (some ⟨g, 0, none⟩, ec)) : Item)]).length : Int) = (k0 : Int) + 1) := by
            show _ = _
            rw [List.length_append, Hk.out]; rfl
          have c8 := I7.out.cell
          have c9 := P7.out.cell
          have c1 : Wz.cell? ⟨w.heap.size, 0, none⟩ = some (.int .i64 stop) := (show Boxed Wz w.heap.size 3 _ from kc_heap' (HbW.out.trans B7.out) J0.out l0).cell
          clear HO hbg hig hj
          have hk4n : k0 < 4 := Hk4.out
          by_cases hr0 : r = 0
          · have hz : ((r : Int) == 0) = true := by rw [hr0]; rfl
            by_cases hst : (k0 : Int) + 1 = stop
            · have hs1 : (((k0 : Int) + 1) == stop) = true := by rw [hst]; simp
              have Hst := Lib.hid hst
              have Hr0 := Lib.hid hr0
              clear hst hr0
              gi_wp2
              exact ⟨HF.out.1, rfl, Hr0.out, Hlen.out.trans Hst.out, HF.out.2.2⟩
            · have hs1 : (((k0 : Int) + 1) == stop) = false := by simpa using hst
              clear hst hr0
              gi_wp2
              exact HF.out
          · have hz : ((r : Int) == 0) = false := by simp; omega
            clear hr0
            gi_wp2
            exact HF.out
    case hdone =>
      rintro D ys W hD hys ⟨hi', hp', hb', hm'⟩ hK
      rw [hys] at hi'
      have c10 := hi'.cell
      have c9 := hp'.cell
      have c5 : W.cell? ⟨w3.heap.size, 0, none⟩ = some (.slice (some ⟨w1.heap.size, 0, none⟩) 4 4) := (show Boxed W w3.heap.size 32 _ from kc_heap' hb' J2.out l2).cell
      have HbW := Lib.hid hb'
      have HmW := Lib.hid hm'
      have HKd := Lib.hid hK
      have HD := Lib.hid hD
      clear hi' hp' hb' hm' hK hD hys
      go_wp2
      have HW : ∀ W7, W7 = W.alloc (.cells #[.int .i64 ((r : Int) + 1)] 3) → Hid (LMRel Wc.heap.size Wc W.heap.size ((r + 1 : Nat) : Int) (D :: Ds) W7) := by
        rintro W7 rfl
        have hsW : Wc.heap.size ≤ W.heap.size := HbW.out.size
        refine ⟨HbW.out.alloc hsW _, ?_, hsW, ?_, ?_, ?_⟩
        · have := Boxed.new W 3 (.int .i64 ((r : Int) + 1))
          simpa using this
        · intro D' hD'
          rcases List.mem_cons.1 hD' with rfl | hD'
          · exact keepA _ HKd.out
          · exact keepA _ (HmW.out D' hD')
        · refine List.nodup_cons.2 ⟨fun hD' => ?_, HM.out.nd⟩
          have h1 := (Array.getElem?_eq_some_iff.1 (Hmk.out D hD')).1
          have h2 := HD.out
          omega
        · intro D' hD'
          rcases List.mem_cons.1 hD' with rfl | hD'
          · have h2 := HD.out
            have h3 := hcl.out
            omega
          · exact HM.out.ge D' hD'
      refine Handed.intro (gk - 1) (by have := Hrk.out; omega) (hJ _ _ _ ?_)
      exact ⟨_, D :: Ds, _, _, _, _, _, _, _, _, _, _, _, _, _, _, _, _, _, _, _, _, _, _, _, _, _, _, _, _, _, _, _, _, _, _, _, _, _, _, _, _, _, _, _, _, _, _, _, _, _, _, _, _, _, _, _, _, _, _, _, _, _, _, _, _, _, _, _, _, _, _, ⟨r + 1, by have := Hrk.out; omega, HW _ rfl⟩, rfl⟩
    case hstop =>
      rintro D c pre W hD hSp ⟨rfl, hr0, hst, hi', hp', hb', hm'⟩ hK
      refine wpIn_wide.2 ?_
      have c10 := hi'.cell
      have c9 : W.cell? ⟨pb, 0, none⟩ = some (.int .i64 0) := by have := hp'.cell; rw [hr0] at this; exact this
      have c5 : W.cell? ⟨w3.heap.size, 0, none⟩ = some (.slice (some ⟨w1.heap.size, 0, none⟩) 4 4) := (show Boxed W w3.heap.size 32 _ from kc_heap' hb' J2.out l2).cell
      have c1 : W.cell? ⟨w.heap.size, 0, none⟩ = some (.int .i64 (pre.length : Int)) := by rw [hst]; exact (show Boxed W w.heap.size 3 _ from kc_heap' hb' J0.out l0).cell
      have HbW := Lib.hid hb'
      have HmW := Lib.hid hm'
      have HKd := Lib.hid hK
      have HD := Lib.hid hD
      have Hr0 := Lib.hid hr0
      clear hi' hp' hb' hm' hK hD hr0 hst hSp
      generalize pre.length = p at *
      go_wp2
      all_goals
        have HW : ∀ W7, W7 = W.alloc (.cells #[.int .i64 1] 3) → Hid (LMRel Wc.heap.size Wc W.heap.size ((r + 1 : Nat) : Int) (D :: Ds) W7) := by
          rintro W7 rfl
          have hsW : Wc.heap.size ≤ W.heap.size := HbW.out.size
          refine ⟨HbW.out.alloc hsW _, ?_, hsW, ?_, ?_, ?_⟩
          · have := Boxed.new W 3 (.int .i64 1)
            rw [Hr0.out]; exact this
          · intro D' hD'
            rcases List.mem_cons.1 hD' with rfl | hD'
            · exact keepA _ HKd.out
            · exact keepA _ (HmW.out D' hD')
          · refine List.nodup_cons.2 ⟨fun hD' => ?_, HM.out.nd⟩
            have h1 := (Array.getElem?_eq_some_iff.1 (Hmk.out D hD')).1
            have h2 := HD.out
            omega
          · intro D' hD'
            rcases List.mem_cons.1 hD' with rfl | hD'
            · have h2 := HD.out
              have h3 := hcl.out
              omega
            · exact HM.out.ge D' hD'
        refine Handed.intro (gk - 1) (by have := Hrk.out; omega) (hJ _ _ _ ?_)
        exact ⟨_, D :: Ds, _, _, _, _, _, _, _, _, _, _, _, _, _, _, _, _, _, _, _, _, _, _, _, _, _, _, _, _, _, _, _, _, _, _, _, _, _, _, _, _, _, _, _, _, _, _, _, _, _, _, _, _, _, _, _, _, _, _, _, _, _, _, _, _, _, _, _, _, _, _, ⟨r + 1, by have := Hrk.out; omega, HW _ rfl⟩, rfl⟩
  · have hr22 : r = 2 := by have := Hrk.out; omega
    have cp : wr.cell? ⟨pb, 0, none⟩ = some (.int .i64 2) := by have := HM.out.pc.cell; rw [hr22] at this; exact this
    have HC := Lib.hid HM.out.below
    have HLw : Hid (Below w.heap.size w wr) := stepB DL.out HC.out
    have Hc1 : Hid (wr.heap[Wa.heap.size]? = some (.cells #[.bool false] 4)) := kc_heap' HC.out J1.out l1
    clear hr22 hr2
    go_wp2_with (first
      | (go_at_call 17; (with_reducible refine (caught_any wr).mono ?_); rintro e w6 ⟨q, v0, v1, v2, v3, vt, vs, rfl, h6⟩
         obtain ⟨tg, tc, rfl, -, -⟩ := row_cell h6.out.1.ts (by simp)
         obtain ⟨sa, sc, rfl, sl1, -⟩ := row_sl h6.out.2.1
         obtain ⟨X5, hX5, Hb5, hs5, Hx5⟩ := cells_new w6 #[.slice (some ⟨q, 0, none⟩) 2 2, .slice (some ⟨tg, 0, none⟩) 2 tc] 45
         have A5 := Lib.hid (h6.out.1.below Hb5.out)
         have S5 := Lib.hid (sl1.below Hb5.out)
         have L5 : Hid (Below wr.heap.size wr X5) := stepB h6.out.2.2 Hb5.out
         have K5 := Lib.hid (Below.refl X5.heap.size X5)
         clear sl1)
      | (go_at_call 18; (with_reducible refine (dcaught_any X5).mono ?_); rintro e w7 ⟨q', v0', v1', v2', v3', vt', vs', rfl, h7⟩
         obtain ⟨tg', tc', rfl, -, -⟩ := row_cell h7.out.1.ts (by simp)
         obtain ⟨sa', sc', rfl, sl2, -⟩ := row_sl h7.out.2.1
         obtain ⟨X6, hX6, Hb6, hs6, Hx6⟩ := cells_new w7 #[.slice (some ⟨q', 0, none⟩) 2 2, .slice (some ⟨tg', 0, none⟩) 2 tc'] 45
         have A6 := Lib.hid (h7.out.1.below Hb6.out)
         have S6 := Lib.hid (sl2.below Hb6.out)
         clear sl2
         replace K5 := Lib.hid (stepB (stepB K5.out h7.out.2.2) Hb6.out)
         have P := Lib.hid (Below.refl X6.heap.size X6)
         have A5 := Lib.hid (A5.out.below K5.out)
         have S5 := Lib.hid (S5.out.below K5.out)
         obtain ⟨f1, f2⟩ := row_two (keepB K5.out Hx5.out)
         obtain ⟨f3, f4⟩ := row_two Hx6.out)
      | (go_at_call 19; (with_reducible refine (sprog_eq A5.out A6.out).mono ?_); rintro e w10 ⟨rfl, h10⟩
         replace P : Hid (Below X6.heap.size X6 w10) := stepB P.out h10.out
         clear f1 f2 f3 f4)
      | (go_at_call 20; (with_reducible refine (sints_eq sa sa' sc sc' 13 sched rfl (by decide) w10 (S5.out.below P.out) (S6.out.below P.out)).mono ?_); rintro e w11 ⟨rfl, h11⟩
         replace P : Hid (Below X6.heap.size X6 w11) := stepB P.out h11.out
         have LE : Hid (Below wr.heap.size wr w11) := stepB (stepB L5.out K5.out) P.out
         have Hc2 := Lib.hid (keepB LE.out Hc1.out)
         have c2 : w11.cell? ⟨Wa.heap.size, 0, none⟩ = some (.bool false) := (show Boxed w11 Wa.heap.size 4 _ from Hc2.out).cell
         have f2 : w11.frozen? ⟨Wa.heap.size, 0, none⟩ = false := (show Boxed w11 Wa.heap.size 4 _ from Hc2.out).frozen))
    have hs8 := (stepB HLw.out LE.out).size
    have hBw : Wc.heap.size ≤ wr.heap.size := HC.out.size
    refine leave4D w.heap.size Wa.heap.size true Ds rfl rfl HM.out.nd (fun D hD => ?_) (fun D hD => by have := HM.out.ge D hD; omega) (by simp; omega) (World.cell?_setCell_same' _ _ _ (by rw [c2]; rfl)) (fun w' h' => ⟨rfl, ?_⟩)
    · have h1 := HM.out.mks D hD
      exact (KeepsOthers.setCell w11 ⟨Wa.heap.size, 0, none⟩ (.bool true)).same D _ (keepB LE.out h1) rfl
    · show Below _ _ _
      exact ((stepB HLw.out LE.out).setCell (p := ⟨Wa.heap.size, 0, none⟩) l4 _).trans h'
end Go.Proofs.Ytdemoikadojepaa
