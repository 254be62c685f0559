/- The walk of the statement on each prefix. -/
import Derived.Test.YtfjjhjojcgacbaaDoorQb
import Derived.Test.YtfjjhjojcgacbaaDoorQo
import Derived.Deep.LoopGhost
namespace Go.Proofs.YtfjjhjojcgacbaaDoor
open Go.RowKit Go.Maps Go.WideMaps Go.WideElems Go.ChangeShapes Go.WideShapes
attribute [local go_sem] Oper.semAt_some
variable {T : TypeId} {er : Nat → Addr}

def calm (Q : Exit → Act → World → Prop) : Exit → Act → World → Prop
  | .panic _, _, _ => False
  | e, a, w => Q e a w
theorem res4 (tmps : Array Value) (w : World) (rb : Nat) (v : Bool) (hp : tmps.getD 4 undef = .pointer (some ⟨rb, 0, none⟩)) (hg : w.cell? ⟨rb, 0, none⟩ = some (.bool v)) :
    (results Tryd.f4 tmps).run Tryd.prog w = .ok (.bool v) w := by
  have hp' : tmps[4]?.getD undef = .pointer (some ⟨rb, 0, none⟩) := by simpa using hp
  have hu := Tryd.underlying4
  simp [results, hp', asAddr, loadVar, isAgg, underlying, hu, go_sem, hg]
def markD (D : Nat) : Deferred := { target := .collected D, args := #[] }
theorem leavesD4 {R : Ending → World → Prop} {tmps : Array Value} (B rb : Nat) (v : Bool) (hp : tmps.getD 4 undef = .pointer (some ⟨rb, 0, none⟩)) : ∀ (Ds : List Nat) (w : World), Ds.Nodup → (∀ D ∈ Ds, w.heap[D]? = some (.deferred (some []))) → (∀ D ∈ Ds, B ≤ D) → B ≤ w.heap.size →
    w.cell? ⟨rb, 0, none⟩ = some (.bool v) → (∀ w', Below B w w' → R (.returned (.bool v)) w') → LeavesInM Fence.wide 10 Tryd.prog Tryd.f4 tmps R (Ds.map markD) .returning w
  | [], w, _, _, _, _, hg, hR => ⟨_, res4 tmps w rb v hp hg, hR w (Below.refl _ _)⟩
  | D :: Ds, w, hn, hk, hb, hB, hg, hR => by
    have hK := hk D (List.mem_cons_self ..)
    have hn' := List.nodup_cons.1 hn
    refine ⟨by simp, .inl ⟨D, _, rfl, run_takeDeferred hK, ?_⟩⟩
    have hgr := grownBy_putObj' w D (.deferred none)
    have ho : Below B w (w.putObj D (.deferred none)) := (Below.refl B w).grown hgr hB (fun k e => by cases e; exact hb D (List.mem_cons_self ..))
    refine leavesD4 B rb v hp Ds _ hn'.2 (fun D' hD' => ?_) (fun D' hD' => hb D' (List.mem_cons_of_mem _ hD')) (Nat.le_trans hB ho.size) ?_ (fun w' h' => hR w' (ho.trans h'))
    · have h1 := hk D' (List.mem_cons_of_mem _ hD')
      exact (hgr.block D' (Array.getElem?_eq_some_iff.1 h1).1 (fun e => hn'.1 (by cases e; exact hD'))).trans h1
    · exact cell_kept hg hgr (fun r e => by cases e; exact ⟨_, hK, rfl⟩)
theorem leave4D {R : Ending → World → Prop} {a : Act} {w : World} (B rb : Nat) (v : Bool) (Ds : List Nat) (hd : a.defers = Ds.map markD) (hp : a.tmps.getD 4 undef = .pointer (some ⟨rb, 0, none⟩)) (hn : Ds.Nodup) (hk : ∀ D ∈ Ds, w.heap[D]? = some (.deferred (some []))) (hb : ∀ D ∈ Ds, B ≤ D) (hB : B ≤ w.heap.size)
    (hg : w.cell? ⟨rb, 0, none⟩ = some (.bool v)) (hR : ∀ w', Below B w w' → R (.returned (.bool v)) w') : bodyPostM Fence.wide 10 Tryd.prog Tryd.f4 R .ret a w := by
  show LeavesInM Fence.wide 10 Tryd.prog Tryd.f4 a.tmps R a.defers .returning w
  rw [hd]
  exact leavesD4 B rb v hp Ds w hn hk hb hB hg hR
theorem eq_nilfunc (fn : Fn) (x y : Array Value) (w : World) : (binOp .eql 43 (.func fn x y) .nilFunc).run Tryd.prog w = .ok (.bool false) w := by
  have hu : Tryd.prog.underlying 43 = _ := Tryd.underlying43
  have h : ∀ k, (Op.equalIn (k + 1) 43 (.func fn x y) .nilFunc).run Tryd.prog w = .ok false w := fun k => by
    simp only [Op.equalIn, Sem.run_bind, run_underlying hu, Result.andThen_ok, Sem.run_pure]
  simp only [binOp]
  simp [Op.equal, Op.maxDepth, h 9999]
theorem kc_heap {A B : World} {k : Nat} {x : Obj} (h : Below A.heap.size A B) (hk : A.heap[k]? = some x) : B.heap[k]? = some x := (h.block k (Array.getElem?_eq_some_iff.1 hk).1).trans hk
theorem kc_heap' {A B : World} {n k : Nat} {x : Obj} (h : Below n A B) (hk : A.heap[k]? = some x) (hl : k < n) : B.heap[k]? = some x := (h.block k hl).trans hk
/-- What holds while the prefixes are gone over: B is where the loop's own blocks begin. -/
structure LMRel (B : Nat) (W0 : World) (pb : Nat) (r : Int) (Ds : List Nat) (W : World) : Prop where
  below : Below B W0 W
  pc : Boxed W pb 3 (.int .i64 r)
  pbB : B ≤ pb
  mks : ∀ D ∈ Ds, W.heap[D]? = some (.deferred (some []))
  nd : Ds.Nodup
  ge : ∀ D ∈ Ds, B ≤ D

set_option maxHeartbeats 16000000 in
set_option maxRecDepth 100000 in
theorem eachLaw_any {a0 b0 : Option Addr} {n c0 m d0 : Nat} {os : List (Int × Int)} {es : List Ev} (stop : Int) (w : World) (hI : InH w a0 n c0 b0 m d0 os es) (hG : Glob 126 er w) (hsm : smallB n m = true) (hm6 : m ≤ 600) : Calls Tryd.prog 4 #[hv a0 n c0 b0 m d0, .int .i64 stop] w fun e w' => e = .returned (.bool true) ∧ Hid (Below w.heap.size w w') := by
  obtain ⟨W1, hW1, Hb1, hs1, Hx1⟩ := cells_new w #[.slice a0 n c0, .slice b0 m d0] 25
  obtain ⟨W2, hW2, Hb2, hs2, Hx2⟩ := cells_new W1 #[.int .i64 stop] 3
  obtain ⟨W3, hW3, Hb3, hs3, Hx3⟩ := cells_new W2 #[.bool false] 4
  have HB : Hid (Below w.heap.size w W3) := stepB (stepB Hb1.out Hb2.out) Hb3.out
  have HI := Lib.hid (hI.below HB.out)
  have HG := Lib.hid (hG.below' HB.out)
  have HH : Hid (W3.heap[w.heap.size]? = some (.cells #[.slice a0 n c0, .slice b0 m d0] 25)) := keepB Hb3.out (keepB Hb2.out Hx1.out)
  have HS := Lib.hid (fun V => small_any a0 b0 n c0 m d0 V)
  rw [hsm] at HS
  have HmE := Lib.hid hI.hm
  have hmI : (m : Int) ≤ 600 := by omega
  have hmI0 : (0 : Int) ≤ (m : Int) := by omega
  have hnf := fun fn x y w => eq_nilfunc fn x y w
  have Hst : Hid (W3.heap[W1.heap.size]? = some (.cells #[.int .i64 stop] 3)) := keepB Hb3.out Hx2.out
  have Hrs : Hid (W3.heap[W2.heap.size]? = some (.cells #[.bool false] 4)) := Hx3.out
  have Hsz : Hid (w.heap.size < W1.heap.size ∧ W1.heap.size < W2.heap.size ∧ W2.heap.size < W3.heap.size) := ⟨hs1.out, hs2.out, hs3.out⟩
  clear hI hG hsm Hb1 Hb2 Hb3 hs1 hs2 hs3 Hx1 Hx2 Hx3
  refine callsIn_wide.1 (callsIn_of_wp_marks (F := Fence.wide) (n := 10) Tryd.func4 rfl trivial (wpIn_wide.2 (Code.wp_mono (Q := calm (bodyPostM Fence.wide 10 Tryd.prog Tryd.f4 fun e w' => e = .returned (.bool true) ∧ Hid (Below w.heap.size w w'))) (fun e a w h => by cases e <;> first | exact h | exact h.elim) ?_)) rfl)
  simp only [Tryd.ntmps4, List.size_toArray, List.length_cons, List.length_nil, Nat.reduceAdd, Nat.reduceSub, Array.replicate_succ, Array.replicate_zero, List.push_toArray, List.append_toArray, List.nil_append, List.cons_append]
  go_wp2_with (first
    | (go_at_call 8; (with_reducible refine (first_any W3 HG.out).mono ?_); rintro e w1 ⟨rfl, S1⟩
       obtain ⟨l1a, l1b⟩ := row_two (keepB S1.out HH.out))
    | (go_at_call 9; (with_reducible refine (HS.out w1).mono ?_); rintro e w2 ⟨rfl, S2⟩
       obtain ⟨l2a, l2b⟩ := row_two (keepB (stepB S1.out S2.out) HH.out))
    | (go_at_call 23; (with_reducible refine (prefixes_h (HI.out.below (stepB S1.out S2.out))).mono ?_); rintro e w3 ⟨aq, cq, bq, dq, Q, rfl, K3⟩
       obtain ⟨Wd, hWd, Hbd, hsd, Hxd⟩ := cells_new w3 #[.int .i64 0] 3
       have d0' : Wd.cell? ⟨w3.heap.size, 0, none⟩ = some (.int .i64 0) := by simp [World.cell?, Hxd.out]
       have df := frozen_of_row _ _ 0 _ _ Hxd.out
       obtain ⟨We, hWe⟩ : ∃ We, Wd.setCell ⟨w3.heap.size, 0, none⟩ (.int .i64 0) = We := ⟨_, rfl⟩))
  have D1 : Hid (Below W3.heap.size W3 w3) := stepB (stepB S1.out S2.out) K3.out.2.2
  have DL : Hid (Below w.heap.size w w3) := stepB HB.out D1.out
  have J0 : Hid (w3.heap[w.heap.size]? = some (.cells #[.slice a0 n c0, .slice b0 m d0] 25)) := keepB D1.out HH.out
  have J1 : Hid (Boxed w3 W1.heap.size 3 (.int .i64 stop)) := keepB D1.out Hst.out
  have J2 : Hid (Boxed w3 W2.heap.size 4 (.bool false)) := keepB D1.out Hrs.out
  have HIw := Lib.hid (HI.out.below D1.out)
  have l0 : w.heap.size < w3.heap.size := (Array.getElem?_eq_some_iff.1 J0.out).1
  have l1 : W1.heap.size < w3.heap.size := J1.out.lt
  have l2 : W2.heap.size < w3.heap.size := J2.out.lt
  have l4 : w.heap.size ≤ W2.heap.size := by have := Hsz.out; omega
  have HM0 : Hid (LMRel w3.heap.size w3 w3.heap.size 0 [] We) := by
    refine ⟨?_, ?_, Nat.le_refl _, by simp, List.nodup_nil, by simp⟩
    · rw [← hWe]; exact Hbd.out.setCell (p := ⟨w3.heap.size, 0, none⟩) (Nat.le_refl _) _
    · rw [← hWe]; exact heap_setCell_same Wd w3.heap.size 0 _ _ _ Hxd.out
  have Hseq := Lib.hid (each_seq w3 Q aq n cq bq m dq os es K3.out.1 K3.out.2.1 (by omega) (10 - 1) (by decide))
  clear hW1 hW2 hW3 hWd hWe Hbd hsd Hxd d0' df S1 S2 K3 D1 HS HH Hst Hrs HI HG
  refine wp_loop_ghost_k (fun (k : Nat) (a' : Act) (W : World) => ∃ (pb : Nat) (Ds : List Nat) (u8 u9 u10 u26 u27 u28 u29 u30 u31 u32 u33 u34 u35 u36 u37 u38 u39 u40 u41 u42 u43 u44 u45 u46 u47 u48 u49 u50 u51 u52 u53 u54 u55 u56 u57 u58 u59 u60 u61 u62 u63 u64 u65 u66 u67 u68 u69 u70 u71 u72 u73 u74 u75 u76 : Value), (∃ r : Nat, r + k = 2 ∧ Hid (LMRel w3.heap.size w3 pb r Ds W)) ∧ a' = { tmps := #[hv a0 n c0 b0 m d0, .int .i64 stop, .pointer (some ⟨w.heap.size, 0, none⟩), .pointer (some ⟨W1.heap.size, 0, none⟩), .pointer (some ⟨W2.heap.size, 0, none⟩), .bool true, .func (.func 43) #[] #[.pointer (some ⟨Q, 0, none⟩)], .pointer (some ⟨pb, 0, none⟩), u8, u9, u10, .bool true, .bool true, .bool false, hv a0 n c0 b0 m d0, .bool true, .bool false, .bool false, .bool true, .bool false, .bool false, undef, hv a0 n c0 b0 m d0, .func (.func 43) #[] #[.pointer (some ⟨Q, 0, none⟩)], .func (.func 43) #[] #[.pointer (some ⟨Q, 0, none⟩)], .bool false, u26, u27, u28, u29, u30, u31, u32, u33, u34, u35, u36, u37, u38, u39, u40, u41, u42, u43, u44, u45, u46, u47, u48, u49, u50, u51, u52, u53, u54, u55, u56, u57, u58, u59, u60, u61, u62, u63, u64, u65, u66, u67, u68, u69, u70, u71, u72, u73, u74, u75, u76], defers := Ds.map markD }) 2 ⟨w3.heap.size, [], _, _, _, _, _, _, _, _, _, _, _, _, _, _, _, _, _, _, _, _, _, _, _, _, _, _, _, _, _, _, _, _, _, _, _, _, _, _, _, _, _, _, _, _, _, _, _, _, _, _, _, _, _, _, ⟨0, rfl, HM0.out⟩, rfl⟩ ?_
  intro gk a' wr hI J K hJ hK
  clear HM0
  obtain ⟨pb, hI⟩ := hI
  obtain ⟨Ds, hI⟩ := hI
  obtain ⟨u8, hI⟩ := hI
  obtain ⟨u9, hI⟩ := hI
  obtain ⟨u10, hI⟩ := hI
  obtain ⟨u26, hI⟩ := hI
  obtain ⟨u27, hI⟩ := hI
  obtain ⟨u28, hI⟩ := hI
  obtain ⟨u29, hI⟩ := hI
  obtain ⟨u30, hI⟩ := hI
  obtain ⟨u31, hI⟩ := hI
  obtain ⟨u32, hI⟩ := hI
  obtain ⟨u33, hI⟩ := hI
  obtain ⟨u34, hI⟩ := hI
  obtain ⟨u35, hI⟩ := hI
  obtain ⟨u36, hI⟩ := hI
  obtain ⟨u37, hI⟩ := hI
  obtain ⟨u38, hI⟩ := hI
  obtain ⟨u39, hI⟩ := hI
  obtain ⟨u40, hI⟩ := hI
  obtain ⟨u41, hI⟩ := hI
  obtain ⟨u42, hI⟩ := hI
  obtain ⟨u43, hI⟩ := hI
  obtain ⟨u44, hI⟩ := hI
  obtain ⟨u45, hI⟩ := hI
  obtain ⟨u46, hI⟩ := hI
  obtain ⟨u47, hI⟩ := hI
  obtain ⟨u48, hI⟩ := hI
  obtain ⟨u49, hI⟩ := hI
  obtain ⟨u50, hI⟩ := hI
  obtain ⟨u51, hI⟩ := hI
  obtain ⟨u52, hI⟩ := hI
  obtain ⟨u53, hI⟩ := hI
  obtain ⟨u54, hI⟩ := hI
  obtain ⟨u55, hI⟩ := hI
  obtain ⟨u56, hI⟩ := hI
  obtain ⟨u57, hI⟩ := hI
  obtain ⟨u58, hI⟩ := hI
  obtain ⟨u59, hI⟩ := hI
  obtain ⟨u60, hI⟩ := hI
  obtain ⟨u61, hI⟩ := hI
  obtain ⟨u62, hI⟩ := hI
  obtain ⟨u63, hI⟩ := hI
  obtain ⟨u64, hI⟩ := hI
  obtain ⟨u65, hI⟩ := hI
  obtain ⟨u66, hI⟩ := hI
  obtain ⟨u67, hI⟩ := hI
  obtain ⟨u68, hI⟩ := hI
  obtain ⟨u69, hI⟩ := hI
  obtain ⟨u70, hI⟩ := hI
  obtain ⟨u71, hI⟩ := hI
  obtain ⟨u72, hI⟩ := hI
  obtain ⟨u73, hI⟩ := hI
  obtain ⟨u74, hI⟩ := hI
  obtain ⟨u75, hI⟩ := hI
  obtain ⟨u76, hI⟩ := hI
  obtain ⟨⟨r, hrk, HM⟩, rfl⟩ := hI
  have Hrk := Lib.hid hrk
  clear hrk
  by_cases hr2 : r < 2
  · have cp := HM.out.pc.cell
    obtain ⟨Wi, hWi, Hbi, hsi, Hxi⟩ := cells_new wr #[.int .i64 0] 3
    have d0 : Wi.cell? ⟨wr.heap.size, 0, none⟩ = some (.int .i64 0) := by simp [World.cell?, Hxi.out]
    have df := frozen_of_row _ _ 0 _ _ Hxi.out
    obtain ⟨Wj, hWj⟩ : ∃ Wj, Wi.setCell ⟨wr.heap.size, 0, none⟩ (.int .i64 0) = Wj := ⟨_, rfl⟩
    go_wp2_with fail
    clear cp d0 df
    have hBr : w3.heap.size ≤ wr.heap.size := HM.out.below.size
    have Hij : Hid (Below wr.heap.size wr Wj) := by
      show Below _ _ _
      rw [← hWj]; exact Hbi.out.setCell (p := ⟨wr.heap.size, 0, none⟩) (Nat.le_refl _) _
    have Hbj : Hid (Below w3.heap.size w3 Wj) := HM.out.below.trans (Hij.out.mono hBr)
    have Hib : Hid (Boxed Wj wr.heap.size 3 (.int .i64 (([] : List Item).length : Int))) := by
      show _ = _
      rw [← hWj]; exact heap_setCell_same Wi wr.heap.size 0 _ _ _ Hxi.out
    have Hpb : Hid (Boxed Wj pb 3 (.int .i64 (r : Int))) := kc_heap Hij.out HM.out.pc
    have hpi : pb < wr.heap.size := HM.out.pc.lt
    have Hmk : Hid (∀ D ∈ Ds, Wj.heap[D]? = some (.deferred (some []))) := fun D hD => kc_heap Hij.out (HM.out.mks D hD)
    obtain ⟨ib, hib⟩ : ∃ ib, wr.heap.size = ib := ⟨_, rfl⟩
    rw [hib] at Hib hBr hpi ⊢
    have hpB := HM.out.pbB
    have hij : Hid (ib < Wj.heap.size) := Hib.out.lt
    have HIv : Hid (OwnFrom Wj.heap.size (fun (pre : List Item) W => Boxed W ib 3 (.int .i64 (pre.length : Int)) ∧ Boxed W pb 3 (.int .i64 (r : Int)) ∧ Below w3.heap.size w3 W ∧ ∀ D ∈ Ds, W.heap[D]? = some (.deferred (some [])))) := by
      show OwnFrom _ _
      refine OwnFrom.and (Own.from (boxed_own _ _ _) _) (OwnFrom.and (Own.from (boxed_own _ _ _) _) (OwnFrom.and (ownFrom_below (Nat.le_refl _) Hbj.out.size) ?_))
      intro s X Y row hs hg hr D hD
      refine (hg.block D (Array.getElem?_eq_some_iff.1 (hs D hD)).1 (fun e => ?_)).trans (hs D hD)
      have h1 := (hr D e.symm).1
      have h2 := (Array.getElem?_eq_some_iff.1 (Hmk.out D hD)).1
      omega
    have HBxo : Hid (∀ (pre : List Item) (x : Item) (hb : Nat), OwnFrom Wj.heap.size (fun (_ : Unit) W => W.heap[hb]? = some (.cells #[.slice x.2.1.1 n x.2.1.2, .slice x.2.2.1 x.1 x.2.2.2] 25) ∧ OkI n m os es pre x W)) := by
      intro pre x hb _ X Y row ⟨h1, h2⟩ hg hr
      have hk : ∀ {k : Nat} {o : Obj}, X.heap[k]? = some o → o.isCells = true → Y.heap[k]? = some o := fun {k o} hk hc => (hg.block k (Array.getElem?_eq_some_iff.1 hk).1 (fun e => by
        obtain ⟨-, o', ho, hc'⟩ := hr k e.symm
        rw [hk] at ho; cases ho; rw [hc] at hc'; cases hc')).trans hk
      have hc : ∀ {b o : Nat} {v : Value}, X.cell? ⟨b, o, none⟩ = some v → Y.cell? ⟨b, o, none⟩ = some v := fun {b o v} hv => cell_kept hv hg (fun r' e => by obtain ⟨-, o', ho, hc'⟩ := hr r' (by simpa using e); exact ⟨_, ho, hc'⟩)
      have hsl : ∀ {a : Option Addr} {xs : List Value}, SlAt X a xs → SlAt Y a xs := fun {a xs} h => h.imp id fun ⟨b, off, e1, hl, h2⟩ => ⟨b, off, e1, fun e => Nat.lt_of_lt_of_le (hl e) hg.size, fun j u hj => hc (h2 j u hj)⟩
      exact ⟨hk h1 rfl, h2.place, h2.le, ⟨h2.inn.hn, h2.inn.hm, h2.inn.hc, h2.inn.hd, hsl h2.inn.so, hsl h2.inn.se, h2.inn.few⟩⟩
    have hcl : Hid (w3.heap.size ≤ Wj.heap.size) := Hbj.out.size
    clear hWi hWj Hbi hsi Hxi hib
    refine (wpIn_wide (n := 10)).1 ?_
    apply rangeFunc_f (F := Fence.wide) (n := 10) rfl (by decide) (gf := 43) (lb := #[.pointer (some ⟨Q, 0, none⟩)]) rfl trivial (enters_of Tryd.func43 (by kernel_rfl) rfl)
      Hseq.out (fun A B h => keeps_below h) (fun h k => h.trans k) ?hKb Hbj.out (fun _ => rfl)
      (fun (pre : List Item) W => Boxed W ib 3 (.int .i64 (pre.length : Int)) ∧ Boxed W pb 3 (.int .i64 (r : Int)) ∧ Below w3.heap.size w3 W ∧ ∀ D ∈ Ds, W.heap[D]? = some (.deferred (some [])))
      (fun c (pre : List Item) W => c = .exit 2 ∧ r = 0 ∧ (pre.length : Int) = stop ∧ Boxed W ib 3 (.int .i64 (pre.length : Int)) ∧ Boxed W pb 3 (.int .i64 (r : Int)) ∧ Below w3.heap.size w3 W ∧ ∀ D ∈ Ds, W.heap[D]? = some (.deferred (some [])))
      HIv.out ?hIT ?hIx ⟨Hib.out, Hpb.out, Hbj.out, Hmk.out⟩ (fun pre x hb W => W.heap[hb]? = some (.cells #[.slice x.2.1.1 n x.2.1.2, .slice x.2.2.1 x.1 x.2.2.2] 25) ∧ OkI n m os es pre x W) HBxo.out ?hKT
    case hKb =>
      intro W rr o h
      refine (Below.refl _ W).grown (grownBy_putObj' _ _ _) ?_ (fun k e => ?_)
      · have h1 := (Array.getElem?_eq_some_iff.1 h).1
        have := hcl.out
        omega
      · cases e
        have := hcl.out
        omega
    case hIT =>
      rintro s A Bw ⟨h1, h2, h3, h4⟩ hT
      exact ⟨kc_heap hT h1, kc_heap hT h2, h3.trans (hT.mono h3.size), fun D hD => kc_heap hT (h4 D hD)⟩
    case hIx =>
      rintro c s X Y row ⟨h1, h2, h3, h4⟩ hg hr
      exact ⟨h1, h2, h3, HIv.out s X Y row h4 hg hr⟩
    case hKT =>
      rintro s A Bw ⟨h1, h2, h3, h4⟩ hT
      exact hT.mono h3.size
    case hassign =>
      intro l pre x W K hok hK
      obtain ⟨hb, hhb⟩ : ∃ hb, W.heap.size = hb := ⟨_, rfl⟩
      obtain ⟨W5, hW5, Hb5, hs5, Hx5⟩ := cells_new W #[.slice x.2.1.1 n x.2.1.2, .slice x.2.2.1 x.1 x.2.2.2] 25
      have hhb5 := Lib.hid hhb
      rw [hhb] at Hx5
      obtain ⟨x0, x1⟩ := row_two Hx5.out
      have hOk : OkI n m os es pre x W5 := ⟨hok.place, hok.le, hok.inn.below Hb5.out⟩
      gi_wp2
      exact hK hb _ Hb5.out ⟨Hx5.out, hOk⟩
    case hbody =>
      rintro l pre ⟨k0, ⟨oa, oc⟩, ea, ec⟩ hb Wx ⟨hi', hp', hb', hm'⟩ ⟨hx9, hok⟩ hlt
      obtain ⟨k, hk⟩ : ∃ k, pre.length = k := ⟨_, rfl⟩
      obtain rfl : k0 = k := hok.place.trans hk
      have Hk := Lib.hid hk
      rw [hk] at hi'
      have hkm : k0 ≤ m := hok.le
      have Hx9 : Hid (Wx.heap[hb]? = some (.cells #[.slice oa n oc, .slice ea k0 ec] 25)) := hx9
      have Hin : Hid (InH Wx oa n oc ea k0 ec os (es.take k0)) := hok.inn
      have Hi := Lib.hid hi'
      have Hp := Lib.hid hp'
      have HbW := Lib.hid hb'
      have Hm := Lib.hid hm'
      have H0x : Hid (Wx.heap[w.heap.size]? = some (.cells #[.slice a0 n c0, .slice b0 m d0] 25)) := kc_heap' HbW.out J0.out l0
      have Hh : Hid (InH Wx a0 n c0 b0 m d0 os es) := HIw.out.below HbW.out
      have HX : Hid (∀ V, Below Wx.heap.size Wx V → V.cell? ⟨ib, 0, none⟩ = some (.int .i64 (k0 : Int)) ∧ (V.cell? ⟨w.heap.size, 0, none⟩ = some (.slice a0 n c0) ∧ V.cell? ⟨w.heap.size, 1, none⟩ = some (.slice b0 m d0)) ∧ (V.cell? ⟨hb, 0, none⟩ = some (.slice oa n oc) ∧ V.cell? ⟨hb, 1, none⟩ = some (.slice ea k0 ec))) := fun V hV => ⟨row_uno (keepB hV Hi.out), row_two (keepB hV H0x.out), row_two (keepB hV Hx9.out)⟩
      have HKx := Lib.hid (fun V (hV : Below Wx.heap.size Wx V) => rprefix_h (Hh.out.below hV) (k0 : Int) (es' := es.take k0) (m' := k0) (by rw [preN_of hkm]) (by rw [List.length_take, HmE.out]; omega))
      have R1 : Hid (sameB os os (es.take k0) (es.take k0) = true) := sameB_of rfl
      have hd1 : decide ((m : Int) < (k0 : Int)) = false := by simp; omega
      have hd3 : decide (m < k0) = false := decide_eq_false (by omega)
      have hd2 : ((k0 : Int) != (k0 : Int)) = false := by simp
      have hk0 : (0 : Int) ≤ (k0 : Int) := by omega
      have hk6 : (k0 : Int) ≤ 600 := by omega
      have BZ : Hid (Below Wx.heap.size Wx Wx.drew) := (Below.refl _ _).drew
      clear hk hx9 hok hi' hp' hb' hm' hlt
      gi_wp2
      refine wpIn_region_held (S := fun V => V.cell? ⟨ib, 0, none⟩ = some (.int .i64 (k0 : Int)) ∧ (V.cell? ⟨w.heap.size, 0, none⟩ = some (.slice a0 n c0) ∧ V.cell? ⟨w.heap.size, 1, none⟩ = some (.slice b0 m d0)) ∧ (V.cell? ⟨hb, 0, none⟩ = some (.slice oa n oc) ∧ V.cell? ⟨hb, 1, none⟩ = some (.slice ea k0 ec))) (by kernel_rfl) ?_
      refine heldIn_take 0 (some 33) ?_ (by kernel_rfl) rfl rfl (by kernel_rfl) (by kernel_rfl) (by kernel_rfl) (fun _ _ _ h => h) (by kernel_rfl) ?_ (fun _ _ _ => trivial) (HX.out _ BZ.out) ?_
      rotate_left
      · intro w hSw; (try dsimp only at hSw); go_simp <;> (try with_reducible rfl)
      simp only [Act.put, List.setIfInBounds_toArray, List.set_cons_zero, List.set_cons_succ]
      refine heldIn_take 1 (some 34) ?_ (by kernel_rfl) rfl rfl (by kernel_rfl) (by kernel_rfl) (by kernel_rfl) (fun _ _ _ h => h) (by kernel_rfl) ?_ (fun _ _ _ => trivial) (HX.out _ BZ.out) ?_
      rotate_left
      · intro w hSw; (try dsimp only at hSw); go_simp <;> (try with_reducible rfl)
      simp only [Act.put, List.setIfInBounds_toArray, List.set_cons_zero, List.set_cons_succ]
      refine heldIn_take 2 (some 35) ?_ (by kernel_rfl) rfl rfl (by kernel_rfl) (by kernel_rfl) (by kernel_rfl) (fun _ _ _ h => h) (by kernel_rfl) ?_ (fun _ _ _ => trivial) (HX.out _ BZ.out) ?_
      rotate_left
      · intro w hSw; (try dsimp only at hSw); go_simp <;> (try with_reducible rfl)
      simp only [Act.put, List.setIfInBounds_toArray, List.set_cons_zero, List.set_cons_succ]
      refine heldIn_take 3 (some 36) ?_ (by kernel_rfl) rfl rfl (by kernel_rfl) (by kernel_rfl) (by kernel_rfl) (fun _ _ _ h => h) (by kernel_rfl) ?_ (fun _ _ _ => trivial) (HX.out _ BZ.out) ?_
      rotate_left
      · intro w hSw; (try dsimp only at hSw); go_simp <;> (try with_reducible rfl)
      simp only [Act.put, List.setIfInBounds_toArray, List.set_cons_zero, List.set_cons_succ]
      refine heldIn_take 4 (some 37) ?_ (by kernel_rfl) rfl rfl (by kernel_rfl) (by kernel_rfl) (by kernel_rfl) (fun _ _ _ h => h) (by kernel_rfl) ?_ (fun _ _ _ => trivial) (HX.out _ BZ.out) ?_
      rotate_left
      · intro w hSw; (try dsimp only at hSw); go_simp <;> (try with_reducible rfl)
      simp only [Act.put, List.setIfInBounds_toArray, List.set_cons_zero, List.set_cons_succ]
      refine heldIn_take 5 (some 38) ?_ (by kernel_rfl) rfl rfl (by kernel_rfl) (by kernel_rfl) (by kernel_rfl) (fun _ _ _ h => h) (by kernel_rfl) ?_ (fun _ _ _ => trivial) (HX.out _ BZ.out) ?_
      rotate_left
      · intro w hSw; (try dsimp only at hSw); go_simp <;> (try with_reducible rfl)
      simp only [Act.put, List.setIfInBounds_toArray, List.set_cons_zero, List.set_cons_succ]
      refine heldIn_take 6 (some 39) ?_ (by kernel_rfl) rfl rfl (by kernel_rfl) (by kernel_rfl) (by kernel_rfl) (fun _ _ _ h => h) (by kernel_rfl) ?_ (fun _ _ _ => trivial) (HX.out _ BZ.out) ?_
      rotate_left
      · intro w hSw; (try dsimp only at hSw); go_simp <;> (try with_reducible rfl)
      simp only [Act.put, List.setIfInBounds_toArray, List.set_cons_zero, List.set_cons_succ]
      refine heldIn_take 7 (some 40) ?_ (by kernel_rfl) rfl rfl (by kernel_rfl) (by kernel_rfl) (by kernel_rfl) (fun _ _ _ h => h) (by kernel_rfl) ?_ (fun _ _ _ => trivial) (HX.out _ BZ.out) ?_
      rotate_left
      · intro w hSw; (try dsimp only at hSw); go_simp <;> (try with_reducible rfl)
      simp only [Act.put, List.setIfInBounds_toArray, List.set_cons_zero, List.set_cons_succ]
      refine heldIn_take 8 (some 41) ?_ (by kernel_rfl) rfl rfl (by kernel_rfl) (by kernel_rfl) (by kernel_rfl) (fun _ _ _ h => h) (by kernel_rfl) ?_ (fun _ _ _ => trivial) (HX.out _ BZ.out) ?_
      rotate_left
      · intro w hSw; (try dsimp only at hSw); go_simp <;> (try with_reducible rfl)
      simp only [Act.put, List.setIfInBounds_toArray, List.set_cons_zero, List.set_cons_succ]
      refine heldIn_take 9 (some 42) ?_ (by kernel_rfl) rfl rfl (by kernel_rfl) (by kernel_rfl) (by kernel_rfl) (fun _ _ _ h => h) (by kernel_rfl) ?_ (fun _ _ _ => trivial) (HX.out _ BZ.out) ?_
      rotate_left
      · intro w hSw; (try dsimp only at hSw); go_simp <;> (try with_reducible rfl)
      simp only [Act.put, List.setIfInBounds_toArray, List.set_cons_zero, List.set_cons_succ]
      refine heldIn_take 10 (some 43) ?_ (by kernel_rfl) rfl rfl (by kernel_rfl) (by kernel_rfl) (by kernel_rfl) (fun _ _ _ h => h) (by kernel_rfl) ?_ (fun _ _ _ => trivial) (HX.out _ BZ.out) ?_
      rotate_left
      · intro w hSw; (try dsimp only at hSw); go_simp <;> (try with_reducible rfl)
      simp only [Act.put, List.setIfInBounds_toArray, List.set_cons_zero, List.set_cons_succ]
      refine heldIn_take 11 (some 44) ?_ (by kernel_rfl) rfl rfl (by kernel_rfl) (by kernel_rfl) (by kernel_rfl) (fun _ _ _ h => h) (by kernel_rfl) ?_ (fun _ _ _ => trivial) (HX.out _ BZ.out) ?_
      rotate_left
      · intro w hSw; (try dsimp only at hSw); go_simp <;> (try with_reducible rfl)
      simp only [Act.put, List.setIfInBounds_toArray, List.set_cons_zero, List.set_cons_succ]
      refine heldIn_take 12 (some 45) ?_ (by kernel_rfl) rfl rfl (by kernel_rfl) (by kernel_rfl) (by kernel_rfl) (fun _ _ _ h => h) (by kernel_rfl) ?_ (fun _ _ _ => trivial) (HX.out _ BZ.out) ?_
      rotate_left
      · intro w hSw; (try dsimp only at hSw); go_simp <;> (try with_reducible rfl)
      simp only [Act.put, List.setIfInBounds_toArray, List.set_cons_zero, List.set_cons_succ]
      refine heldIn_take 13 (some 46) ?_ (by kernel_rfl) rfl rfl (by kernel_rfl) (by kernel_rfl) (by kernel_rfl) (fun _ _ _ h => h) (by kernel_rfl) ?_ (fun _ _ _ => trivial) (HX.out _ BZ.out) ?_
      rotate_left
      · intro w hSw; (try dsimp only at hSw); go_simp <;> (try with_reducible rfl)
      simp only [Act.put, List.setIfInBounds_toArray, List.set_cons_zero, List.set_cons_succ]
      refine heldIn_one 14 (by kernel_rfl) rfl (fun K hK => ?_)
      go_simp
      refine ⟨trivial, ?_⟩
      gi_at_call 14
      refine (CallsIn.inRound l (callsIn_wide.2 (HKx.out _ BZ.out))).mono ?_
      rintro e wq ⟨az, cz, bz, dz, rfl, hq⟩
      have Hin2 := Lib.hid (Hin.out.below (stepB BZ.out hq.out.2))
      have Hz := Lib.hid hq.out.1
      have BZ : Hid (Below Wx.heap.size Wx wq) := stepB BZ.out hq.out.2
      refine hK _ _ (HX.out _ BZ.out) ?_
      clear hK K
      try simp only [Act.put, List.setIfInBounds_toArray, List.set_cons_zero, List.set_cons_succ]
      refine heldIn_one 15 (by kernel_rfl) rfl (fun K hK => ?_)
      go_simp
      refine ⟨trivial, ?_⟩
      gi_at_call 12
      refine (CallsIn.inRound l (callsIn_wide.2 (same_h Hin2.out Hz.out R1.out))).mono ?_
      rintro e wq2 ⟨rfl, hq2⟩
      have BZ : Hid (Below Wx.heap.size Wx wq2) := stepB BZ.out hq2.out
      refine hK _ _ (HX.out _ BZ.out) ?_
      clear hK K
      try simp only [Act.put, List.setIfInBounds_toArray, List.set_cons_zero, List.set_cons_succ]
      refine heldIn_take 16 (some 49) ?_ (by kernel_rfl) rfl rfl (by kernel_rfl) (by kernel_rfl) (by kernel_rfl) (fun _ _ _ h => h) (by kernel_rfl) ?_ (fun _ _ _ => trivial) (HX.out _ BZ.out) ?_
      rotate_left
      · intro w hSw; (try dsimp only at hSw); go_simp <;> (try with_reducible rfl)
      simp only [Act.put, List.setIfInBounds_toArray, List.set_cons_zero, List.set_cons_succ]
      refine heldIn_take 17 (some 50) ?_ (by kernel_rfl) rfl rfl (by kernel_rfl) (by kernel_rfl) (by kernel_rfl) (fun _ _ _ h => h) (by kernel_rfl) ?_ (fun _ _ _ => trivial) (HX.out _ BZ.out) ?_
      rotate_left
      · intro w hSw; (try dsimp only at hSw); go_simp <;> (try with_reducible rfl)
      simp only [Act.put, List.setIfInBounds_toArray, List.set_cons_zero, List.set_cons_succ]
      refine heldIn_done (by kernel_rfl) ?_ _
      have I6 : Hid (Boxed wq2 ib 3 (.int .i64 (k0 : Int))) := keepB BZ.out Hi.out
      have P6 : Hid (Boxed wq2 pb 3 (.int .i64 (r : Int))) := keepB BZ.out Hp.out
      have c7 := I6.out.cell
      have f7 := I6.out.frozen
      obtain ⟨Wz, hWz⟩ : ∃ Wz, wq2.setCell ⟨ib, 0, none⟩ (.int .i64 ((k0 : Int) + 1)) = Wz := ⟨_, rfl⟩
      have I7 : Hid (Boxed Wz ib 3 (.int .i64 ((k0 : Int) + 1))) := by
        show _ = _
        rw [← hWz]; exact heap_setCell_same wq2 ib 0 _ _ _ I6.out
      have P7 : Hid (Boxed Wz pb 3 (.int .i64 (r : Int))) := by
        show _ = _
        rw [← hWz]; exact keepS (by omega) P6.out
      have B7 : Hid (Below w3.heap.size Wx Wz) := by
        show Below _ _ _
        rw [← hWz]; exact (BZ.out.mono HbW.out.size).setCell (p := ⟨ib, 0, none⟩) hBr _
      have HF : Hid (KeepsOthers Wx Wz ∧ Below w3.heap.size Wx Wz ∧ Boxed Wz ib 3 (.int .i64 ((pre ++ [((k0, (oa, oc), (ea, ec)) : Item)]).length : Int)) ∧ Boxed Wz pb 3 (.int .i64 (r : Int)) ∧ Below w3.heap.size w3 Wz ∧ ∀ D ∈ Ds, Wz.heap[D]? = some (.deferred (some []))) := by
        have hkz : KeepsOthers wq2 Wz := by rw [← hWz]; exact KeepsOthers.setCell wq2 ⟨ib, 0, none⟩ (.int .i64 ((k0 : Int) + 1))
        have hk := (keeps_below BZ.out).trans hkz
        refine ⟨hk, B7.out, ?_, P7.out, HbW.out.trans B7.out, fun D hD => hk.same D _ (Hm.out D hD) rfl⟩
        rw [List.length_append, Hk.out]; exact I7.out
      have Hlen : Hid (((pre ++ [((k0, (oa, oc), (ea, ec)) : Item)]).length : Int) = (k0 : Int) + 1) := by
        show _ = _
        rw [List.length_append, Hk.out]; rfl
      have c8 := I7.out.cell
      have c9 := P7.out.cell
      have c1 : Wz.cell? ⟨W1.heap.size, 0, none⟩ = some (.int .i64 stop) := (show Boxed Wz W1.heap.size 3 _ from kc_heap' (HbW.out.trans B7.out) J1.out l1).cell
      by_cases hr0 : r = 0
      · have hz : ((r : Int) == 0) = true := by rw [hr0]; rfl
        by_cases hst : (k0 : Int) + 1 = stop
        · have hs1 : (((k0 : Int) + 1) == stop) = true := by rw [hst]; simp
          have Hst := Lib.hid hst
          have Hr0 := Lib.hid hr0
          clear hst hr0
          gi_wp2
          exact ⟨HF.out.1, rfl, Hr0.out, Hlen.out.trans Hst.out, HF.out.2.2⟩
        · have hs1 : (((k0 : Int) + 1) == stop) = false := by simpa using hst
          clear hst hr0
          gi_wp2
          exact HF.out
      · have hz : ((r : Int) == 0) = false := by simp; omega
        clear hr0
        gi_wp2
        exact HF.out
    case hdone =>
      rintro D ys W hD hys ⟨hi', hp', hb', hm'⟩ hK
      rw [hys] at hi'
      have c10 := hi'.cell
      have c9 := hp'.cell
      obtain ⟨c5a, c5b⟩ := row_two (kc_heap' hb' J0.out l0)
      have hne : (((m + 1 : Nat) : Int) != (m : Int) + 1) = false := by simp
      have hne2 : (((m : Int) + 1) != (m : Int) + 1) = false := by simp
      have HbW := Lib.hid hb'
      have HmW := Lib.hid hm'
      have HKd := Lib.hid hK
      have HD := Lib.hid hD
      clear hi' hp' hb' hm' hK hD hys
      go_wp2
      all_goals
        have HW : ∀ W7, W7 = W.alloc (.cells #[.int .i64 ((r : Int) + 1)] 3) → Hid (LMRel w3.heap.size w3 W.heap.size ((r + 1 : Nat) : Int) (D :: Ds) W7) := by
          rintro W7 rfl
          have hsW : w3.heap.size ≤ W.heap.size := HbW.out.size
          refine ⟨HbW.out.alloc hsW _, ?_, hsW, ?_, ?_, ?_⟩
          · have := Boxed.new W 3 (.int .i64 ((r : Int) + 1))
            simpa using this
          · intro D' hD'
            rcases List.mem_cons.1 hD' with rfl | hD'
            · exact keepA _ HKd.out
            · exact keepA _ (HmW.out D' hD')
          · refine List.nodup_cons.2 ⟨fun hD' => ?_, HM.out.nd⟩
            have h1 := (Array.getElem?_eq_some_iff.1 (Hmk.out D hD')).1
            have h2 := HD.out
            omega
          · intro D' hD'
            rcases List.mem_cons.1 hD' with rfl | hD'
            · have h2 := HD.out
              have h3 := hcl.out
              omega
            · exact HM.out.ge D' hD'
        refine Handed.intro (gk - 1) (by have := Hrk.out; omega) (hJ _ _ _ ?_)
        exact ⟨_, D :: Ds, _, _, _, _, _, _, _, _, _, _, _, _, _, _, _, _, _, _, _, _, _, _, _, _, _, _, _, _, _, _, _, _, _, _, _, _, _, _, _, _, _, _, _, _, _, _, _, _, _, _, _, _, _, _, ⟨r + 1, by have := Hrk.out; omega, HW _ rfl⟩, rfl⟩
    case hstop =>
      rintro D c pre W hD hSp ⟨rfl, hr0, hst, hi', hp', hb', hm'⟩ hK
      refine wpIn_wide.2 ?_
      have c10 := hi'.cell
      have c9 : W.cell? ⟨pb, 0, none⟩ = some (.int .i64 0) := by have := hp'.cell; rw [hr0] at this; exact this
      obtain ⟨c5a, c5b⟩ := row_two (kc_heap' hb' J0.out l0)
      have c1 : W.cell? ⟨W1.heap.size, 0, none⟩ = some (.int .i64 (pre.length : Int)) := by rw [hst]; exact (show Boxed W W1.heap.size 3 _ from kc_heap' hb' J1.out l1).cell
      have HbW := Lib.hid hb'
      have HmW := Lib.hid hm'
      have HKd := Lib.hid hK
      have HD := Lib.hid hD
      have Hr0 := Lib.hid hr0
      clear hi' hp' hb' hm' hK hD hr0 hst hSp
      generalize pre.length = p at *
      go_wp2
      all_goals
        have HW : ∀ W7, W7 = W.alloc (.cells #[.int .i64 1] 3) → Hid (LMRel w3.heap.size w3 W.heap.size ((r + 1 : Nat) : Int) (D :: Ds) W7) := by
          rintro W7 rfl
          have hsW : w3.heap.size ≤ W.heap.size := HbW.out.size
          refine ⟨HbW.out.alloc hsW _, ?_, hsW, ?_, ?_, ?_⟩
          · have := Boxed.new W 3 (.int .i64 1)
            rw [Hr0.out]; exact this
          · intro D' hD'
            rcases List.mem_cons.1 hD' with rfl | hD'
            · exact keepA _ HKd.out
            · exact keepA _ (HmW.out D' hD')
          · refine List.nodup_cons.2 ⟨fun hD' => ?_, HM.out.nd⟩
            have h1 := (Array.getElem?_eq_some_iff.1 (Hmk.out D hD')).1
            have h2 := HD.out
            omega
          · intro D' hD'
            rcases List.mem_cons.1 hD' with rfl | hD'
            · have h2 := HD.out
              have h3 := hcl.out
              omega
            · exact HM.out.ge D' hD'
        refine Handed.intro (gk - 1) (by have := Hrk.out; omega) (hJ _ _ _ ?_)
        exact ⟨_, D :: Ds, _, _, _, _, _, _, _, _, _, _, _, _, _, _, _, _, _, _, _, _, _, _, _, _, _, _, _, _, _, _, _, _, _, _, _, _, _, _, _, _, _, _, _, _, _, _, _, _, _, _, _, _, _, _, ⟨r + 1, by have := Hrk.out; omega, HW _ rfl⟩, rfl⟩
  · have hr22 : r = 2 := by have := Hrk.out; omega
    have cp : wr.cell? ⟨pb, 0, none⟩ = some (.int .i64 2) := by have := HM.out.pc.cell; rw [hr22] at this; exact this
    have HC := Lib.hid HM.out.below
    have HLw : Hid (Below w.heap.size w wr) := stepB DL.out HC.out
    have Hc1 : Hid (wr.heap[W2.heap.size]? = some (.cells #[.bool false] 4)) := kc_heap' HC.out J2.out l2
    have c2 : wr.cell? ⟨W2.heap.size, 0, none⟩ = some (.bool false) := (show Boxed wr W2.heap.size 4 _ from Hc1.out).cell
    have f2 : wr.frozen? ⟨W2.heap.size, 0, none⟩ = false := (show Boxed wr W2.heap.size 4 _ from Hc1.out).frozen
    have hBw : w3.heap.size ≤ wr.heap.size := HC.out.size
    clear hr22 hr2
    go_wp2_with fail
    refine leave4D w.heap.size W2.heap.size true Ds rfl rfl HM.out.nd (fun D hD => ?_) (fun D hD => by have := HM.out.ge D hD; omega) (by simp; omega) (World.cell?_setCell_same' _ _ _ (by rw [c2]; rfl)) (fun w' h' => ⟨rfl, ?_⟩)
    · exact (KeepsOthers.setCell wr ⟨W2.heap.size, 0, none⟩ (.bool true)).same D _ (HM.out.mks D hD) rfl
    · show Below _ _ _
      exact (HLw.out.setCell (p := ⟨W2.heap.size, 0, none⟩) l4 _).trans h'

set_option maxHeartbeats 16000000 in
set_option maxRecDepth 100000 in
theorem each_big {a0 b0 : Option Addr} {n c0 m d0 : Nat} (stop : Int) (w : World) (hG : Glob 126 er w) (hsm : smallB n m = false) : Calls Tryd.prog 4 #[hv a0 n c0 b0 m d0, .int .i64 stop] w fun e w' => e = .returned (.bool true) ∧ Hid (Below w.heap.size w w') := by
  obtain ⟨W1, hW1, Hb1, hs1, Hx1⟩ := cells_new w #[.slice a0 n c0, .slice b0 m d0] 25
  obtain ⟨W2, hW2, Hb2, hs2, Hx2⟩ := cells_new W1 #[.int .i64 stop] 3
  obtain ⟨W3, hW3, Hb3, hs3, Hx3⟩ := cells_new W2 #[.bool false] 4
  have HB : Hid (Below w.heap.size w W3) := stepB (stepB Hb1.out Hb2.out) Hb3.out
  have HG := Lib.hid (hG.below' HB.out)
  have HH : Hid (W3.heap[w.heap.size]? = some (.cells #[.slice a0 n c0, .slice b0 m d0] 25)) := keepB Hb3.out (keepB Hb2.out Hx1.out)
  have HR : Hid (W3.heap[W2.heap.size]? = some (.cells #[.bool false] 4)) := Hx3.out
  have HS := Lib.hid (fun V => small_any a0 b0 n c0 m d0 V)
  have Hsz : Hid (w.heap.size ≤ W2.heap.size) := Nat.le_of_lt (Nat.lt_trans hs1.out hs2.out)
  rw [hsm] at HS
  clear hG Hb1 Hb2 Hb3 hs1 hs2 hs3 Hx1 Hx2 Hx3 hsm
  go_enter Tryd.func4, Tryd.ntmps4
  go_wp2_with (first
    | (go_at_call 8; (with_reducible refine (first_any W3 HG.out).mono ?_); rintro e w1 ⟨rfl, S1⟩
       obtain ⟨l1a, l1b⟩ := row_two (keepB S1.out HH.out))
    | (go_at_call 9; (with_reducible refine (HS.out w1).mono ?_); rintro e w2 ⟨rfl, S2⟩
       have B2 : Hid (Below W3.heap.size W3 w2) := stepB S1.out S2.out
       have c2 : w2.cell? ⟨W2.heap.size, 0, none⟩ = some (.bool false) := row_uno (keepB B2.out HR.out)
       have f2 : w2.frozen? ⟨W2.heap.size, 0, none⟩ = false := frozen_of_row _ _ 0 _ _ (keepB B2.out HR.out)))
  refine bodyPost_ret (v := .bool true) (res4 _ _ W2.heap.size true rfl (World.cell?_setCell_same' _ _ _ (by rw [c2]; rfl))) rfl ?_
  exact ⟨rfl, (stepB HB.out B2.out).setCell (p := ⟨W2.heap.size, 0, none⟩) Hsz.out _⟩
theorem each_all {a0 b0 : Option Addr} {n c0 m d0 : Nat} {os : List (Int × Int)} {es : List Ev} (stop : Int) (w : World) (h1 : os.length = n ∧ es.length = m) (h2 : n ≤ c0 ∧ m ≤ d0) (so : SlAt w a0 (obs os)) (se : SlAt w b0 (evs es)) (hG : Glob 126 er w) : Calls Tryd.prog 4 #[hv a0 n c0 b0 m d0, .int .i64 stop] w fun e w' => e = .returned (.bool true) ∧ Hid (Below w.heap.size w w') := by
  cases hsm : smallB n m with
  | false => exact each_big stop w hG hsm
  | true =>
    have hh := hsm
    unfold smallB at hh
    rw [Bool.and_eq_true, decide_eq_true_eq, decide_eq_true_eq] at hh
    exact eachLaw_any stop w ⟨h1.1, h1.2, h2.1, h2.2, so, se, by omega⟩ hG hsm hh.2
end Go.Proofs.YtfjjhjojcgacbaaDoor
