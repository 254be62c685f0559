/- The walk of the statement on lines. -/
import Derived.Test.YtaddpekjmboimaaDoorLr
import Derived.Test.YtaddpekjmboimaaDoorLk
import Derived.Deep.LoopGhost
namespace Go.Proofs.YtaddpekjmboimaaDoor
open Go.RowKit Go.Maps Go.WideMaps Go.WideElems Go.ChangeShapes Go.WideShapes
attribute [local go_sem] Oper.semAt_some

variable {T : TypeId} {e0 e1 e2 : Addr}

theorem res4 (tmps : Array Value) (w : World) (rb : Nat) (v : Bool) (hp : tmps.getD 4 undef = .pointer (some ⟨rb, 0, none⟩)) (hg : w.cell? ⟨rb, 0, none⟩ = some (.bool v)) :
    (results Tryd.f4 tmps).run Tryd.prog w = .ok (.bool v) w := by
  have hp' : tmps[4]?.getD undef = .pointer (some ⟨rb, 0, none⟩) := by simpa using hp
  have hu := Tryd.underlying4
  simp [results, hp', asAddr, loadVar, isAgg, underlying, hu, go_sem, hg]

/-- A mark that a loop over an iterator leaves among the deferred calls. -/
def markD (D : Nat) : Deferred := { target := .collected D, args := #[] }

theorem leavesD4 {R : Ending → World → Prop} {tmps : Array Value} (B rb : Nat) (v : Bool) (hp : tmps.getD 4 undef = .pointer (some ⟨rb, 0, none⟩)) : ∀ (Ds : List Nat) (w : World), Ds.Nodup → (∀ D ∈ Ds, w.heap[D]? = some (.deferred (some []))) → (∀ D ∈ Ds, B ≤ D) → B ≤ w.heap.size →
    w.cell? ⟨rb, 0, none⟩ = some (.bool v) → (∀ w', Below B w w' → R (.returned (.bool v)) w') → LeavesInM Fence.wide 10 Tryd.prog Tryd.f4 tmps R (Ds.map markD) .returning w
  | [], w, _, _, _, _, hg, hR => ⟨_, res4 tmps w rb v hp hg, hR w (Below.refl _ _)⟩
  | D :: Ds, w, hn, hk, hb, hB, hg, hR => by
    have hK := hk D (List.mem_cons_self ..)
    have hn' := List.nodup_cons.1 hn
    refine ⟨by simp, .inl ⟨D, _, rfl, run_takeDeferred hK, ?_⟩⟩
    have hgr := grownBy_putObj' w D (.deferred none)
    have ho : Below B w (w.putObj D (.deferred none)) := (Below.refl B w).grown hgr hB (fun k e => by cases e; exact hb D (List.mem_cons_self ..))
    refine leavesD4 B rb v hp Ds _ hn'.2 (fun D' hD' => ?_) (fun D' hD' => hb D' (List.mem_cons_of_mem _ hD')) (Nat.le_trans hB ho.size) ?_ (fun w' h' => hR w' (ho.trans h'))
    · have h1 := hk D' (List.mem_cons_of_mem _ hD')
      exact (hgr.block D' (Array.getElem?_eq_some_iff.1 h1).1 (fun e => hn'.1 (by cases e; exact hD'))).trans h1
    · exact cell_kept hg hgr (fun r e => by cases e; exact ⟨_, hK, rfl⟩)

theorem leave4D {R : Ending → World → Prop} {a : Act} {w : World} (B rb : Nat) (v : Bool) (Ds : List Nat) (hd : a.defers = Ds.map markD) (hp : a.tmps.getD 4 undef = .pointer (some ⟨rb, 0, none⟩)) (hn : Ds.Nodup) (hk : ∀ D ∈ Ds, w.heap[D]? = some (.deferred (some []))) (hb : ∀ D ∈ Ds, B ≤ D) (hB : B ≤ w.heap.size)
    (hg : w.cell? ⟨rb, 0, none⟩ = some (.bool v)) (hR : ∀ w', Below B w w' → R (.returned (.bool v)) w') : bodyPostM Fence.wide 10 Tryd.prog Tryd.f4 R .ret a w := by
  show LeavesInM Fence.wide 10 Tryd.prog Tryd.f4 a.tmps R a.defers .returning w
  rw [hd]
  exact leavesD4 B rb v hp Ds w hn hk hb hB hg hR

theorem eq_nilfunc (fn : Fn) (x y : Array Value) (w : World) : (binOp .eql 35 (.func fn x y) .nilFunc).run Tryd.prog w = .ok (.bool false) w := by
  have hu : Tryd.prog.underlying 35 = _ := Tryd.underlying35
  have h : ∀ k, (Op.equalIn (k + 1) 35 (.func fn x y) .nilFunc).run Tryd.prog w = .ok false w := fun k => by
    simp only [Op.equalIn, Sem.run_bind, run_underlying hu, Result.andThen_ok, Sem.run_pure]
  simp only [binOp]
  simp [Op.equal, Op.maxDepth, h 9999]

/-- What holds while the lines are gone over: B is where the loop's own blocks begin. -/
structure LMRel (B : Nat) (W0 : World) (pb : Nat) (r : Int) (Ds : List Nat) (W : World) : Prop where
  below : Below B W0 W
  pc : Boxed W pb 3 (.int .i64 r)
  pbB : B ≤ pb
  mks : ∀ D ∈ Ds, W.heap[D]? = some (.deferred (some []))
  nd : Ds.Nodup
  ge : ∀ D ∈ Ds, B ≤ D

set_option maxRecDepth 100000 in
set_option maxHeartbeats 4000000 in
theorem linesLaw_any (a : Option Addr) (c : Nat) (lb : List Nat) (stop : Int) (w : World) (hG : Glob T e0 e1 e2 w) (hb : BAt w a lb) (hlb : ∀ x ∈ lb, x < 256) (hm : lb.length ≤ 9223372036854775807) (hcap : lb.length ≤ c) :
    Calls Tryd.prog 4 #[.slice a lb.length c, .int .i64 stop] w fun e w' => e = .returned (.bool true) ∧ Hid (Below w.heap.size w w') := by
  obtain ⟨tb, htb⟩ : ∃ tb, tb = w.heap.size := ⟨_, rfl⟩
  obtain ⟨w1, hw1⟩ : ∃ w1, w1 = (w.alloc (.cells #[.int .i64 stop] 3)).alloc (.cells #[.bool false] 4) := ⟨_, rfl⟩
  have hs1 : w1.heap.size = tb + 2 := by rw [hw1, htb]; simp
  have hB1 : Below tb w w1 := by rw [hw1]; exact ((Below.refl tb w).alloc (by omega) _).alloc (by simp; omega) _
  have b0 : Boxed w1 tb 3 (.int .i64 stop) := by rw [hw1, htb]; exact (Boxed.new w 3 _).alloc _
  have b1 : Boxed w1 (tb + 1) 4 (.bool false) := by
    have := Boxed.new (w.alloc (.cells #[.int .i64 stop] 3)) 4 (.bool false)
    rw [World.size_alloc, ← hw1, ← htb] at this; exact this
  have Hf := Lib.hid (first_any w1 ((hG.below hB1 (by have := hG.size; omega))))
  have HG := Lib.hid hG
  have HB := Lib.hid hb
  have Hlb := Lib.hid hlb
  have Htb := Lib.hid htb
  have HB1 := Lib.hid hB1
  have Hs1 := Lib.hid hs1
  have Hb0 := Lib.hid b0
  have Hb1 := Lib.hid b1
  have Hw1 := Lib.hid hw1
  clear hG hb hlb htb hB1 hs1 b0 b1 hw1
  refine callsIn_wide.1 (callsIn_of_wp_marks (F := Fence.wide) (n := 10) Tryd.func4 rfl trivial (wpIn_wide.2 (Code.wp_mono (Q := calm (bodyPostM Fence.wide 10 Tryd.prog Tryd.f4 fun e w' => e = .returned (.bool true) ∧ Hid (Below w.heap.size w w'))) (fun e a w h => by cases e <;> first | exact h | exact h.elim) ?_)) rfl)
  simp only [Tryd.ntmps4, List.size_toArray, List.length_cons, List.length_nil, Nat.reduceAdd, Nat.reduceSub, Array.replicate_succ, Array.replicate_zero, List.push_toArray, List.append_toArray, List.nil_append, List.cons_append]
  go_wp2_with fail
  rw [← Hw1.out, ← Htb.out]
  refine Hf.out.mono ?_
  rintro e w2 ⟨rfl, h2⟩
  have H2 : Hid (Below tb w w2) := HB1.out.trans (h2.out.mono (by rw [Hs1.out]; omega))
  have G0 : Hid (Boxed w2 tb 3 (.int .i64 stop)) := (h2.out.block tb (by rw [Hs1.out]; omega)).trans Hb0.out
  have G1 : Hid (Boxed w2 (tb + 1) 4 (.bool false)) := (h2.out.block (tb + 1) (by rw [Hs1.out]; omega)).trans Hb1.out
  have hs2 : tb + 2 ≤ w2.heap.size := by rw [← Hs1.out]; exact h2.out.size
  clear h2 Hf HB1 Hs1 Hb0 Hb1 Hw1
  by_cases hbig : 65536 < lb.length
  · have hd : decide ((65536 : Int) < (lb.length : Int)) = true := by simp; omega
    have c4 := G1.out.cell
    have f4 := G1.out.frozen
    clear hbig
    go_wp2_with fail
    refine leave4D tb (tb + 1) true [] rfl rfl List.nodup_nil (by simp) (by simp) (by simp; omega) (G1.out.set _).cell (fun w' h' => ⟨rfl, ?_⟩)
    show Below _ _ _
    rw [← Htb.out]
    exact (H2.out.setCell (p := ⟨tb + 1, 0, none⟩) (by show tb ≤ tb + 1; omega) _).trans h'
  have hd : decide ((65536 : Int) < (lb.length : Int)) = false := by simp; omega
  have h65 : lb.length ≤ 65536 := by omega
  clear hbig
  obtain ⟨i0, hi, hz0, hz1, hz2⟩ := info_parts infoB
  have hnf := fun cb w => eq_nilfunc (.func 32) #[] #[.pointer (some ⟨cb, 0, none⟩)] w
  have Hw : Hid (∀ w1, Below (tb + 2) w2 w1 → Below w.heap.size w w1) := fun w1 h => by rw [← Htb.out]; exact H2.out.trans (h.mono (by omega))
  have Hs2 := Lib.hid hs2
  have hBy := Lib.hid (fun w1 (hb : Below (tb + 2) w2 w1) => show Calls Tryd.prog 18 #[.slice a lb.length c] w1 (fun e w' => ∃ v, e = .returned v ∧ Hid (w'.ownsRow (tb + 2) 5 1 v lb.length (bc lb) ∧ Below (tb + 2) w2 w')) from (bytes_any a c lb w1 (HB.out.below' (Hw.out _ hb)) (by omega)).mono fun e w' ⟨v, he, h2, h3⟩ => by
    have hsz := Nat.le_trans Hs2.out hb.size
    exact ⟨v, he, row_base h2 hsz, hb.trans (h3.mono hsz)⟩)
  go_wp2_with (first
    | (go_at_call 18; refine (hBy.out _ (Below.refl _ _)).mono ?_; rintro e w3 ⟨v3, rfl, h3⟩; have hown3 := h3.out.1; have hsz3 := Nat.le_trans Hs2.out h3.out.2.size)
    | (at_builtin; refine wpList_append_own _ rfl _ _ 31 rfl (tb + 2) 5 i0 (.int .u8 0) 1 1 under31 hi hz0 hz1 hz2 rfl (by decide) _ _ _ rfl (hown3.alloc _) ⟨_, 0, none⟩ 2 2 [.int .u8 47, .int .u8 11] rfl rfl (cells_new _ _ _) (by simp [Value.oneCell']) (by unfold maxLen; omega) (by omega) (by simp; omega) ?_; intro v4 w4 hown4 hgrow4 _; have hB4 := (h3.out.2.alloc hsz3 _).grown hgrow4 (by simp; omega) (fun j e => (hown3.lt j e).1); obtain ⟨a4, c4, rfl, hb4, hcap4⟩ := bat_row_cap (l := lb ++ [47, 11]) (by simpa [bc] using hown4); have hcap5 : lb.length + 2 ≤ c4 := (by simpa using hcap4); have H4 := Lib.hid (And.intro hb4 hB4); clear hcap4 hown3 hsz3 h3 hown4 hgrow4 hB4 hb4)
    | (go_at_call 19; refine (refLines_any a c lb _ (HB.out.below' (Hw.out _ H4.out.2)) Hlb.out hcap (by omega)).mono ?_; rintro e w5 ⟨v5, rfl, h5⟩; obtain ⟨a5, c5, rfl, ht5⟩ := tat_row h5.out.1; have H5 := Lib.hid (And.intro (H4.out.1.below' h5.out.2) (And.intro ht5 (H4.out.2.trans (h5.out.2.mono (Nat.le_trans Hs2.out H4.out.2.size))))); clear h5 ht5 H4)
    | (go_at_call 20; refine (lines_any a4 c4 lb _ (((show BAt w5 a4 lb from by have := H5.out.1.cut lb.length; rwa [List.take_left] at this)).below' ((Below.refl _ _).alloc (Nat.le_refl _) _))).mono ?_; rintro e w6 ⟨rfl, hw6⟩))
  have hLsize := lines_total (lb.map UInt8.ofNat)
  rw [List.length_map] at hLsize
  have hm6 : ∃ m, w6.cell? ⟨3, 0, none⟩ = some (.int .i64 m) := by
    have h5 := HG.out.below' (Hw.out _ H5.out.2.2)
    have hb : Below w5.heap.size w5 w6 := by rw [← hw6]; exact ((Below.refl _ w5).alloc (Nat.le_refl _) _).alloc (by simp) _
    exact (h5.below' hb).c3
  obtain ⟨bb, hbb⟩ : ∃ bb, bb = w5.heap.size := ⟨_, rfl⟩
  have hs6 : w6.heap.size = bb + 2 := by rw [← hw6, hbb]; simp
  have hB6 : Below bb w5 w6 := by rw [← hw6]; exact ((Below.refl bb w5).alloc (by omega) _).alloc (by simp; omega) _
  have hBd6 : Boxed w6 bb 22 (.slice a5 (linesL (lb.map UInt8.ofNat)).length c5) := by rw [← hw6, hbb]; exact (Boxed.new w5 22 _).alloc _
  have hbs : w6.cell? ⟨bb + 1, 0, none⟩ = some (tv (lb.map UInt8.ofNat)) := by
    have := (Boxed.new (w5.alloc (.cells #[.slice a5 (linesL (lb.map UInt8.ofNat)).length c5] 22)) 9 (.string (sB lb))).cell
    rw [World.size_alloc, hw6, ← hbb] at this
    exact this
  have htb : tb + 2 ≤ bb := by rw [hbb]; exact Nat.le_trans Hs2.out H5.out.2.2.size
  have hB26 : Below (tb + 2) w2 w6 := H5.out.2.2.trans (hB6.mono htb)
  have J0 : Hid (Boxed w6 tb 3 (.int .i64 stop)) := (hB26.block tb (by omega)).trans G0.out
  have J1 : Hid (Boxed w6 (tb + 1) 4 (.bool false)) := (hB26.block (tb + 1) (by omega)).trans G1.out
  have J2 := Lib.hid hBd6
  have J3 : Hid (TAt w6 a5 (linesL (lb.map UInt8.ofNat))) := H5.out.2.1.below' (by rw [← hbb]; exact hB6)
  have J4 : Hid (BAt w6 a4 (lb ++ [47, 11])) := H5.out.1.below' (by rw [← hbb]; exact hB6)
  have J5 := Lib.hid hbs
  have J6 : Hid (Below w.heap.size w w6) := Hw.out _ hB26
  have J7 := Lib.hid hs6
  have J8 := Lib.hid hB26
  rw [← hbb, hs6]
  have hM0 : LMRel (bb + 2) w6 (bb + 2) 0 [] (w6.alloc (.cells #[.int .i64 0] 3)) := ⟨(Below.refl _ _).alloc (by omega) _, by rw [← hs6]; exact Boxed.new w6 3 _, Nat.le_refl _, by simp, List.nodup_nil, by simp⟩
  have HM0 := Lib.hid hM0
  clear hM0 hB26 hbs hBd6 hB6 hs6 hbb hw6 H5 G0 G1 H2 hs2 Hs2 hnf
  generalize w6.alloc (.cells #[.int .i64 0] 3) = W0 at *
  have HLL : Hid (linesL (lb.map UInt8.ofNat) = linesL (lb.map UInt8.ofNat)) := rfl
  have hseq0 := fun (m : Int) (W : World) (h3 : W.cell? ⟨3, 0, none⟩ = some (.int .i64 m)) (h4 : W.cell? ⟨bb + 1, 0, none⟩ = some (tv (lb.map UInt8.ofNat))) => lines_stops (10 - 1) (by decide) (bb + 1) (bb + 2) (lb.map UInt8.ofNat) (by simp; omega) m W (by omega) h3 h4
  have Hseq := Lib.hid hseq0
  clear hseq0
  generalize hLL : linesL (lb.map UInt8.ofNat) = LL at *
  clear HLL hLL
  have Hm6 := Lib.hid hm6
  clear hm6
  refine wp_loop_ghost_k (fun (k : Nat) (a' : Act) (W : World) => ∃ (pb : Nat) (Ds : List Nat) (u10 u11 u12 u37 u38 u39 u40 u41 u42 u43 u44 u45 u46 u47 u48 u49 u50 u51 u52 u53 u54 u55 u56 u57 u58 u59 u60 u61 u62 u63 u64 u65 u66 u67 u68 u69 u70 u71 u72 u73 u74 u75 u76 u77 u78 u79 u80 u81 u82 u83 u84 u85 u86 u87 u88 u89 u90 u91 : Value), (∃ r : Nat, r + k = 2 ∧ Hid (LMRel (bb + 2) w6 pb r Ds W)) ∧ a' = { tmps := #[.slice a lb.length c, .int .i64 stop, undef, .pointer (some ⟨tb, 0, none⟩), .pointer (some ⟨tb + 1, 0, none⟩), .bool true, .slice a4 (lb.length + 2) c4, .pointer (some ⟨bb, 0, none⟩), .func (.func 32) #[] #[.pointer (some ⟨bb + 1, 0, none⟩)], .pointer (some ⟨pb, 0, none⟩), u10, u11, u12, .bool true, .bool true, .bool false, .slice a lb.length c, .int .i64 (lb.length : Int), .bool false, .bool false, .bool true, .bool false, .bool false, undef, .slice a lb.length c, v3, .slice (some ⟨w3.heap.size, 0, none⟩) 2 2, .slice a4 (lb.length + 2) c4, .slice a lb.length c, .slice a5 LL.length c5, .slice a4 (lb.length + 2) c4, .slice a lb.length c, .int .i64 (lb.length : Int), .slice a4 lb.length c4, .func (.func 32) #[] #[.pointer (some ⟨bb + 1, 0, none⟩)], .func (.func 32) #[] #[.pointer (some ⟨bb + 1, 0, none⟩)], .bool false, u37, u38, u39, u40, u41, u42, u43, u44, u45, u46, u47, u48, u49, u50, u51, u52, u53, u54, u55, u56, u57, u58, u59, u60, u61, u62, u63, u64, u65, u66, u67, u68, u69, u70, u71, u72, u73, u74, u75, u76, u77, u78, u79, u80, u81, u82, u83, u84, u85, u86, u87, u88, u89, u90, u91], defers := Ds.map markD }) 2 ⟨bb + 2, [], _, _, _, _, _, _, _, _, _, _, _, _, _, _, _, _, _, _, _, _, _, _, _, _, _, _, _, _, _, _, _, _, _, _, _, _, _, _, _, _, _, _, _, _, _, _, _, _, _, _, _, _, _, _, _, _, _, _, ⟨0, rfl, HM0.out⟩, rfl⟩ ?_
  intro gk a' wr hI J K hJ hK
  clear HM0
  obtain ⟨pb, hI⟩ := hI
  obtain ⟨Ds, hI⟩ := hI
  obtain ⟨u10, hI⟩ := hI
  obtain ⟨u11, hI⟩ := hI
  obtain ⟨u12, hI⟩ := hI
  obtain ⟨u37, hI⟩ := hI
  obtain ⟨u38, hI⟩ := hI
  obtain ⟨u39, hI⟩ := hI
  obtain ⟨u40, hI⟩ := hI
  obtain ⟨u41, hI⟩ := hI
  obtain ⟨u42, hI⟩ := hI
  obtain ⟨u43, hI⟩ := hI
  obtain ⟨u44, hI⟩ := hI
  obtain ⟨u45, hI⟩ := hI
  obtain ⟨u46, hI⟩ := hI
  obtain ⟨u47, hI⟩ := hI
  obtain ⟨u48, hI⟩ := hI
  obtain ⟨u49, hI⟩ := hI
  obtain ⟨u50, hI⟩ := hI
  obtain ⟨u51, hI⟩ := hI
  obtain ⟨u52, hI⟩ := hI
  obtain ⟨u53, hI⟩ := hI
  obtain ⟨u54, hI⟩ := hI
  obtain ⟨u55, hI⟩ := hI
  obtain ⟨u56, hI⟩ := hI
  obtain ⟨u57, hI⟩ := hI
  obtain ⟨u58, hI⟩ := hI
  obtain ⟨u59, hI⟩ := hI
  obtain ⟨u60, hI⟩ := hI
  obtain ⟨u61, hI⟩ := hI
  obtain ⟨u62, hI⟩ := hI
  obtain ⟨u63, hI⟩ := hI
  obtain ⟨u64, hI⟩ := hI
  obtain ⟨u65, hI⟩ := hI
  obtain ⟨u66, hI⟩ := hI
  obtain ⟨u67, hI⟩ := hI
  obtain ⟨u68, hI⟩ := hI
  obtain ⟨u69, hI⟩ := hI
  obtain ⟨u70, hI⟩ := hI
  obtain ⟨u71, hI⟩ := hI
  obtain ⟨u72, hI⟩ := hI
  obtain ⟨u73, hI⟩ := hI
  obtain ⟨u74, hI⟩ := hI
  obtain ⟨u75, hI⟩ := hI
  obtain ⟨u76, hI⟩ := hI
  obtain ⟨u77, hI⟩ := hI
  obtain ⟨u78, hI⟩ := hI
  obtain ⟨u79, hI⟩ := hI
  obtain ⟨u80, hI⟩ := hI
  obtain ⟨u81, hI⟩ := hI
  obtain ⟨u82, hI⟩ := hI
  obtain ⟨u83, hI⟩ := hI
  obtain ⟨u84, hI⟩ := hI
  obtain ⟨u85, hI⟩ := hI
  obtain ⟨u86, hI⟩ := hI
  obtain ⟨u87, hI⟩ := hI
  obtain ⟨u88, hI⟩ := hI
  obtain ⟨u89, hI⟩ := hI
  obtain ⟨u90, hI⟩ := hI
  obtain ⟨u91, hI⟩ := hI
  obtain ⟨⟨r, hrk, HM⟩, rfl⟩ := hI
  have Hrk := Lib.hid hrk
  clear hrk
  have hsz6 := J7.out
  by_cases hr2 : r < 2
  · have cp := HM.out.pc.cell
    go_wp2_with fail
    clear cp
    obtain ⟨ib, hib⟩ : ∃ ib, ib = wr.heap.size := ⟨_, rfl⟩
    obtain ⟨Wb, hWb⟩ : ∃ Wb, Wb = wr.alloc (.cells #[.int .i64 0] 3) := ⟨_, rfl⟩
    rw [← hWb, ← hib]
    have hsb : Wb.heap.size = ib + 1 := by rw [hWb, hib]; simp
    have hBi : bb + 2 ≤ ib := by rw [hib, ← hsz6]; exact HM.out.below.size
    have hBb : Below (bb + 2) w6 Wb := by rw [hWb]; exact HM.out.below.alloc (by rw [← hib]; exact hBi) _
    have hbi : Boxed Wb ib 3 (.int .i64 (([] : List Nat).length : Int)) := by rw [hWb, hib]; exact Boxed.new wr 3 _
    have hbp : Boxed Wb pb 3 (.int .i64 (r : Int)) := by rw [hWb]; exact HM.out.pc.alloc _
    have hpi : pb < ib := by rw [hib]; exact HM.out.pc.lt
    have hmk : ∀ D ∈ Ds, Wb.heap[D]? = some (.deferred (some [])) := fun D hD => by
      have h1 := HM.out.mks D hD
      rw [hWb, Below.heap_alloc _ _ _ (Array.getElem?_eq_some_iff.1 h1).1]; exact h1
    obtain ⟨m, hm6⟩ := Hm6.out
    have hseq := Hseq.out m Wb ((hBb.cell (p := ⟨3, 0, none⟩) (show 3 < bb + 2 by have := World.block_lt_of_cell? w6 _ hm6; have h : (3 : Nat) < w6.heap.size := this; omega)).trans hm6) ((hBb.cell (p := ⟨bb + 1, 0, none⟩) (show bb + 1 < bb + 2 by omega)).trans J5.out)
    have Hsb := Lib.hid hsb
    have HBb := Lib.hid hBb
    have Hbi := Lib.hid hbi
    have Hbp := Lib.hid hbp
    have Hmk := Lib.hid hmk
    have hpB := HM.out.pbB
    have HI : Hid (OwnFrom Wb.heap.size (fun (pre : List Nat) W => Boxed W ib 3 (.int .i64 (pre.length : Int)) ∧ Boxed W pb 3 (.int .i64 (r : Int)) ∧ Below (bb + 2) w6 W ∧ ∀ D ∈ Ds, W.heap[D]? = some (.deferred (some [])))) := by
      show OwnFrom _ _
      refine OwnFrom.and (Own.from (boxed_own _ _ _) _) (OwnFrom.and (Own.from (boxed_own _ _ _) _) (OwnFrom.and (ownFrom_below (by rw [hsz6]; exact Nat.le_refl _) (by rw [Hsb.out]; omega)) ?_))
      intro s X Y row hs hg hr D hD
      refine (hg.block D (Array.getElem?_eq_some_iff.1 (hs D hD)).1 (fun e => ?_)).trans (hs D hD)
      have h1 := (hr D e.symm).1
      have h2 := (Array.getElem?_eq_some_iff.1 (Hmk.out D hD)).1
      omega
    clear hib hWb hsb hBb hbi hbp hmk hm6
    refine (wpIn_wide (n := 10)).1 ?_
    apply wpIn_rangeFunc_ownF (F := Fence.wide) (n := 10) rfl (by decide) (gf := 32) (lb := #[.pointer (some ⟨bb + 1, 0, none⟩)]) rfl trivial (enters_of Tryd.func32 (by kernel_rfl) rfl)
      hseq belowK_t (belowK_b (by rw [Hsb.out]; omega)) (Below.refl _ _) (fun _ => rfl)
      (fun pre W => Boxed W ib 3 (.int .i64 (pre.length : Int)) ∧ Boxed W pb 3 (.int .i64 (r : Int)) ∧ Below (bb + 2) w6 W ∧ ∀ D ∈ Ds, W.heap[D]? = some (.deferred (some [])))
      (fun c pre W => (c = .exit 2 ∧ r = 0 ∧ (pre.length : Int) = stop ∧ Boxed W ib 3 (.int .i64 (pre.length : Int)) ∧ Boxed W pb 3 (.int .i64 (r : Int)) ∧ Below (bb + 2) w6 W ∧ ∀ D ∈ Ds, W.heap[D]? = some (.deferred (some []))) ∨ ¬ ∃ q, pre = List.range q)
      ?hI ?hIx ⟨Hbi.out, Hbp.out, HBb.out, Hmk.out⟩
    case hI => exact HI.out
    case hIx =>
      intro c
      rintro s X Y row hs hg hr
      rcases hs with ⟨h1, h2, h3, h4⟩ | hs
      · exact .inl ⟨h1, h2, h3, HI.out s X Y row h4 hg hr⟩
      · exact .inr hs
    case hassign =>
      intro l x W K hK
      gi_wp2
      exact hK
    case hbody =>
      rintro l pre x Wc ⟨hi', hp', hb', hm'⟩ hlt
      have c10 := hi'.cell
      have f10 := hi'.frozen
      have c9 := hp'.cell
      have c7 : Wc.cell? ⟨bb, 0, none⟩ = some (.slice a5 LL.length c5) := (hb'.cell (p := ⟨bb, 0, none⟩) (show bb < bb + 2 by omega)).trans J2.out.cell
      have c3 : Wc.cell? ⟨tb, 0, none⟩ = some (.int .i64 stop) := (hb'.cell (p := ⟨tb, 0, none⟩) (show tb < bb + 2 by omega)).trans J0.out.cell
      have c4' : Wc.cell? ⟨tb + 1, 0, none⟩ = some (.bool false) := (hb'.cell (p := ⟨tb + 1, 0, none⟩) (show tb + 1 < bb + 2 by omega)).trans J1.out.cell
      have f4' : Wc.frozen? ⟨tb + 1, 0, none⟩ = false := (hb'.frozen (p := ⟨tb + 1, 0, none⟩) (show tb + 1 < bb + 2 by omega)).trans J1.out.frozen
      have hLn : LL.length ≤ 65537 := by omega
      by_cases hok : x = pre.length
      · obtain ⟨bw, ow, rfl, _, cw⟩ := tat_at (J3.out.below' (by rw [hsz6]; exact hb')) hlt
        subst hok
        have hd1 : decide (LL.length ≤ pre.length) = false := by simp; omega
        have hne1 : ¬ ib = pb := by omega
        have hne2 : ¬ ib = tb := by omega
        have HF : ∀ W5, W5 = Wc.setCell ⟨ib, 0, none⟩ (.int .i64 ((pre.length : Int) + 1)) → Hid (KeepsOthers Wc W5 ∧ Below (bb + 2) Wc W5 ∧ Boxed W5 ib 3 (.int .i64 ((pre ++ [pre.length]).length : Int)) ∧ Boxed W5 pb 3 (.int .i64 (r : Int)) ∧ Below (bb + 2) w6 W5 ∧ ∀ D ∈ Ds, W5.heap[D]? = some (.deferred (some []))) := by
          rintro W5 rfl
          have hbl := (Below.refl (bb + 2) Wc).setCell (p := ⟨ib, 0, none⟩) hBi (.int .i64 ((pre.length : Int) + 1))
          refine ⟨KeepsOthers.setCell _ _ _, hbl, ?_, Boxed.other hp' (by omega) _, hb'.trans hbl, fun D hD => (KeepsOthers.setCell Wc ⟨ib, 0, none⟩ _).same D _ (hm' D hD) rfl⟩
          rw [List.length_append, List.length_singleton]
          exact hi'.set _
        have c9' : (Wc.setCell ⟨ib, 0, none⟩ (.int .i64 ((pre.length : Int) + 1))).cell? ⟨pb, 0, none⟩ = some (.int .i64 (r : Int)) := (Boxed.other hp' (by omega) _).cell
        have c10' : (Wc.setCell ⟨ib, 0, none⟩ (.int .i64 ((pre.length : Int) + 1))).cell? ⟨ib, 0, none⟩ = some (.int .i64 ((pre.length : Int) + 1)) := (hi'.set _).cell
        have c3' : (Wc.setCell ⟨ib, 0, none⟩ (.int .i64 ((pre.length : Int) + 1))).cell? ⟨tb, 0, none⟩ = some (.int .i64 stop) := (World.cell?_of_block (w := Wc) (Below.heap_setCell Wc ⟨ib, 0, none⟩ _ tb (by show tb ≠ ib; omega))).trans c3
        generalize LL[pre.length]?.getD [] = y at *
        by_cases hr0 : r = 0
        · have hz : ((r : Int) == 0) = true := by rw [hr0]; rfl
          by_cases hst : (pre.length : Int) + 1 = stop
          · have hs1 : (((pre.length : Int) + 1) == stop) = true := by rw [hst]; simp
            have Hst := Lib.hid hst
            have Hr0 := Lib.hid hr0
            clear hst hr0
            gi_wp2
            have h1 := (HF _ rfl).out
            exact ⟨h1.1, .inl ⟨rfl, Hr0.out, by rw [List.length_append, List.length_singleton]; exact Hst.out, h1.2.2⟩⟩
          · have hs1 : (((pre.length : Int) + 1) == stop) = false := by simpa using hst
            clear hst hr0
            gi_wp2
            exact (HF _ rfl).out
        · have hz : ((r : Int) == 0) = false := by simp; omega
          clear hr0
          gi_wp2
          exact (HF _ rfl).out
      · have hd1 : decide (LL.length ≤ pre.length) = false := by simp; omega
        have hxne : (((x : Int) + 1) != ((pre.length : Int) + 1)) = true := by simp; omega
        have Hok := Lib.hid hok
        clear hok
        gi_wp2
        refine ⟨KeepsOthers.setCell _ _ _, .inr ?_⟩
        rintro ⟨q, hq⟩
        have hl := congrArg List.length hq
        rw [List.length_append, List.length_singleton, List.length_range] at hl
        rw [← hl, List.range_succ] at hq
        have h2 := (List.append_inj' hq rfl).2
        exact Hok.out (by simpa using h2)
    case hdone =>
      rintro D ys W hD rfl ⟨hi', hp', hb', hm'⟩ hK
      rw [List.length_range] at hi'
      have c10 := hi'.cell
      have c9 := hp'.cell
      have c7 : W.cell? ⟨bb, 0, none⟩ = some (.slice a5 LL.length c5) := (hb'.cell (p := ⟨bb, 0, none⟩) (show bb < bb + 2 by omega)).trans J2.out.cell
      have HbW := Lib.hid hb'
      have HmW := Lib.hid hm'
      have HKd := Lib.hid hK
      have HD := Lib.hid hD
      clear hi' hp' hb' hm' hK hD
      go_wp2
      have HW : ∀ W7, W7 = W.alloc (.cells #[.int .i64 ((r : Int) + 1)] 3) → Hid (LMRel (bb + 2) w6 W.heap.size ((r + 1 : Nat) : Int) (D :: Ds) W7) := by
        rintro W7 rfl
        have hsW : bb + 2 ≤ W.heap.size := by have := HbW.out.size; omega
        refine ⟨HbW.out.alloc hsW _, ?_, hsW, ?_, ?_, ?_⟩
        · have := Boxed.new W 3 (.int .i64 ((r : Int) + 1))
          simpa using this
        · intro D' hD'
          rcases List.mem_cons.1 hD' with rfl | hD'
          · exact (Below.heap_alloc _ _ _ (Array.getElem?_eq_some_iff.1 HKd.out).1).trans HKd.out
          · exact (Below.heap_alloc _ _ _ (Array.getElem?_eq_some_iff.1 (HmW.out D' hD')).1).trans (HmW.out D' hD')
        · refine List.nodup_cons.2 ⟨fun hD' => ?_, HM.out.nd⟩
          have h1 := (Array.getElem?_eq_some_iff.1 (Hmk.out D hD')).1
          have h2 := HD.out
          omega
        · intro D' hD'
          rcases List.mem_cons.1 hD' with rfl | hD'
          · have h2 := HD.out
            have h3 := Hsb.out
            omega
          · exact HM.out.ge D' hD'
      refine Handed.intro (gk - 1) (by have := Hrk.out; omega) (hJ _ _ _ ?_)
      exact ⟨_, D :: Ds, _, _, _, _, _, _, _, _, _, _, _, _, _, _, _, _, _, _, _, _, _, _, _, _, _, _, _, _, _, _, _, _, _, _, _, _, _, _, _, _, _, _, _, _, _, _, _, _, _, _, _, _, _, _, _, _, _, _, ⟨r + 1, by have := Hrk.out; omega, HW _ rfl⟩, rfl⟩
    case hstop =>
      rintro D c pre W hD ⟨q, _, e⟩ hx hK
      rcases hx with ⟨rfl, hr0, hst, hi', hp', hb', hm'⟩ | hx
      · refine wpIn_wide.2 ?_
        have c10 := hi'.cell
        have c9 : W.cell? ⟨pb, 0, none⟩ = some (.int .i64 0) := by have := hp'.cell; rw [hr0] at this; exact this
        have c7 : W.cell? ⟨bb, 0, none⟩ = some (.slice a5 LL.length c5) := (hb'.cell (p := ⟨bb, 0, none⟩) (show bb < bb + 2 by omega)).trans J2.out.cell
        have c3 : W.cell? ⟨tb, 0, none⟩ = some (.int .i64 (pre.length : Int)) := by rw [hst]; exact (hb'.cell (p := ⟨tb, 0, none⟩) (show tb < bb + 2 by omega)).trans J0.out.cell
        have HbW := Lib.hid hb'
        have HmW := Lib.hid hm'
        have HKd := Lib.hid hK
        have HD := Lib.hid hD
        have Hr0 := Lib.hid hr0
        clear hi' hp' hb' hm' hK hD hr0 hst e
        generalize pre.length = p at *
        go_wp2
        all_goals
          have HW : ∀ W7, W7 = W.alloc (.cells #[.int .i64 1] 3) → Hid (LMRel (bb + 2) w6 W.heap.size ((r + 1 : Nat) : Int) (D :: Ds) W7) := by
            rintro W7 rfl
            have hsW : bb + 2 ≤ W.heap.size := by have := HbW.out.size; omega
            refine ⟨HbW.out.alloc hsW _, ?_, hsW, ?_, ?_, ?_⟩
            · have := Boxed.new W 3 (.int .i64 1)
              rw [Hr0.out]; exact this
            · intro D' hD'
              rcases List.mem_cons.1 hD' with rfl | hD'
              · exact (Below.heap_alloc _ _ _ (Array.getElem?_eq_some_iff.1 HKd.out).1).trans HKd.out
              · exact (Below.heap_alloc _ _ _ (Array.getElem?_eq_some_iff.1 (HmW.out D' hD')).1).trans (HmW.out D' hD')
            · refine List.nodup_cons.2 ⟨fun hD' => ?_, HM.out.nd⟩
              have h1 := (Array.getElem?_eq_some_iff.1 (Hmk.out D hD')).1
              have h2 := HD.out
              omega
            · intro D' hD'
              rcases List.mem_cons.1 hD' with rfl | hD'
              · have h2 := HD.out
                have h3 := Hsb.out
                omega
              · exact HM.out.ge D' hD'
          refine Handed.intro (gk - 1) (by have := Hrk.out; omega) (hJ _ _ _ ?_)
          exact ⟨_, D :: Ds, _, _, _, _, _, _, _, _, _, _, _, _, _, _, _, _, _, _, _, _, _, _, _, _, _, _, _, _, _, _, _, _, _, _, _, _, _, _, _, _, _, _, _, _, _, _, _, _, _, _, _, _, _, _, _, _, _, _, ⟨r + 1, by have := Hrk.out; omega, HW _ rfl⟩, rfl⟩
      · exact absurd ⟨q, e⟩ hx
  · have hr22 : r = 2 := by have := Hrk.out; omega
    have cp : wr.cell? ⟨pb, 0, none⟩ = some (.int .i64 2) := by have := HM.out.pc.cell; rw [hr22] at this; exact this
    have hwr : Below w.heap.size w wr := J6.out.trans (HM.out.below.mono (by rw [← hsz6]; exact J6.out.size))
    have hba := HB.out.below' hwr
    have hb4 : BAt wr a4 (lb ++ [47, 11]) := J4.out.below' (by rw [hsz6]; exact HM.out.below)
    have hbw : bb + 2 ≤ wr.heap.size := by rw [← hsz6]; exact HM.out.below.size
    have c1 : wr.cell? ⟨tb + 1, 0, none⟩ = some (.bool false) := (HM.out.below.cell (p := ⟨tb + 1, 0, none⟩) (show tb + 1 < bb + 2 by omega)).trans J1.out.cell
    have f1 : wr.frozen? ⟨tb + 1, 0, none⟩ = false := (HM.out.below.frozen (p := ⟨tb + 1, 0, none⟩) (show tb + 1 < bb + 2 by omega)).trans J1.out.frozen
    have hbyte : ∀ x ∈ lb ++ [47, 11], x < 256 := fun x hx => by
      rcases List.mem_append.1 hx with hx | hx
      · exact Hlb.out x hx
      · simp at hx; omega
    have el : (lb ++ [47, 11]).length = lb.length + 2 := by simp
    have hsb : ∀ w8 a8 c8, Below wr.heap.size wr w8 → BAt w8 a8 (lb ++ [47, 11]) → Calls Tryd.prog 21 #[.slice a4 (lb.length + 2) c4, .slice a8 (lb.length + 2) c8] w8 fun e w' => e = .returned (.bool true) ∧ w8 = w' := fun w8 a8 c8 h1 h2 => by
      have h := sameBytes_any a4 a8 c4 c8 _ _ w8 (hb4.below' h1) h2 hbyte hbyte
      rw [el, decide_eq_true rfl] at h
      exact h
    have Hsb := Lib.hid hsb
    have Hba := Lib.hid hba
    have Hwr := Lib.hid hwr
    have Hc1 := Lib.hid c1
    have Hf1 := Lib.hid f1
    clear hsb hba hwr hb4 hbyte el c1 f1 hr22 hr2
    go_wp2_with (first
      | (go_at_call 18; refine (bytes_any a c lb wr Hba.out (by omega)).mono ?_; rintro e w7 ⟨v7, rfl, hown7, hb7⟩; have hsz7 := hb7.size)
      | (at_builtin; refine wpList_append_own _ rfl _ _ 31 rfl wr.heap.size 5 i0 (.int .u8 0) 1 1 under31 hi hz0 hz1 hz2 rfl (by decide) _ _ _ rfl (hown7.alloc _) ⟨_, 0, none⟩ 2 2 [.int .u8 47, .int .u8 11] rfl rfl (cells_new _ _ _) (by simp [Value.oneCell']) (by unfold maxLen; omega) (by omega) (by simp; omega) ?_; intro v8 w8 hown8 hgrow8 _; have hB8 := (hb7.alloc hsz7 _).grown hgrow8 (by simp; omega) (fun j e => (hown7.lt j e).1); obtain ⟨a8, c8, rfl, hb8, hcap8⟩ := bat_row_cap (l := lb ++ [47, 11]) (by simpa [bc] using hown8); have HB8 := Lib.hid hB8; have Hsb8 := Lib.hid (Hsb.out w8 a8 c8 hB8 hb8); have c1 := (hB8.cell (p := ⟨tb + 1, 0, none⟩) (show tb + 1 < wr.heap.size by omega)).trans Hc1.out; have f1 := (hB8.frozen (p := ⟨tb + 1, 0, none⟩) (show tb + 1 < wr.heap.size by omega)).trans Hf1.out; clear hcap8 hown7 hb7 hsz7 hown8 hgrow8 hB8 hb8)
      | (go_at_call 21; refine Hsb8.out.mono ?_; rintro e w9 ⟨rfl, rfl⟩))
    have hs8 := HB8.out.size
    refine leave4D tb (tb + 1) true Ds rfl rfl HM.out.nd (fun D hD => ?_) (fun D hD => by have := HM.out.ge D hD; omega) (by simp; omega) (World.cell?_setCell_same' _ _ _ (by rw [c1]; rfl)) (fun w' h' => ⟨rfl, ?_⟩)
    · have h1 := HM.out.mks D hD
      exact (KeepsOthers.setCell w8 ⟨tb + 1, 0, none⟩ (.bool true)).same D _ ((HB8.out.block D (Array.getElem?_eq_some_iff.1 h1).1).trans h1) rfl
    · show Below _ _ _
      have h1 := Hwr.out.trans (HB8.out.mono Hwr.out.size)
      rw [← Htb.out] at h1 ⊢
      exact (h1.setCell (p := ⟨tb + 1, 0, none⟩) (by show tb ≤ tb + 1; omega) _).trans h'
end Go.Proofs.YtaddpekjmboimaaDoor
