/- The walk of the statement on what stores tell. -/
import Derived.Test.YtcjfcomadcebnaaGreatDoorM10
import Derived.Test.YtcjfcomadcebnaaGreatDoorM11
import Derived.Test.YtcjfcomadcebnaaGreatDoorUp
import Derived.Test.YtcjfcomadcebnaaGreatDoorDw
import Derived.Deep.CutRange
import Derived.Deep.RegionHeld3
namespace Go.Proofs.YtcjfcomadcebnaaGreatDoor
open Go.RowKit Go.Maps Go.WideMaps Go.WideElems Go.ChangeShapes Go.WideShapes
attribute [local go_sem] Oper.semAt_some
variable {er : Nat → Addr}

theorem boxes2 (w : World) (t u : TypeId) (z1 z2 s x : Value) : ∃ V1 V2 G1 G2, w.alloc (.cells #[z1] t) = V1 ∧ V1.alloc (.cells #[z2] u) = V2 ∧ V2.setCell ⟨w.heap.size, 0, none⟩ s = G1 ∧ G1.setCell ⟨V1.heap.size, 0, none⟩ x = G2 ∧
    (V2.cell? ⟨w.heap.size, 0, none⟩ = some z1 ∧ V2.frozen? ⟨w.heap.size, 0, none⟩ = false) ∧ (G1.cell? ⟨V1.heap.size, 0, none⟩ = some z2 ∧ G1.frozen? ⟨V1.heap.size, 0, none⟩ = false) ∧
    Hid (G2.heap[w.heap.size]? = some (.cells #[s] t)) ∧ Hid (G2.heap[V1.heap.size]? = some (.cells #[x] u)) ∧ Hid (Below w.heap.size w G2) := by
  obtain ⟨V1, h1, b1, l1, k1⟩ := cells_new w #[z1] t
  obtain ⟨V2, h2, b2, l2, k2⟩ := cells_new V1 #[z2] u
  have hne : w.heap.size ≠ V1.heap.size := Nat.ne_of_lt l1.out
  have j1 : V2.heap[w.heap.size]? = some (.cells #[z1] t) := keepB b2.out k1.out
  have g1 : (V2.setCell ⟨w.heap.size, 0, none⟩ s).heap[w.heap.size]? = some (.cells #[s] t) := heap_setCell_same V2 w.heap.size 0 _ _ _ j1
  have g2 : (V2.setCell ⟨w.heap.size, 0, none⟩ s).heap[V1.heap.size]? = some (.cells #[z2] u) := keepS hne k2.out
  refine ⟨V1, V2, _, _, h1, h2, rfl, rfl, one_at j1, one_at g2, keepS (Ne.symm hne) g1, heap_setCell_same _ V1.heap.size 0 _ _ _ g2, ?_⟩
  have hb : Below w.heap.size w V2 := stepB b1.out b2.out
  exact (hb.setCell (p := ⟨w.heap.size, 0, none⟩) (Nat.le_refl _) _).setCell (p := ⟨V1.heap.size, 0, none⟩) (Nat.le_of_lt l1.out) _

theorem box_put4 {V : World} {rb : Nat} {x y z u : Value} {t : TypeId} (p q r s : Value) (hM : V.heap[rb]? = some (.cells #[x, y, z, u] t)) :
    ∃ V1 V2 V3 V4, V.setCell ⟨rb, 0, none⟩ p = V1 ∧ V1.setCell ⟨rb, 1, none⟩ q = V2 ∧ V2.setCell ⟨rb, 2, none⟩ r = V3 ∧ V3.setCell ⟨rb, 3, none⟩ s = V4 ∧
      ((V.cell? ⟨rb, 0, none⟩ = some x ∧ V.frozen? ⟨rb, 0, none⟩ = false) ∧ (V1.cell? ⟨rb, 1, none⟩ = some y ∧ V1.frozen? ⟨rb, 1, none⟩ = false) ∧ (V2.cell? ⟨rb, 2, none⟩ = some z ∧ V2.frozen? ⟨rb, 2, none⟩ = false) ∧ (V3.cell? ⟨rb, 3, none⟩ = some u ∧ V3.frozen? ⟨rb, 3, none⟩ = false)) ∧
      Hid (V4.heap[rb]? = some (.cells #[p, q, r, s] t)) ∧ Hid (∀ n, n ≤ rb → Below n V V4) ∧ Hid (∀ (k : Nat) (o : Obj), k ≠ rb → V.heap[k]? = some o → V4.heap[k]? = some o) := by
  obtain ⟨f0, f1, f2, f3, hf⟩ := row_set4 hM p q r s
  refine ⟨_, _, _, _, rfl, rfl, rfl, rfl, ⟨f0, f1, f2, f3⟩, hf, fun n hn => ?_, fun k o hk ho => keepS hk.symm (keepS hk.symm (keepS hk.symm (keepS hk.symm ho)))⟩
  exact ((((Below.refl n V).setCell (p := ⟨rb, 0, none⟩) hn _).setCell (p := ⟨rb, 1, none⟩) hn _).setCell (p := ⟨rb, 2, none⟩) hn _).setCell (p := ⟨rb, 3, none⟩) hn _
/-- The state at a place, or none. -/
def atZ (S : List P3) (i : Int) : P3 := if 0 ≤ i ∧ i < S.length then stA S i.toNat else (0, 0, [])
theorem sat_i (a : Option Addr) (c : Nat) (S : List P3) (n : Nat) (hn : S.length = n) (i : Int) (w : World) (h : SlAt w a (sts S)) :
    Calls Tryz.prog 10 #[.agg #[.slice a n c], .int .i64 i] w fun e w' => e = .returned (.tuple #[stV (atZ S i), .bool (decide (0 ≤ i ∧ i < (n : Int)))]) ∧ Hid (Below w.heap.size w w') := by
  subst hn
  by_cases hi : 0 ≤ i ∧ i < S.length
  · obtain ⟨k, rfl⟩ : ∃ k : Nat, i = k := ⟨i.toNat, by omega⟩
    have hk : k < S.length := by omega
    have h1 := sat_nat a c S k w h
    rw [decide_eq_true hk] at h1
    unfold atZ
    rw [if_pos hi, decide_eq_true hi, Int.toNat_natCast]
    exact h1
  · unfold atZ
    rw [if_neg hi, decide_eq_false hi]
    exact sat_out a S.length c i hi w
set_option maxRecDepth 100000 in
theorem rzero_any (w : World) : Calls Tryz.prog 11 #[] w fun e w' => e = .returned (.agg dz) ∧ Hid (Below w.heap.size w w') := by
  obtain ⟨V, hV, Hb, hs, hx⟩ := cells_new w dz 39
  obtain ⟨V1, V2, V3, V4, hV1, hV2, hV3, hV4, ⟨⟨a0, b0⟩, ⟨a1, b1⟩, ⟨a2, b2⟩, ⟨a3, b3⟩⟩, hf, hbb, -⟩ := box_put4 (.int .i64 0) (.int .i64 0) (.slice none 0 0) (.slice none 0 0) hx.out
  go_enter Tryz.func11, Tryz.ntmps11
  go_wp2_with fail
  refine bodyPost_ret (results_row1 rfl _ _ w.heap.size 39 dz (0, 0) _ rfl hf.out Tryz.underlying39 rfl (by kernel_rfl)) rfl ?_
  exact ⟨rfl, Hb.out.trans (hbb.out _ (Nat.le_refl _))⟩
theorem kS_zero : kS (0, 0, []) = [] := by decide
theorem rzk_any (V : World) : Calls Tryz.prog 13 #[.agg #[.int .i64 0, .int .i64 0, .slice none 0 0, .slice none 0 0]] V fun e w' => e = .returned (tv (kS (0, 0, []))) ∧ Hid (Below V.heap.size V w') := by
  rw [kS_zero]
  exact rkey_zero V
theorem seach_n (m : Nat) (hm : 1 ≤ m) (Bs n₀ : Nat) (a : Option Addr) (c : Nat) (S : List P3) (n : Nat) (hn : S.length = n) (hreach : n ≤ 1000000) (w : World) (hBs : Boxed w Bs 29 (.slice a n c)) (hBn : Bs < w.heap.size) (hz : n₀ ≤ w.heap.size) (hc : ∀ W', Below n₀ w W' → SlAt W' a (sts S)) :
    SeqC Fence.wide m Tryz.prog 43 #[.pointer (some ⟨Bs, 0, none⟩)] (fun x : Nat => #[.int .i64 (x : Int), stV (stA S x)]) (KpS n₀ Bs) (fun A B => Below A.heap.size A B) (fun ys => ys = List.range n) (fun pre => ∃ k, k < n ∧ pre = List.range (k + 1)) n w := by
  subst hn
  exact seach_seq m hm Bs n₀ a c S hreach w hBs hBn hz hc
/-- What holds while a store is gone over twice: B is where the loop's own blocks begin. -/
structure LM3 (B : Nat) (W0 : World) (pb : Nat) (r : Int) (Ds : List Nat) (W : World) : Prop where
  below : Below B W0 W
  pc : Boxed W pb 3 (.int .i64 r)
  pbB : B ≤ pb
  mks : ∀ D ∈ Ds, W.heap[D]? = some (.deferred (some []))
  nd : Ds.Nodup
  ge : ∀ D ∈ Ds, B ≤ D
/-- What lies ahead of the loop. -/
structure Ah (er : Nat → Addr) (We : World) (ib9 ib10 ib12 ib13 ib15 bs : Nat) (stop : Int) (pa : Option Addr) (pc : Nat) (da : Option Addr) (dc : Nat) (qa : Option Addr) (qc n n2 : Nat) (duv : Value) (S U : List PS) (V : World) : Prop where
  stp : V.heap[ib9]? = some (.cells #[.int .i64 stop] 3)
  res : V.heap[ib10]? = some (.cells #[.bool false] 4)
  sb : V.heap[ib12]? = some (.cells #[.slice pa n pc] 29)
  tb : V.heap[ib13]? = some (.cells #[.slice da n dc] 30)
  ub : V.heap[ib15]? = some (.cells #[.slice qa n2 qc] 29)
  eb : V.heap[bs]? = some (.cells #[.slice pa n pc] 29)
  sl : SlAt V pa (sts (S.map stP))
  dl : SAt V S (.slice da n dc)
  ul : SlAt V qa (sts (U.map stP))
  vl : SAt V U duv
  glob : Glob 212 er V
  lt9 : ib9 < We.heap.size
  lt10 : ib10 < We.heap.size
  lt12 : ib12 < We.heap.size
  lt13 : ib13 < We.heap.size
  lt15 : ib15 < We.heap.size
  ltb : bs < We.heap.size
/-- The place that was handed out is not the one that was awaited: it was never so. -/
theorem range_snoc {pre : List Nat} {x k : Nat} (h : pre ++ [x] = List.range (k + 1)) : x = pre.length := by
  rw [List.range_succ] at h
  have hl : pre.length = k := by have := congrArg List.length h; simpa using this
  have h2 := (List.append_inj h (by simpa using hl)).2
  have h3 : x = k := (List.cons.inj h2).1
  rw [h3, hl]
/-- What lies when the state at a place is compared. -/
structure Wn (er : Nat → Addr) (W5 : World) (xb zb : Nat) (yp yq : Int) (yr : List UInt8) (V : World) : Prop where
  below : Below W5.heap.size W5 V
  box : V.heap[xb]? = some (.cells #[.int .i64 yp, .int .i64 yq, tv yr] 34)
  want : ∃ q r t, V.heap[zb]? = some (.cells #[.int .i64 yp, q, r, t] 39) ∧ ∀ V', Below V.heap.size V V' → Glob 212 er V' → Calls Tryz.prog 13 #[.agg #[.int .i64 yp, q, r, t]] V' fun e w' => e = .returned (tv (kS (yp, yq, yr))) ∧ Hid (Below V'.heap.size V' w')

set_option maxHeartbeats 8000000 in
set_option maxRecDepth 100000 in
theorem storeAsks_any (a b ca : Option Addr) (c d cc : Nat) (os os2 : List (Int × Int)) (cs : List CO) (f1 : ∀ x ∈ cs, fits64 x.key ∧ fits64 x.val) (i stop : Int) (w : World) (hG : Glob 212 er w) (h : SlAt w a (obs os)) (h2 : SlAt w b (obs os2)) (h1 : SlAt w ca (cls cs)) :
    Calls Tryz.prog 3 #[.slice a os.length c, .slice b os2.length d, .slice ca cs.length cc, .int .i64 i, .int .i64 stop] w fun e w' => e = .returned (.bool true) ∧ Hid (Below w.heap.size w w') := by
  obtain ⟨Wa, hWa, Hba, hsa, Hxa⟩ := cells_new w #[.int .i64 stop] 3
  obtain ⟨Wb, hWb, Hbb, hsb, Hxb⟩ := cells_new Wa #[.bool false] 4
  have Bb : Hid (Below w.heap.size w Wb) := stepB Hba.out Hbb.out
  have Hst : Hid (Wb.heap[w.heap.size]? = some (.cells #[.int .i64 stop] 3)) := keepB Hbb.out Hxa.out
  have HF := Lib.hid (first_any Wb (hG.below' Bb.out))
  have HG := Lib.hid hG
  have Hwa : Hid (w.heap.size ≤ Wa.heap.size) := Hba.out.size
  refine callsIn_wide.1 (callsIn_of_wp_marks (F := Fence.wide) (n := 10) Tryz.func3 rfl trivial (wpIn_wide.2 (Code.wp_mono (Q := calm (bodyPostM Fence.wide 10 Tryz.prog Tryz.f3 fun e w' => e = .returned (.bool true) ∧ Hid (Below w.heap.size w w'))) (fun e a w h => by cases e <;> first | exact h | exact h.elim) ?_)) rfl)
  simp only [Tryz.ntmps3, List.size_toArray, List.length_cons, List.length_nil, Nat.reduceAdd, Nat.reduceSub, Array.replicate_succ, Array.replicate_zero, List.push_toArray, List.append_toArray, List.nil_append, List.cons_append]
  by_cases hA : os.length ≤ 100
  case neg =>
    clear h h1 h2 f1 hG
    generalize os.length = n at *
    generalize os2.length = n2 at *
    generalize cs.length = m1 at *
    have e9 : decide ((100 : Int) < (n : Int)) = true := by simp; omega
    clear hA
    go_wp2_with (first | (go_at_call 8; (with_reducible refine HF.out.mono ?_); rintro e w1 ⟨rfl, h1⟩
                          have K1 := Lib.hid (keepB h1.out Hxb.out)
                          obtain ⟨k0, k1⟩ := one_at K1.out))
    exact leave3D w.heap.size Wa.heap.size true [] rfl rfl List.nodup_nil (by simp) (by simp) (by simp; exact (stepB Bb.out h1.out).size) (World.cell?_setCell_same' _ _ _ (by rw [k0]; rfl)) (fun w' h' => ⟨rfl, ((stepB Bb.out h1.out).setCell (p := ⟨Wa.heap.size, 0, none⟩) Hwa.out _).trans h'⟩)
  by_cases hB : os2.length ≤ 100
  case neg =>
    clear h h1 h2 f1 hG
    generalize os.length = n at *
    generalize os2.length = n2 at *
    generalize cs.length = m1 at *
    have e1 : decide ((100 : Int) < (n : Int)) = false := by simp; omega
    have e9 : decide ((100 : Int) < (n2 : Int)) = true := by simp; omega
    clear hA hB
    go_wp2_with (first | (go_at_call 8; (with_reducible refine HF.out.mono ?_); rintro e w1 ⟨rfl, h1⟩
                          have K1 := Lib.hid (keepB h1.out Hxb.out)
                          obtain ⟨k0, k1⟩ := one_at K1.out))
    exact leave3D w.heap.size Wa.heap.size true [] rfl rfl List.nodup_nil (by simp) (by simp) (by simp; exact (stepB Bb.out h1.out).size) (World.cell?_setCell_same' _ _ _ (by rw [k0]; rfl)) (fun w' h' => ⟨rfl, ((stepB Bb.out h1.out).setCell (p := ⟨Wa.heap.size, 0, none⟩) Hwa.out _).trans h'⟩)
  by_cases hC : cs.length ≤ 200
  case neg =>
    clear h h1 h2 f1 hG
    generalize os.length = n at *
    generalize os2.length = n2 at *
    generalize cs.length = m1 at *
    have e1 : decide ((100 : Int) < (n : Int)) = false := by simp; omega
    have e2 : decide ((100 : Int) < (n2 : Int)) = false := by simp; omega
    have e9 : decide ((200 : Int) < (m1 : Int)) = true := by simp; omega
    clear hA hB hC
    go_wp2_with (first | (go_at_call 8; (with_reducible refine HF.out.mono ?_); rintro e w1 ⟨rfl, h1⟩
                          have K1 := Lib.hid (keepB h1.out Hxb.out)
                          obtain ⟨k0, k1⟩ := one_at K1.out))
    exact leave3D w.heap.size Wa.heap.size true [] rfl rfl List.nodup_nil (by simp) (by simp) (by simp; exact (stepB Bb.out h1.out).size) (World.cell?_setCell_same' _ _ _ (by rw [k0]; rfl)) (fun w' h' => ⟨rfl, ((stepB Bb.out h1.out).setCell (p := ⟨Wa.heap.size, 0, none⟩) Hwa.out _).trans h'⟩)
  have e1 : decide ((100 : Int) < (os.length : Int)) = false := by simp; omega
  have e2 : decide ((100 : Int) < (os2.length : Int)) = false := by simp; omega
  have e3 : decide ((200 : Int) < (cs.length : Int)) = false := by simp; omega
  have HBx : ∀ (q : Option Addr) (cq : Nat) (oq : List (Int × Int)), SlAt w q (obs oq) → ¬ (oq.length ≤ 8 ∧ ∀ o ∈ oq, validO o.1 o.2 = true) → Hid (∀ V, Below w.heap.size w V → Calls Tryz.prog 9 #[.slice q oq.length cq, .slice ca cs.length cc] V fun e w' => e = .returned (.tuple #[.agg #[.slice none 0 0], .slice none 0 0, .bool false]) ∧ Hid (Below V.heap.size V w')) := fun q cq oq hq hbad V hV => behind_bad (T := 212) (er := er) q cq oq hbad _ V (hq.below hV) (hG.below' hV)
  have HBy : ∀ (q : Option Addr) (cq : Nat) (oq : List (Int × Int)), SlAt w q (obs oq) → oq.length ≤ 8 → (∀ o ∈ oq, validO o.1 o.2 = true) → Hid (∀ V, Below w.heap.size w V → Calls Tryz.prog 9 #[.slice q oq.length cq, .slice ca cs.length cc] V (BGood oq cs oq.length V)) := fun q cq oq hq h8 hv V hV => behind_good (T := 212) (er := er) q cq oq h8 hv cs hC f1 ca cc V (hq.below hV) (h1.below hV) (hG.below' hV)
  unfold BGood at HBy
  by_cases hfit : os.length ≤ 8 ∧ ∀ o ∈ os, validO o.1 o.2 = true
  case neg =>
    have H1 := HBx a c os h hfit
    by_cases hfit2 : os2.length ≤ 8 ∧ ∀ o ∈ os2, validO o.1 o.2 = true
    case neg =>
      have H2 := HBx b d os2 h2 hfit2
      clear h h1 h2 f1 hG hfit hfit2 hA hB hC HBx HBy
      generalize os.length = n at *
      generalize os2.length = n2 at *
      generalize cs.length = m1 at *
      go_wp2_with (first
        | (go_at_call 8; (with_reducible refine HF.out.mono ?_); rintro e w1 ⟨rfl, h1⟩
           have B1 : Hid (Below w.heap.size w w1) := stepB Bb.out h1.out
           have K1 := Lib.hid (keepB h1.out Hxb.out))
        | (go_at_call 9; first
          | ((with_reducible refine (H1.out w1 B1.out).mono ?_); rintro e w2 ⟨rfl, h2⟩
             obtain ⟨V1, V2, G1, G2, hV1, hV2, hG1, hG2, ⟨s0, s1⟩, ⟨s2, s3⟩, Hx2, Hy2, Hb2⟩ := boxes2 w2 29 30 (.slice none 0 0) (.slice none 0 0) (.slice none 0 0) (.slice none 0 0)
             have B2 : Hid (Below w.heap.size w G2) := stepB (stepB B1.out h2.out) Hb2.out
             have K2 := Lib.hid (keepB (stepB h2.out Hb2.out) K1.out))
          | ((with_reducible refine (H2.out G2 B2.out).mono ?_); rintro e w4 ⟨rfl, h4⟩
             obtain ⟨V5, hV5, b5, -, TB5⟩ := cells_new w4 #[.slice none 0 0] 29
             obtain ⟨W5, hW5, ⟨f5, g5⟩, HF5, HE5⟩ := box_put1 (w := w4) (V := V5) (.slice none 0 0) TB5.out (Nat.le_refl _)
             have C5 : Hid (Below G2.heap.size G2 W5) := stepB h4.out (b5.out.trans HE5.out)
             have B5 : Hid (Below w.heap.size w W5) := stepB B2.out C5.out
             have K5 := Lib.hid (keepB C5.out K2.out)
             obtain ⟨k0, k1⟩ := one_at K5.out)))
      exact leave3D w.heap.size Wa.heap.size true [] rfl rfl List.nodup_nil (by simp) (by simp) (by simp; exact B5.out.size) (World.cell?_setCell_same' _ _ _ (by rw [k0]; rfl)) (fun w' h' => ⟨rfl, (B5.out.setCell (p := ⟨Wa.heap.size, 0, none⟩) Hwa.out _).trans h'⟩)
    have H2 := HBy b d os2 h2 hfit2.1 hfit2.2
    clear h h1 h2 f1 hG hfit hfit2 hA hB hC HBx HBy
    generalize runS (startS os2) cs = S2 at *
    generalize os.length = n at *
    generalize os2.length = n2 at *
    generalize cs.length = m1 at *
    go_wp2_with (first
      | (go_at_call 8; (with_reducible refine HF.out.mono ?_); rintro e w1 ⟨rfl, h1⟩
         have B1 : Hid (Below w.heap.size w w1) := stepB Bb.out h1.out
         have K1 := Lib.hid (keepB h1.out Hxb.out))
      | (go_at_call 9; first
        | ((with_reducible refine (H1.out w1 B1.out).mono ?_); rintro e w2 ⟨rfl, h2⟩
           obtain ⟨V1, V2, G1, G2, hV1, hV2, hG1, hG2, ⟨s0, s1⟩, ⟨s2, s3⟩, Hx2, Hy2, Hb2⟩ := boxes2 w2 29 30 (.slice none 0 0) (.slice none 0 0) (.slice none 0 0) (.slice none 0 0)
           have B2 : Hid (Below w.heap.size w G2) := stepB (stepB B1.out h2.out) Hb2.out
           have K2 := Lib.hid (keepB (stepB h2.out Hb2.out) K1.out))
        | ((with_reducible refine (H2.out G2 B2.out).mono ?_); rintro e w4 ⟨qa, qc, duv, rfl, h4⟩
           obtain ⟨W5, hW5, Hb5, hs5, Hx5⟩ := box_new w4 29 (.slice qa n2 qc)
           have C5 : Hid (Below G2.heap.size G2 W5) := stepB h4.out.2.2 Hb5.out
           have B5 : Hid (Below w.heap.size w W5) := stepB B2.out C5.out
           have K5 := Lib.hid (keepB C5.out K2.out)
           obtain ⟨k0, k1⟩ := one_at K5.out)))
    exact leave3D w.heap.size Wa.heap.size true [] rfl rfl List.nodup_nil (by simp) (by simp) (by simp; exact B5.out.size) (World.cell?_setCell_same' _ _ _ (by rw [k0]; rfl)) (fun w' h' => ⟨rfl, (B5.out.setCell (p := ⟨Wa.heap.size, 0, none⟩) Hwa.out _).trans h'⟩)
  obtain ⟨h8, hv⟩ := hfit
  have H1 := HBy a c os h h8 hv
  have HLs := Lib.hid (runS_len os hv cs)
  have HOs := Lib.hid (runS_fit os hv cs hC)
  obtain ⟨S, hS⟩ : ∃ S, runS (startS os) cs = S := ⟨_, rfl⟩
  rw [hS] at HLs HOs H1
  clear hS
  by_cases hfit2 : os2.length ≤ 8 ∧ ∀ o ∈ os2, validO o.1 o.2 = true
  case neg =>
    have H2 := HBx b d os2 h2 hfit2
    clear h h1 h2 f1 hG hv hfit2 hA hB hC HBx HBy
    generalize os.length = n at *
    generalize os2.length = n2 at *
    generalize cs.length = m1 at *
    go_wp2_with (first
      | (go_at_call 8; (with_reducible refine HF.out.mono ?_); rintro e w1 ⟨rfl, h1⟩
         have B1 : Hid (Below w.heap.size w w1) := stepB Bb.out h1.out
         have K1 := Lib.hid (keepB h1.out Hxb.out))
      | (go_at_call 9; first
        | ((with_reducible refine (H1.out w1 B1.out).mono ?_); rintro e w2 ⟨pa, pc, dsv, rfl, h2⟩
           obtain ⟨da, dc, rfl⟩ : ∃ da dc, dsv = .slice da n dc := by obtain ⟨da, dc, xs, e, _⟩ := h2.out.2.1; exact ⟨da, dc, by rw [e, HLs.out]⟩
           obtain ⟨V1, V2, G1, G2, hV1, hV2, hG1, hG2, ⟨s0, s1⟩, ⟨s2, s3⟩, Hx2, Hy2, Hb2⟩ := boxes2 w2 29 30 (.slice none 0 0) (.slice none 0 0) (.slice pa n pc) (.slice da n dc)
           have B2 : Hid (Below w.heap.size w G2) := stepB (stepB B1.out h2.out.2.2) Hb2.out
           have K2 := Lib.hid (keepB (stepB h2.out.2.2 Hb2.out) K1.out))
        | ((with_reducible refine (H2.out G2 B2.out).mono ?_); rintro e w4 ⟨rfl, h4⟩
           obtain ⟨V5, hV5, b5, -, TB5⟩ := cells_new w4 #[.slice none 0 0] 29
           obtain ⟨W5, hW5, ⟨f5, g5⟩, HF5, HE5⟩ := box_put1 (w := w4) (V := V5) (.slice none 0 0) TB5.out (Nat.le_refl _)
           have C5 : Hid (Below G2.heap.size G2 W5) := stepB h4.out (b5.out.trans HE5.out)
           have B5 : Hid (Below w.heap.size w W5) := stepB B2.out C5.out
           have K5 := Lib.hid (keepB C5.out K2.out)
           obtain ⟨k0, k1⟩ := one_at K5.out)))
    exact leave3D w.heap.size Wa.heap.size true [] rfl rfl List.nodup_nil (by simp) (by simp) (by simp; exact B5.out.size) (World.cell?_setCell_same' _ _ _ (by rw [k0]; rfl)) (fun w' h' => ⟨rfl, (B5.out.setCell (p := ⟨Wa.heap.size, 0, none⟩) Hwa.out _).trans h'⟩)
  obtain ⟨h82, hv2⟩ := hfit2
  have H2 := HBy b d os2 h2 h82 hv2
  have HLu := Lib.hid (runS_len os2 hv2 cs)
  have HOu := Lib.hid (runS_fit os2 hv2 cs hC)
  obtain ⟨U, hU⟩ : ∃ U, runS (startS os2) cs = U := ⟨_, rfl⟩
  rw [hU] at HLu HOu H2
  clear h h1 h2 f1 hG hv hv2 hA hB hC HBx HBy hU
  generalize os.length = n at *
  generalize os2.length = n2 at *
  generalize cs.length = m1 at *
  have hn100 : n ≤ 100 := by omega
  have hn2100 : n2 ≤ 100 := by omega
  clear h8 h82
  obtain ⟨y, hy⟩ : ∃ y, atZ (S.map stP) i = y := ⟨_, rfl⟩
  obtain ⟨B, hB⟩ : ∃ B, decide (0 ≤ i ∧ i < (n : Int)) = B := ⟨_, rfl⟩
  have elS : (S.map stP).length = n := by rw [List.length_map]; exact HLs.out
  have HAt := Lib.hid (fun pa pc V hs => sat_i pa pc (S.map stP) n elS i V hs)
  rw [hy, hB] at HAt
  have Hy := Lib.hid hy
  have HB := Lib.hid hB
  have HTy : Hid (Tells y) := by
    show Tells y
    rw [← hy]; unfold atZ
    split
    · unfold stA
      rename_i hin
      have hlt : i.toNat < (S.map stP).length := by omega
      rw [List.getElem?_eq_getElem hlt, Option.getD_some]
      obtain ⟨s, hs, e⟩ := List.mem_map.1 (List.getElem_mem hlt)
      rw [← e]; exact ok_tells (b := 300) (by decide) (HOs.out s hs)
    · exact ⟨⟨by decide, by decide⟩, by simp⟩
  obtain ⟨yp, yq, yr⟩ := y
  clear hy hB
  go_upto_region 11 with (first
    | (go_at_call 8; (with_reducible refine HF.out.mono ?_); rintro e w1 ⟨rfl, h1⟩
       have B1 : Hid (Below w.heap.size w w1) := stepB Bb.out h1.out
       have K1 := Lib.hid (keepB h1.out Hxb.out))
    | (go_at_call 9; first
      | ((with_reducible refine (H1.out w1 B1.out).mono ?_); rintro e w2 ⟨pa, pc, dsv, rfl, h2⟩
         obtain ⟨da, dc, rfl⟩ : ∃ da dc, dsv = .slice da n dc := by obtain ⟨da, dc, xs, e, _⟩ := h2.out.2.1; exact ⟨da, dc, by rw [e, HLs.out]⟩
         obtain ⟨V1, V2, G1, G2, hV1, hV2, hG1, hG2, ⟨s0, s1⟩, ⟨s2, s3⟩, Hx2, Hy2, Hb2⟩ := boxes2 w2 29 30 (.slice none 0 0) (.slice none 0 0) (.slice pa n pc) (.slice da n dc)
         have B2 : Hid (Below w.heap.size w G2) := stepB (stepB B1.out h2.out.2.2) Hb2.out
         have K2 := Lib.hid (keepB (stepB h2.out.2.2 Hb2.out) K1.out))
      | ((with_reducible refine (H2.out G2 B2.out).mono ?_); rintro e w4 ⟨qa, qc, duv, rfl, h4⟩
         obtain ⟨W5, hW5, Hb5, hs5, Hx5⟩ := box_new w4 29 (.slice qa n2 qc)
         have C5 : Hid (Below G2.heap.size G2 W5) := stepB h4.out.2.2 Hb5.out
         have B5 : Hid (Below w.heap.size w W5) := stepB B2.out C5.out
         have K5 := Lib.hid (keepB C5.out K2.out)
         have X5 := Lib.hid (keepB C5.out Hx2.out)
         have Y5 := Lib.hid (keepB C5.out Hy2.out)
         have S5 := Lib.hid ((h2.out.1.below Hb2.out).below C5.out)
         have T5 := Lib.hid ((h2.out.2.1.below Hb2.out).below C5.out)
         have Q5 := Lib.hid (h4.out.1.below Hb5.out)
         have R5 := Lib.hid (h4.out.2.1.below Hb5.out)
         obtain ⟨x12, -⟩ := one_at X5.out))
    | (go_at_call 10; (with_reducible refine (HAt.out pa pc W5 S5.out).mono ?_); rintro e w6 ⟨rfl, h6⟩
       obtain ⟨W7, hW7, Hb7, hs7, Hp7⟩ := cells_new w6 #[.int .i64 yp, .int .i64 yq, tv yr] 34
       have C7 : Hid (Below W5.heap.size W5 W7) := stepB h6.out Hb7.out
       obtain ⟨y13, -⟩ := one_at (keepB C7.out Y5.out)))
  go_cut [20] from 75 to 82 (fun s20 w' => s20 = .bool B ∧ W7 = w')
  case first =>
    have hBB := HB.out
    by_cases hi0 : 0 ≤ i
    · have d1 : decide ((0 : Int) ≤ i) = true := decide_eq_true hi0
      by_cases hin : i < (n : Int)
      · have d2 : decide (i < (n : Int)) = true := decide_eq_true hin
        have eB : B = true := by rw [← hBB]; exact decide_eq_true ⟨hi0, hin⟩
        clear hBB hi0 hin
        go_wp2_with fail
        go_meet
        exact ⟨by rw [eB], rfl⟩
      · have d2 : decide (i < (n : Int)) = false := decide_eq_false hin
        have eB : B = false := by rw [← hBB]; exact decide_eq_false (fun h => hin h.2)
        clear hBB hi0 hin
        go_wp2_with fail
        go_meet
        exact ⟨by rw [eB], rfl⟩
    · have d1 : decide ((0 : Int) ≤ i) = false := decide_eq_false hi0
      have eB : B = false := by rw [← hBB]; exact decide_eq_false (fun h => hi0 h.1)
      clear hBB hi0
      go_wp2_with fail
      go_meet
      exact ⟨by rw [eB], rfl⟩
  case rest =>
    obtain ⟨rfl, rfl⟩ := hcut
    go_upto_if 84 with (first
      | (go_at_call 11; (with_reducible refine (rzero_any W7).mono ?_); rintro e w8 ⟨rfl, h8⟩
         obtain ⟨V9, hV9, b9, hs9, TB9⟩ := cells_new w8 dz 39
         obtain ⟨Z1, Z2, Z3, Z4, hZ1, hZ2, hZ3, hZ4, ⟨⟨z0, g0⟩, ⟨z1, g1⟩, ⟨z2, g2⟩, ⟨z3, g3⟩⟩, HF9, HE9, HO9⟩ := box_put4 (.int .i64 0) (.int .i64 0) (.slice none 0 0) (.slice none 0 0) TB9.out
         have C9 : Hid (Below W7.heap.size W7 Z4) := stepB h8.out (b9.out.trans (HE9.out _ (Nat.le_refl _)))
         have D9 : Hid (Below W5.heap.size W5 Z4) := stepB C7.out C9.out
         obtain ⟨y13', -⟩ := one_at (keepB D9.out Y5.out)))
    have Px9 : Hid (Z4.heap[w6.heap.size]? = some (.cells #[.int .i64 yp, .int .i64 yq, tv yr] 34)) := keepB C9.out Hp7.out
    go_cut [] from 85 to 88 (fun w' => Hid (Wn er W5 w6.heap.size w8.heap.size yp yq yr w'))
    case first =>
      have hBB := HB.out
      have hyy := Hy.out
      cases B
      · have hno : ¬ (0 ≤ i ∧ i < (n : Int)) := of_decide_eq_false hBB
        have ey : ((yp, yq, yr) : P3) = (0, 0, []) := by
          rw [← hyy]; unfold atZ; rw [elS, if_neg hno]
        obtain ⟨rfl, ey2⟩ := Prod.mk.inj ey
        obtain ⟨rfl, rfl⟩ := Prod.mk.inj ey2
        have HW : Hid (Wn er W5 w6.heap.size w8.heap.size 0 0 [] Z4) := ⟨D9.out, Px9.out, _, _, _, HF9.out, fun V' hV _ => (rzk_any V')⟩
        clear hBB hyy ey ey2
        go_wp2_with fail
        go_meet
        exact HW.out
      · have hin : 0 ≤ i ∧ i < (n : Int) := of_decide_eq_true hBB
        obtain ⟨k, rfl⟩ : ∃ k : Nat, i = k := ⟨i.toNat, by omega⟩
        have hk : k < n := by omega
        obtain ⟨da2, dc2, e2, hsto⟩ := stoAt HLs.out T5.out
        cases e2
        obtain ⟨bb, oo, p, q, r, u, s, rfl, hs, hcell, hdat⟩ := hsto k hk
        have hsm : s ∈ S := List.mem_of_getElem? hs
        have ey : ((yp, yq, yr) : P3) = stP s := by
          rw [← hyy]; unfold atZ; rw [elS, if_pos hin, Int.toNat_natCast]
          unfold stA; rw [map_at hs]; rfl
        obtain ⟨c0, c1, c2, c3⟩ := hcell Z4 D9.out
        have hd := hdat W5 (Below.refl _ _)
        obtain ⟨p', q', a1, n1, c1', a2, n2', c2', hpq⟩ := hd.four
        have ep : p = .int .i64 yp := by
          obtain ⟨ka, kc, va, vc, e, _⟩ := hd
          have e3 : p = .int .i64 s.kind := by cases e; rfl
          rw [e3, show yp = s.kind from (Prod.mk.inj ey).1]
        subst ep
        have er2 : q = .int .i64 q' ∧ r = .slice a1 n1 c1' ∧ u = .slice a2 n2' c2' := by cases hpq; exact ⟨rfl, rfl, rfl⟩
        obtain ⟨rfl, rfl, rfl⟩ := er2
        obtain ⟨U1, U2, U3, U4, hU1, hU2, hU3, hU4, ⟨⟨f0, j0⟩, ⟨f1, j1⟩, ⟨f2, j2⟩, ⟨f3, j3⟩⟩, HFu, HEu, HOu⟩ := box_put4 (.int .i64 yp) (.int .i64 q') (.slice a1 n1 c1') (.slice a2 n2' c2') HF9.out
        have hzb : W7.heap.size ≤ w8.heap.size := h8.out.size
        have hx7 : w6.heap.size < W7.heap.size := hs7.out
        have HW : Hid (Wn er W5 w6.heap.size w8.heap.size yp yq yr U4) := by
          have hb4 : Below w8.heap.size Z4 U4 := HEu.out _ (Nat.le_refl _)
          have h5 : W5.heap.size ≤ w8.heap.size := Nat.le_trans C7.out.size hzb
          refine ⟨D9.out.trans (HEu.out _ h5), HOu.out _ _ (by omega) Px9.out, _, _, _, HFu.out, fun V' hV hg => ?_⟩
          have h9 := rkey_any (T := 212) (er := er) s 300 (by decide) (HOs.out s hsm) _ V' (hdat V' ((D9.out.trans (HEu.out _ h5)).trans (hV.mono (D9.out.trans (HEu.out _ h5)).size))) hg
          rw [← ey] at h9
          exact h9
        have Hkn : Hid (k < n) := hk
        clear hBB hyy hin hd ey hsto hcell hdat hs hsm hpq
        go_wp2_with fail
        go_meet
        exact HW.out
    case rest =>
      have HWn := hcut
      clear hcut HF9 HE9 HO9 C9 D9 Px9 TB9 b9 h8 Hy HB HAt
      obtain ⟨q9, r9, t9, hw9, hk9⟩ := HWn.out.want
      have Hw9 := Lib.hid hw9
      have Hk9 := Lib.hid hk9
      clear hw9 hk9
      obtain ⟨v0, v1, v2⟩ := row_three HWn.out.box
      obtain ⟨⟨u0, u1⟩, u2, u3⟩ := row_four Hw9.out
      have HS0 := And.intro (And.intro v0 (And.intro v1 v2)) (And.intro u0 (And.intro u1 (And.intro u2 u3)))
      have HX0 : Hid (∀ V, Below wc.heap.size wc V → (V.cell? ⟨w6.heap.size, 0, none⟩ = some (.int .i64 yp) ∧ V.cell? ⟨w6.heap.size, 1, none⟩ = some (.int .i64 yq) ∧ V.cell? ⟨w6.heap.size, 2, none⟩ = some (tv yr)) ∧ V.cell? ⟨w8.heap.size, 0, none⟩ = some (.int .i64 yp) ∧ V.cell? ⟨w8.heap.size, 1, none⟩ = some q9 ∧ V.cell? ⟨w8.heap.size, 2, none⟩ = some r9 ∧ V.cell? ⟨w8.heap.size, 3, none⟩ = some t9) := fun V hV => by
        obtain ⟨a0, a1, a2⟩ := row_three (keepB hV HWn.out.box)
        obtain ⟨⟨b0, b1⟩, b2, b3⟩ := row_four (keepB hV Hw9.out)
        exact ⟨⟨a0, a1, a2⟩, b0, b1, b2, b3⟩
      have BZ : Hid (Below wc.heap.size wc wc.drew) := stepD (Below.refl _ _)
      obtain ⟨kb, hkb⟩ : ∃ kb : ByteArray, tv (kS (yp, yq, yr)) = .string kb := ⟨_, rfl⟩
      have HT : Hid (Tells (yp, yq, yr)) := HTy
      have HKx : Hid (∀ V, Below wc.heap.size wc V → Calls Tryz.prog 12 #[.agg #[.int .i64 yp, .int .i64 yq, tv yr]] V fun e w' => e = .returned (.string kb) ∧ Hid (Below V.heap.size V w')) := fun V hV => by
        rw [← hkb]
        exact key_any (T := 212) (er := er) yp yq HT.out.1 yr (by have h2 : yr.length ≤ 1000000 := HT.out.2; omega) V (HG.out.below' (stepB (stepB B5.out HWn.out.below) hV))
      have HKz : Hid (∀ V, Below wc.heap.size wc V → Calls Tryz.prog 13 #[.agg #[.int .i64 yp, q9, r9, t9]] V fun e w' => e = .returned (.string kb) ∧ Hid (Below V.heap.size V w')) := fun V hV => by
        rw [← hkb]
        exact Hk9.out V hV (HG.out.below' (stepB (stepB B5.out HWn.out.below) hV))
      have HKk : Hid (∀ V, Calls Tryz.prog 14 #[.agg #[.int .i64 yp, .int .i64 yq, tv yr]] V fun e w' => e = .returned (.int .i64 yp) ∧ Hid (Below V.heap.size V w')) := fun V => kind_any yp yq yr V
      have ekk : (kb.toList == kb.toList) = true := beq_self_eq_true _
      have enn : (kb.toList != kb.toList) = false := by unfold bne; rw [ekk]; rfl
      have ebb : (B != B) = false := by cases B <;> rfl
      have eyy : (yp != yp) = false := by unfold bne; rw [beq_self_eq_true yp]; rfl
      clear hkb
      go_upto_region 15 with fail
      go_region_held3 (fun w' => (w'.cell? ⟨w6.heap.size, 0, none⟩ = some (.int .i64 yp) ∧ w'.cell? ⟨w6.heap.size, 1, none⟩ = some (.int .i64 yq) ∧ w'.cell? ⟨w6.heap.size, 2, none⟩ = some (tv yr)) ∧ w'.cell? ⟨w8.heap.size, 0, none⟩ = some (.int .i64 yp) ∧ w'.cell? ⟨w8.heap.size, 1, none⟩ = some q9 ∧ w'.cell? ⟨w8.heap.size, 2, none⟩ = some r9 ∧ w'.cell? ⟨w8.heap.size, 3, none⟩ = some t9)
        (first | (with_reducible exact HS0) | (with_reducible exact HX0.out _ BZ.out))
        (first
          | (go_at_call 12; (with_reducible refine (HKx.out _ BZ.out).mono ?_); rintro e wz ⟨rfl, hz⟩
             have BZ : Hid (Below wc.heap.size wc wz) := stepB BZ.out hz.out)
          | (go_at_call 13; (with_reducible refine (HKz.out _ BZ.out).mono ?_); rintro e wz ⟨rfl, hz⟩
             have BZ : Hid (Below wc.heap.size wc wz) := stepB BZ.out hz.out)
          | (go_at_call 14; (with_reducible refine (HKk.out _).mono ?_); rintro e wz ⟨rfl, hz⟩
             have BZ : Hid (Below wc.heap.size wc wz) := stepB BZ.out hz.out))
      have D5 : Hid (Below W5.heap.size W5 wz) := stepB HWn.out.below BZ.out
      clear HS0 HX0 HKx HKz HKk ekk enn ebb eyy v0 v1 v2 u0 u1 u2 u3 Hw9 Hk9 HT
      obtain ⟨x12z, -⟩ := one_at (keepB D5.out X5.out)
      obtain ⟨We, hWe, HbE, hsE, HxE⟩ := box_new wz 29 (.slice pa n pc)
      have He := Lib.hid (each_any (.slice pa n pc) wz)
      rw [hWe] at He
      have hnf := fun w => eq_nilfunc3 (.func 43) #[] #[.pointer (some ⟨wz.heap.size, 0, none⟩)] w
      obtain ⟨Wd, hWd, Hbd, hsd, Hxd⟩ := cells_new We #[.int .i64 0] 3
      obtain ⟨d0, df⟩ := one_at Hxd.out
      obtain ⟨Wl, hWl⟩ : ∃ Wl, Wd.setCell ⟨We.heap.size, 0, none⟩ (.int .i64 0) = Wl := ⟨_, rfl⟩
      go_wp2_with (first | (go_at_call 15; (with_reducible refine He.out.mono ?_); rintro e wq ⟨rfl, rfl⟩))
      have hAh : Hid (Ah er We w.heap.size Wa.heap.size w2.heap.size V1.heap.size w4.heap.size wz.heap.size stop pa pc da dc qa qc n n2 duv S U We) := by
        have k5 : Below W5.heap.size W5 We := stepB D5.out HbE.out
        have a9 := keepB k5 (keepB (stepB (stepB h1.out (stepB h2.out.2.2 Hb2.out)) C5.out) Hst.out)
        have a10 := keepB k5 K5.out
        have a12 := keepB k5 X5.out
        have a13 := keepB k5 Y5.out
        have a15 : We.heap[w4.heap.size]? = some (.cells #[.slice qa n2 qc] 29) := keepB k5 Hx5.out
        have ab : We.heap[wz.heap.size]? = some (.cells #[.slice pa n pc] 29) := HxE.out
        exact ⟨a9, a10, a12, a13, a15, ab, S5.out.below k5, T5.out.below k5, Q5.out.below k5, R5.out.below k5, HG.out.below' (stepB B5.out k5), (Array.getElem?_eq_some_iff.1 a9).1, (Array.getElem?_eq_some_iff.1 a10).1, (Array.getElem?_eq_some_iff.1 a12).1, (Array.getElem?_eq_some_iff.1 a13).1, (Array.getElem?_eq_some_iff.1 a15).1, (Array.getElem?_eq_some_iff.1 ab).1⟩
      have HAh : Hid (∀ V, Below We.heap.size We V → Ah er We w.heap.size Wa.heap.size w2.heap.size V1.heap.size w4.heap.size wz.heap.size stop pa pc da dc qa qc n n2 duv S U V) := fun V hV =>
        ⟨keepB hV hAh.out.stp, keepB hV hAh.out.res, keepB hV hAh.out.sb, keepB hV hAh.out.tb, keepB hV hAh.out.ub, keepB hV hAh.out.eb, hAh.out.sl.below hV, hAh.out.dl.below hV, hAh.out.ul.below hV, hAh.out.vl.below hV, hAh.out.glob.below' hV, hAh.out.lt9, hAh.out.lt10, hAh.out.lt12, hAh.out.lt13, hAh.out.lt15, hAh.out.ltb⟩
      have BLe : Hid (Below w.heap.size w We) := stepB B5.out (stepB D5.out HbE.out)
      have HM0 : Hid (LM3 We.heap.size We We.heap.size 0 [] Wl) := by
        refine ⟨?_, ?_, Nat.le_refl _, by simp, List.nodup_nil, by simp⟩
        · rw [← hWl]; exact Hbd.out.setCell (p := ⟨We.heap.size, 0, none⟩) (Nat.le_refl _) _
        · rw [← hWl]; exact heap_setCell_same Wd We.heap.size 0 _ _ _ Hxd.out
      clear hWl hWd Hbd hsd Hxd d0 df hAh hWe HbE hsE HxE He hnf D5 BZ HWn S5 T5 Q5 R5 X5 Y5 K5 Hx5 h1 h2 h4 x12 x12z y13 y13'
      refine wp_loop_ghost_k (fun (k : Nat) (a' : Act) (W : World) => ∃ (pb : Nat) (Ds : List Nat) (x24 x110 x111 x112 x113 x114 x145 x146 x147 x148 x149 x150 x151 x152 x153 x154 x155 x156 x157 x158 x159 : Value), (∃ r : Nat, r + k = 2 ∧ Hid (LM3 We.heap.size We pb r Ds W)) ∧ a' = { tmps := #[.slice a n c, .slice b n2 d, .slice ca m1 cc, .int .i64 i, .int .i64 stop, undef, undef, undef, undef, .pointer (some ⟨w.heap.size, 0, none⟩), .pointer (some ⟨Wa.heap.size, 0, none⟩), .bool true, .pointer (some ⟨w2.heap.size, 0, none⟩), .pointer (some ⟨V1.heap.size, 0, none⟩), .bool true, .pointer (some ⟨w4.heap.size, 0, none⟩), duv, .bool true, .pointer (some ⟨w6.heap.size, 0, none⟩), .bool B, .bool B, .pointer (some ⟨w8.heap.size, 0, none⟩), .func (.func 43) #[] #[.pointer (some ⟨wz.heap.size, 0, none⟩)], .pointer (some ⟨pb, 0, none⟩), x24, undef, undef, undef, .bool true, .bool true, .bool false, .slice a n c, .int .i64 n, .bool false, .bool false, .slice b n2 d, .int .i64 n2, .bool false, .bool false, .bool false, .slice ca m1 cc, .int .i64 m1, .bool false, .bool false, .bool false, .bool true, .bool false, .bool false, undef, .tuple #[.agg #[.slice pa n pc], .slice da n dc, .bool true], .slice a n c, .slice ca m1 cc, .tuple #[.agg #[.slice pa n pc], .slice da n dc, .bool true], .agg #[.slice pa n pc], .slice da n dc, .bool true, .tuple #[.agg #[.slice qa n2 qc], duv, .bool true], .slice b n2 d, .slice ca m1 cc, .tuple #[.agg #[.slice qa n2 qc], duv, .bool true], .agg #[.slice qa n2 qc], duv, .bool true, .bool true, .bool false, .bool false, .bool true, .bool false, .bool false, .tuple #[stV (yp, yq, yr), .bool B], .agg #[.slice pa n pc], .int .i64 i, .tuple #[stV (yp, yq, yr), .bool B], stV (yp, yq, yr), .bool B, u75, u76, u77, u78, u79, u80, u81, u82, .agg dz, .bool B, u85, u86, u87, u88, .bool B, .bool B, .bool false, .bool false, .agg #[.int .i64 yp, .int .i64 yq, tv yr], .string kb, .agg #[.int .i64 yp, q9, r9, t9], .string kb, .bool false, .bool false, .bool false, .agg #[.int .i64 yp, .int .i64 yq, tv yr], .int .i64 yp, .pointer (some ⟨w8.heap.size, 0, none⟩), .int .i64 yp, .bool false, .bool false, .agg #[.slice pa n pc], .func (.func 43) #[] #[.pointer (some ⟨wz.heap.size, 0, none⟩)], .func (.func 43) #[] #[.pointer (some ⟨wz.heap.size, 0, none⟩)], .bool false, x110, x111, x112, x113, x114, undef, undef, undef, undef, undef, undef, undef, undef, undef, undef, undef, undef, undef, undef, undef, undef, undef, undef, undef, undef, undef, undef, undef, undef, undef, undef, undef, undef, undef, undef, x145, x146, x147, x148, x149, x150, x151, x152, x153, x154, x155, x156, x157, x158, x159, undef, undef, undef, undef, undef, undef, undef, undef, undef, undef, undef, undef, undef, undef, undef, undef, undef], defers := Ds.map markD }) 2 ⟨We.heap.size, [], _, _, _, _, _, _, _, _, _, _, _, _, _, _, _, _, _, _, _, _, _, ⟨0, rfl, HM0.out⟩, rfl⟩ ?_
      intro gk a' wr hI J K hJ hK
      clear HM0
      obtain ⟨pb, Ds, x24, x110, x111, x112, x113, x114, x145, x146, x147, x148, x149, x150, x151, x152, x153, x154, x155, x156, x157, x158, x159, ⟨r, hrk, HM⟩, rfl⟩ := hI
      have Hrk := Lib.hid hrk
      clear hrk
      by_cases hr2 : r < 2
      · have cp := HM.out.pc.cell
        obtain ⟨Wi, hWi, Hbi, hsi, Hxi⟩ := cells_new wr #[.int .i64 0] 3
        obtain ⟨d0, df⟩ := one_at Hxi.out
        obtain ⟨Wj, hWj⟩ : ∃ Wj, Wi.setCell ⟨wr.heap.size, 0, none⟩ (.int .i64 0) = Wj := ⟨_, rfl⟩
        go_wp2_with fail
        clear cp d0 df
        have hBr : We.heap.size ≤ wr.heap.size := HM.out.below.size
        have Hij : Hid (Below wr.heap.size wr Wj) := by
          show Below _ _ _
          rw [← hWj]; exact Hbi.out.setCell (p := ⟨wr.heap.size, 0, none⟩) (Nat.le_refl _) _
        have Hbj : Hid (Below We.heap.size We Wj) := HM.out.below.trans (Hij.out.mono hBr)
        have Hib : Hid (Boxed Wj wr.heap.size 3 (.int .i64 (([] : List Nat).length : Int))) := by
          show _ = _
          rw [← hWj]; exact heap_setCell_same Wi wr.heap.size 0 _ _ _ Hxi.out
        have Hpb : Hid (Boxed Wj pb 3 (.int .i64 (r : Int))) := keepB Hij.out HM.out.pc
        have hpi : pb < wr.heap.size := (Array.getElem?_eq_some_iff.1 HM.out.pc).1
        have Hmk : Hid (∀ D ∈ Ds, Wj.heap[D]? = some (.deferred (some []))) := fun D hD => keepB Hij.out (HM.out.mks D hD)
        obtain ⟨ib, hib⟩ : ∃ ib, wr.heap.size = ib := ⟨_, rfl⟩
        rw [hib] at Hib hBr hpi ⊢
        have hpB := HM.out.pbB
        have hij : Hid (ib < Wj.heap.size) := (Array.getElem?_eq_some_iff.1 Hib.out).1
        have HI : Hid (OwnFrom Wj.heap.size (fun (pre : List Nat) W => Boxed W ib 3 (.int .i64 (pre.length : Int)) ∧ Boxed W pb 3 (.int .i64 (r : Int)) ∧ Below We.heap.size We W ∧ ∀ D ∈ Ds, W.heap[D]? = some (.deferred (some [])))) := by
          show OwnFrom _ _
          refine OwnFrom.and (Own.from (boxed_own _ _ _) _) (OwnFrom.and (Own.from (boxed_own _ _ _) _) (OwnFrom.and (ownFrom_below (Nat.le_refl _) Hbj.out.size) ?_))
          intro s X Y row hs hg hr D hD
          refine (hg.block D (Array.getElem?_eq_some_iff.1 (hs D hD)).1 (fun e => ?_)).trans (hs D hD)
          have h1 := (hr D e.symm).1
          have h2 := (Array.getElem?_eq_some_iff.1 (Hmk.out D hD)).1
          omega
        have HBxo : Hid (∀ (x : Nat) (hb : Nat), OwnFrom Wj.heap.size (fun (_ : Unit) W => W.heap[hb]? = some (.cells #[.int .i64 (stA (S.map stP) x).1, .int .i64 (stA (S.map stP) x).2.1, tv (stA (S.map stP) x).2.2] 34))) := by
          intro x hb _ X Y row h1 hg hr
          exact (hg.block hb (Array.getElem?_eq_some_iff.1 h1).1 (fun e => by
            obtain ⟨-, o', ho, hc'⟩ := hr hb e.symm
            rw [h1] at ho; cases ho; cases hc')).trans h1
        have hcl : Hid (We.heap.size ≤ Wj.heap.size) := Hbj.out.size
        clear hWi hWj Hbi hsi Hxi hib
        refine (wpIn_wide (n := 10)).1 ?_
        apply rangeFunc_g (F := Fence.wide) (n := 10) rfl (by decide) (gf := 43) (lb := #[.pointer (some ⟨wz.heap.size, 0, none⟩)]) rfl trivial (enters_of Tryz.func43 (by kernel_rfl) rfl)
          (seach_n (10 - 1) (by decide) wz.heap.size We.heap.size pa pc (S.map stP) n elS (by omega) Wj (HAh.out Wj Hbj.out).eb (Nat.lt_of_lt_of_le (HAh.out Wj Hbj.out).ltb hcl.out) hcl.out (fun W' hb => (HAh.out W' (Hbj.out.trans hb)).sl)) (fun A B h => keeps_below h) (fun h k => h.trans k) ?hKb (Below.refl _ _) (fun _ => rfl)
          (fun (pre : List Nat) W => Boxed W ib 3 (.int .i64 (pre.length : Int)) ∧ Boxed W pb 3 (.int .i64 (r : Int)) ∧ Below We.heap.size We W ∧ ∀ D ∈ Ds, W.heap[D]? = some (.deferred (some [])))
          (fun cd (pre : List Nat) W => (cd = .ret ∧ pre ≠ List.range pre.length) ∨ (cd = .exit 2 ∧ r = 0 ∧ (pre.length : Int) = stop ∧ Boxed W ib 3 (.int .i64 (pre.length : Int)) ∧ Boxed W pb 3 (.int .i64 (r : Int)) ∧ Below We.heap.size We W ∧ ∀ D ∈ Ds, W.heap[D]? = some (.deferred (some []))))
          HI.out ?hIT ?hIx ⟨Hib.out, Hpb.out, Hbj.out, Hmk.out⟩ (fun x hb W => W.heap[hb]? = some (.cells #[.int .i64 (stA (S.map stP) x).1, .int .i64 (stA (S.map stP) x).2.1, tv (stA (S.map stP) x).2.2] 34)) HBxo.out ?hKT
        case hKb =>
          intro W o h
          exact ⟨(Below.refl _ W).grown (grownBy_putObj' _ _ _) (by have := hcl.out; omega) (fun k e => by cases e; have := hcl.out; omega), World.putObj_heap_other (by have := (HAh.out Wj Hbj.out).ltb; have := hcl.out; omega)⟩
        case hIT =>
          rintro s A Bw ⟨h1, h2, h3, h4⟩ hT
          exact ⟨keepB hT h1, keepB hT h2, h3.trans (hT.mono h3.size), fun D hD => keepB hT (h4 D hD)⟩
        case hIx =>
          rintro cd s X Y row (h | ⟨h1, h2, h3, h4⟩) hg hr
          · exact .inl h
          · exact .inr ⟨h1, h2, h3, HI.out s X Y row h4 hg hr⟩
        case hKT =>
          rintro s A Bw ⟨h1, h2, h3, h4⟩ hT
          exact KpS.of_below hT h3.size (Nat.lt_of_lt_of_le (HAh.out Wj Hbj.out).ltb h3.size)
        case hassign =>
          intro l x W K hK
          obtain ⟨hb, hhb⟩ : ∃ hb, W.heap.size = hb := ⟨_, rfl⟩
          have hnew := World.alloc_heap_new W (.cells #[.int .i64 (stA (S.map stP) x).1, .int .i64 (stA (S.map stP) x).2.1, tv (stA (S.map stP) x).2.2] 34)
          have Hnew := Lib.hid hnew
          clear hnew
          gi_wp2
          refine hK hb _ ((Below.refl _ _).alloc (Nat.le_refl _) _) ?_
          rw [← hhb]
          exact Hnew.out
        case hbody =>
          rintro l pre x hb Wx ⟨hi', hp', hb', hm'⟩ hx9 hlt
          obtain ⟨k, hk⟩ : ∃ k, pre.length = k := ⟨_, rfl⟩
          rw [hk] at hi' hlt
          have Hk := Lib.hid hk
          have Hah := Lib.hid (HAh.out Wx hb')
          have Hi := Lib.hid hi'
          have Hp := Lib.hid hp'
          have HbW := Lib.hid hb'
          have Hm := Lib.hid hm'
          have BZ : Hid (Below Wx.heap.size Wx Wx.drew) := stepD (Below.refl _ _)
          by_cases hxk : x = k
          · obtain ⟨da2, dc2, e2, hsto⟩ := stoAt HLs.out Hah.out.dl
            cases e2
            obtain ⟨bb, oo, p, q, rr, u, s, hda, hs, hcell, hdat⟩ := hsto k hlt
            have hsm : s ∈ S := List.mem_of_getElem? hs
            have es : stA (S.map stP) x = stP s := by unfold stA; rw [hxk, map_at hs]; rfl
            rw [es] at hx9 ⊢
            have htel : Tells (stP s) := ok_tells (b := 300) (by decide) (HOs.out s hsm)
            obtain ⟨kb2, hkb2⟩ : ∃ kb2 : ByteArray, tv (kS (stP s)) = .string kb2 := ⟨_, rfl⟩
            have HKz : Hid (∀ V, Below Wx.heap.size Wx V → Calls Tryz.prog 13 #[.agg #[p, q, rr, u]] V fun e w' => e = .returned (.string kb2) ∧ Hid (Below V.heap.size V w')) := fun V hV => by
              rw [← hkb2]
              exact rkey_any (T := 212) (er := er) s 300 (by decide) (HOs.out s hsm) _ V (hdat V hV) (Hah.out.glob.below' hV)
            obtain ⟨⟨zp, zq, zr⟩, hz⟩ : ∃ z, stP s = z := ⟨_, rfl⟩
            rw [hz] at hx9 htel hkb2 ⊢
            have HKx : Hid (∀ V, Below Wx.heap.size Wx V → Calls Tryz.prog 12 #[.agg #[.int .i64 zp, .int .i64 zq, tv zr]] V fun e w' => e = .returned (.string kb2) ∧ Hid (Below V.heap.size V w')) := fun V hV => by
              rw [← hkb2]
              exact key_any (T := 212) (er := er) zp zq htel.1 zr (by have h2 : zr.length ≤ 1000000 := htel.2; omega) V (Hah.out.glob.below' hV)
            have Hx9 : Hid (Wx.heap[hb]? = some (.cells #[.int .i64 zp, .int .i64 zq, tv zr] 34)) := hx9
            have Hcell := Lib.hid hcell
            have HX : Hid (∀ V, Below Wx.heap.size Wx V → V.cell? ⟨ib, 0, none⟩ = some (.int .i64 (k : Int)) ∧ V.cell? ⟨V1.heap.size, 0, none⟩ = some (.slice da n dc) ∧ (V.cell? ⟨hb, 0, none⟩ = some (.int .i64 zp) ∧ V.cell? ⟨hb, 1, none⟩ = some (.int .i64 zq) ∧ V.cell? ⟨hb, 2, none⟩ = some (tv zr)) ∧ V.cell? ⟨bb, oo + k * 4, none⟩ = some p ∧ V.cell? ⟨bb, oo + k * 4 + 1, none⟩ = some q ∧ V.cell? ⟨bb, oo + k * 4 + 2, none⟩ = some rr ∧ V.cell? ⟨bb, oo + k * 4 + 3, none⟩ = some u) := fun V hV =>
              ⟨(one_at (keepB hV Hi.out)).1, (one_at (keepB hV Hah.out.tb)).1, row_three (keepB hV Hx9.out), Hcell.out V hV⟩
            have g1 : decide (n ≤ k) = false := decide_eq_false (by omega)
            have hltn : k < n := hlt
            have ekk : (kb2.toList == kb2.toList) = true := beq_self_eq_true _
            have enn : (kb2.toList != kb2.toList) = false := by unfold bne; rw [ekk]; rfl
            subst hxk
            subst hda
            clear hk hx9 hi' hp' hb' hm' hcell hdat hs hsm htel hkb2 hz hsto es hlt
            gi_wp2
            refine wpIn_region_held (S := fun V => V.cell? ⟨ib, 0, none⟩ = some (.int .i64 (x : Int)) ∧ V.cell? ⟨V1.heap.size, 0, none⟩ = some (.slice (some ⟨bb, oo, none⟩) n dc) ∧ (V.cell? ⟨hb, 0, none⟩ = some (.int .i64 zp) ∧ V.cell? ⟨hb, 1, none⟩ = some (.int .i64 zq) ∧ V.cell? ⟨hb, 2, none⟩ = some (tv zr)) ∧ V.cell? ⟨bb, oo + x * 4, none⟩ = some p ∧ V.cell? ⟨bb, oo + x * 4 + 1, none⟩ = some q ∧ V.cell? ⟨bb, oo + x * 4 + 2, none⟩ = some rr ∧ V.cell? ⟨bb, oo + x * 4 + 3, none⟩ = some u) (by kernel_rfl) ?_
            refine heldIn_take 0 (some 117) ?_ (by kernel_rfl) rfl rfl (by kernel_rfl) (by kernel_rfl) (by kernel_rfl) (fun _ _ _ h => h) (by kernel_rfl) ?_ (fun _ _ _ => trivial) (HX.out _ BZ.out) ?_
            rotate_left
            · intro w hSw; (try dsimp only at hSw); go_simp <;> (try with_reducible rfl)
            simp only [Act.put, List.setIfInBounds_toArray, List.set_cons_zero, List.set_cons_succ]
            refine heldIn_take 1 (some 118) ?_ (by kernel_rfl) rfl rfl (by kernel_rfl) (by kernel_rfl) (by kernel_rfl) (fun _ _ _ h => h) (by kernel_rfl) ?_ (fun _ _ _ => trivial) (HX.out _ BZ.out) ?_
            rotate_left
            · intro w hSw; (try dsimp only at hSw); go_simp <;> (try with_reducible rfl)
            simp only [Act.put, List.setIfInBounds_toArray, List.set_cons_zero, List.set_cons_succ]
            refine heldIn_take 2 (some 119) ?_ (by kernel_rfl) rfl rfl (by kernel_rfl) (by kernel_rfl) (by kernel_rfl) (fun _ _ _ h => h) (by kernel_rfl) ?_ (fun _ _ _ => trivial) (HX.out _ BZ.out) ?_
            rotate_left
            · intro w hSw; (try dsimp only at hSw); go_simp <;> (try with_reducible rfl)
            simp only [Act.put, List.setIfInBounds_toArray, List.set_cons_zero, List.set_cons_succ]
            refine heldIn_take 3 (some 120) ?_ (by kernel_rfl) rfl rfl (by kernel_rfl) (by kernel_rfl) (by kernel_rfl) (fun _ _ _ h => h) (by kernel_rfl) ?_ (fun _ _ _ => trivial) (HX.out _ BZ.out) ?_
            rotate_left
            · intro w hSw; (try dsimp only at hSw); go_simp <;> (try with_reducible rfl)
            simp only [Act.put, List.setIfInBounds_toArray, List.set_cons_zero, List.set_cons_succ]
            refine heldIn_take 4 (some 121) ?_ (by kernel_rfl) rfl rfl (by kernel_rfl) (by kernel_rfl) (by kernel_rfl) (fun _ _ _ h => h) (by kernel_rfl) ?_ (fun _ _ _ => trivial) (HX.out _ BZ.out) ?_
            rotate_left
            · intro w hSw; (try dsimp only at hSw); go_simp <;> (try with_reducible rfl)
            simp only [Act.put, List.setIfInBounds_toArray, List.set_cons_zero, List.set_cons_succ]
            refine heldIn_take 5 (some 122) ?_ (by kernel_rfl) rfl rfl (by kernel_rfl) (by kernel_rfl) (by kernel_rfl) (fun _ _ _ h => h) (by kernel_rfl) ?_ (fun _ _ _ => trivial) (HX.out _ BZ.out) ?_
            rotate_left
            · intro w hSw; (try dsimp only at hSw); go_simp <;> (try with_reducible rfl)
            simp only [Act.put, List.setIfInBounds_toArray, List.set_cons_zero, List.set_cons_succ]
            refine heldIn_take 6 (some 123) ?_ (by kernel_rfl) rfl rfl (by kernel_rfl) (by kernel_rfl) (by kernel_rfl) (fun _ _ _ h => h) (by kernel_rfl) ?_ (fun _ _ _ => trivial) (HX.out _ BZ.out) ?_
            rotate_left
            · intro w hSw; (try dsimp only at hSw); go_simp <;> (try with_reducible rfl)
            simp only [Act.put, List.setIfInBounds_toArray, List.set_cons_zero, List.set_cons_succ]
            refine heldIn_take 7 (some 124) ?_ (by kernel_rfl) rfl rfl (by kernel_rfl) (by kernel_rfl) (by kernel_rfl) (fun _ _ _ h => h) (by kernel_rfl) ?_ (fun _ _ _ => trivial) (HX.out _ BZ.out) ?_
            rotate_left
            · intro w hSw; (try dsimp only at hSw); go_simp <;> (try with_reducible rfl)
            simp only [Act.put, List.setIfInBounds_toArray, List.set_cons_zero, List.set_cons_succ]
            refine heldIn_take 8 (some 125) ?_ (by kernel_rfl) rfl rfl (by kernel_rfl) (by kernel_rfl) (by kernel_rfl) (fun _ _ _ h => h) (by kernel_rfl) ?_ (fun _ _ _ => trivial) (HX.out _ BZ.out) ?_
            rotate_left
            · intro w hSw; (try dsimp only at hSw); go_simp <;> (try with_reducible rfl)
            simp only [Act.put, List.setIfInBounds_toArray, List.set_cons_zero, List.set_cons_succ]
            refine heldIn_take 9 (some 126) ?_ (by kernel_rfl) rfl rfl (by kernel_rfl) (by kernel_rfl) (by kernel_rfl) (fun _ _ _ h => h) (by kernel_rfl) ?_ (fun _ _ _ => trivial) (HX.out _ BZ.out) ?_
            rotate_left
            · intro w hSw; (try dsimp only at hSw); go_simp <;> (try with_reducible rfl)
            simp only [Act.put, List.setIfInBounds_toArray, List.set_cons_zero, List.set_cons_succ]
            refine heldIn_take 10 (some 127) ?_ (by kernel_rfl) rfl rfl (by kernel_rfl) (by kernel_rfl) (by kernel_rfl) (fun _ _ _ h => h) (by kernel_rfl) ?_ (fun _ _ _ => trivial) (HX.out _ BZ.out) ?_
            rotate_left
            · intro w hSw; (try dsimp only at hSw); go_simp <;> (try with_reducible rfl)
            simp only [Act.put, List.setIfInBounds_toArray, List.set_cons_zero, List.set_cons_succ]
            refine heldIn_take 12 (some 129) ?_ (by kernel_rfl) rfl rfl (by kernel_rfl) (by kernel_rfl) (by kernel_rfl) (fun _ _ _ h => h) (by kernel_rfl) ?_ (fun _ _ _ => trivial) (HX.out _ BZ.out) ?_
            rotate_left
            · intro w hSw; (try dsimp only at hSw); go_simp <;> (try with_reducible rfl)
            simp only [Act.put, List.setIfInBounds_toArray, List.set_cons_zero, List.set_cons_succ]
            refine heldIn_take 13 (some 130) ?_ (by kernel_rfl) rfl rfl (by kernel_rfl) (by kernel_rfl) (by kernel_rfl) (fun _ _ _ h => h) (by kernel_rfl) ?_ (fun _ _ _ => trivial) (HX.out _ BZ.out) ?_
            rotate_left
            · intro w hSw; (try dsimp only at hSw); go_simp <;> (try with_reducible rfl)
            simp only [Act.put, List.setIfInBounds_toArray, List.set_cons_zero, List.set_cons_succ]
            refine heldIn_take 14 (some 131) ?_ (by kernel_rfl) rfl rfl (by kernel_rfl) (by kernel_rfl) (by kernel_rfl) (fun _ _ _ h => h) (by kernel_rfl) ?_ (fun _ _ _ => trivial) (HX.out _ BZ.out) ?_
            rotate_left
            · intro w hSw; (try dsimp only at hSw); go_simp <;> (try with_reducible rfl)
            simp only [Act.put, List.setIfInBounds_toArray, List.set_cons_zero, List.set_cons_succ]
            refine heldIn_take 15 (some 132) ?_ (by kernel_rfl) rfl rfl (by kernel_rfl) (by kernel_rfl) (by kernel_rfl) (fun _ _ _ h => h) (by kernel_rfl) ?_ (fun _ _ _ => trivial) (HX.out _ BZ.out) ?_
            rotate_left
            · intro w hSw; (try dsimp only at hSw); go_simp <;> (try with_reducible rfl)
            simp only [Act.put, List.setIfInBounds_toArray, List.set_cons_zero, List.set_cons_succ]
            refine heldIn_one 11 (by kernel_rfl) rfl (fun K hK => ?_)
            go_simp
            refine ⟨trivial, ?_⟩
            gi_at_call 12
            refine (CallsIn.inRound l (callsIn_wide.2 (HKx.out _ BZ.out))).mono ?_
            rintro e wq ⟨rfl, hq⟩
            have BZ : Hid (Below Wx.heap.size Wx wq) := stepB BZ.out hq.out
            refine hK _ _ (HX.out _ BZ.out) ?_
            clear hK K
            try simp only [Act.put, List.setIfInBounds_toArray, List.set_cons_zero, List.set_cons_succ]
            refine heldIn_one 16 (by kernel_rfl) rfl (fun K hK => ?_)
            go_simp
            refine ⟨trivial, ?_⟩
            gi_at_call 13
            refine (CallsIn.inRound l (callsIn_wide.2 (HKz.out _ BZ.out))).mono ?_
            rintro e wq ⟨rfl, hq⟩
            have BZ : Hid (Below Wx.heap.size Wx wq) := stepB BZ.out hq.out
            refine hK _ _ (HX.out _ BZ.out) ?_
            clear hK K
            try simp only [Act.put, List.setIfInBounds_toArray, List.set_cons_zero, List.set_cons_succ]
            refine heldIn_take 17 (some 134) ?_ (by kernel_rfl) rfl rfl (by kernel_rfl) (by kernel_rfl) (by kernel_rfl) (fun _ _ _ h => h) (by kernel_rfl) ?_ (fun _ _ _ => trivial) (HX.out _ BZ.out) ?_
            rotate_left
            · intro w hSw; (try dsimp only at hSw); go_simp <;> (try with_reducible rfl)
            simp only [Act.put, List.setIfInBounds_toArray, List.set_cons_zero, List.set_cons_succ]
            refine heldIn_take 18 (some 135) ?_ (by kernel_rfl) rfl rfl (by kernel_rfl) (by kernel_rfl) (by kernel_rfl) (fun _ _ _ h => h) (by kernel_rfl) ?_ (fun _ _ _ => trivial) (HX.out _ BZ.out) ?_
            rotate_left
            · intro w hSw; (try dsimp only at hSw); go_simp <;> (try with_reducible rfl)
            simp only [Act.put, List.setIfInBounds_toArray, List.set_cons_zero, List.set_cons_succ]
            refine heldIn_done (by kernel_rfl) ?_ _
            have hn100' : x + 1 ≤ 1000 := by omega
            have I6 : Hid (Boxed wq ib 3 (.int .i64 (x : Int))) := keepB BZ.out Hi.out
            have P6 : Hid (Boxed wq pb 3 (.int .i64 (r : Int))) := keepB BZ.out Hp.out
            obtain ⟨c7, f7⟩ := one_at I6.out
            obtain ⟨Wz, hWz⟩ : ∃ Wz, wq.setCell ⟨ib, 0, none⟩ (.int .i64 ((x : Int) + 1)) = Wz := ⟨_, rfl⟩
            have I7 : Hid (Boxed Wz ib 3 (.int .i64 ((x : Int) + 1))) := by
              show _ = _
              rw [← hWz]; exact heap_setCell_same wq ib 0 _ _ _ I6.out
            have P7 : Hid (Boxed Wz pb 3 (.int .i64 (r : Int))) := by
              show _ = _
              rw [← hWz]; exact keepS (by omega) P6.out
            have B7 : Hid (Below We.heap.size Wx Wz) := by
              show Below _ _ _
              rw [← hWz]; exact (BZ.out.mono HbW.out.size).setCell (p := ⟨ib, 0, none⟩) hBr _
            have Hlen : Hid (((pre ++ [x]).length : Int) = (x : Int) + 1) := by
              show _ = _
              rw [List.length_append, Hk.out]; rfl
            have HFin : Hid (KeepsOthers Wx Wz ∧ KpS We.heap.size wz.heap.size Wx Wz ∧ Boxed Wz ib 3 (.int .i64 ((pre ++ [x]).length : Int)) ∧ Boxed Wz pb 3 (.int .i64 (r : Int)) ∧ Below We.heap.size We Wz ∧ ∀ D ∈ Ds, Wz.heap[D]? = some (.deferred (some []))) := by
              have hkz : KeepsOthers wq Wz := by rw [← hWz]; exact KeepsOthers.setCell wq ⟨ib, 0, none⟩ (.int .i64 ((x : Int) + 1))
              have hk := (keeps_below BZ.out).trans hkz
              refine ⟨hk, ⟨B7.out, B7.out.block _ Hah.out.ltb⟩, ?_, P7.out, HbW.out.trans B7.out, fun D hD => hk.same D _ (Hm.out D hD) rfl⟩
              rw [Hlen.out]; exact I7.out
            obtain ⟨c8, -⟩ := one_at I7.out
            obtain ⟨c9, -⟩ := one_at P7.out
            obtain ⟨c1, -⟩ := one_at (HAh.out Wz (HbW.out.trans B7.out)).stp
            have hpne : pb ≠ ib := by omega
            have c9' : wq.cell? ⟨pb, 0, none⟩ = some (.int .i64 (r : Int)) := (one_at P6.out).1
            by_cases hr0 : r = 0
            · have hz0 : ((r : Int) == 0) = true := by rw [hr0]; rfl
              by_cases hst : (x : Int) + 1 = stop
              · have hs1 : (((x : Int) + 1) == stop) = true := by rw [hst]; exact beq_self_eq_true _
                have Hst2 := Lib.hid hst
                have Hr0 := Lib.hid hr0
                clear hst hr0
                gi_wp2
                exact ⟨HFin.out.1, .inr ⟨rfl, Hr0.out, Hlen.out.trans Hst2.out, HFin.out.2.2⟩⟩
              · have hs1 : (((x : Int) + 1) == stop) = false := by simpa using hst
                clear hst hr0
                gi_wp2
                exact HFin.out
            · have hz0 : ((r : Int) == 0) = false := by simp; omega
              clear hr0
              gi_wp2
              exact HFin.out
          · have hne : ((x : Int) != (k : Int)) = true := by simp; omega
            have hne2 : (x != k) = true := by simpa using hxk
            have hbad : Hid (pre ++ [x] ≠ List.range (pre ++ [x]).length) := by
              intro e
              rw [List.length_append, List.length_singleton] at e
              exact hxk ((range_snoc e).trans Hk.out)
            have HX : Hid (∀ V, Below Wx.heap.size Wx V → V.cell? ⟨ib, 0, none⟩ = some (.int .i64 (k : Int))) := fun V hV => (one_at (keepB hV Hi.out)).1
            obtain ⟨r0, r1⟩ := one_at (keepB BZ.out Hah.out.res)
            clear hk hx9 hi' hp' hb' hm' hlt
            gi_wp2
            refine wpIn_region_held (S := fun V => V.cell? ⟨ib, 0, none⟩ = some (.int .i64 (k : Int))) (by kernel_rfl) ?_
            refine heldIn_take 0 (some 117) ?_ (by kernel_rfl) rfl rfl (by kernel_rfl) (by kernel_rfl) (by kernel_rfl) (fun _ _ _ h => h) (by kernel_rfl) ?_ (fun _ _ _ => trivial) (HX.out _ BZ.out) ?_
            rotate_left
            · intro w hSw; (try dsimp only at hSw); go_simp <;> (try with_reducible rfl)
            simp only [Act.put, List.setIfInBounds_toArray, List.set_cons_zero, List.set_cons_succ]
            refine heldIn_take 1 (some 118) ?_ (by kernel_rfl) rfl rfl (by kernel_rfl) (by kernel_rfl) (by kernel_rfl) (fun _ _ _ h => h) (by kernel_rfl) ?_ (fun _ _ _ => trivial) (HX.out _ BZ.out) ?_
            rotate_left
            · intro w hSw; (try dsimp only at hSw); go_simp <;> (try with_reducible rfl)
            simp only [Act.put, List.setIfInBounds_toArray, List.set_cons_zero, List.set_cons_succ]
            refine heldIn_take 2 (some 119) ?_ (by kernel_rfl) rfl rfl (by kernel_rfl) (by kernel_rfl) (by kernel_rfl) (fun _ _ _ h => h) (by kernel_rfl) ?_ (fun _ _ _ => trivial) (HX.out _ BZ.out) ?_
            rotate_left
            · intro w hSw; (try dsimp only at hSw); go_simp <;> (try with_reducible rfl)
            simp only [Act.put, List.setIfInBounds_toArray, List.set_cons_zero, List.set_cons_succ]
            refine heldIn_take 3 (some 120) ?_ (by kernel_rfl) rfl rfl (by kernel_rfl) (by kernel_rfl) (by kernel_rfl) (fun _ _ _ h => h) (by kernel_rfl) ?_ (fun _ _ _ => trivial) (HX.out _ BZ.out) ?_
            rotate_left
            · intro w hSw; (try dsimp only at hSw); go_simp <;> (try with_reducible rfl)
            simp only [Act.put, List.setIfInBounds_toArray, List.set_cons_zero, List.set_cons_succ]
            refine heldIn_skip 4 (some 121) (by kernel_rfl) rfl rfl (by kernel_rfl) (by kernel_rfl) (by kernel_rfl) (fun _ _ _ h => h) (by kernel_rfl) (fun _ _ _ => trivial) (HX.out _ BZ.out) ?_
            simp only [Act.put, List.setIfInBounds_toArray, List.set_cons_zero, List.set_cons_succ]
            refine heldIn_skip 5 (some 122) (by kernel_rfl) rfl rfl (by kernel_rfl) (by kernel_rfl) (by kernel_rfl) (fun _ _ _ h => h) (by kernel_rfl) (fun _ _ _ => trivial) (HX.out _ BZ.out) ?_
            simp only [Act.put, List.setIfInBounds_toArray, List.set_cons_zero, List.set_cons_succ]
            refine heldIn_skip 6 (some 123) (by kernel_rfl) rfl rfl (by kernel_rfl) (by kernel_rfl) (by kernel_rfl) (fun _ _ _ h => h) (by kernel_rfl) (fun _ _ _ => trivial) (HX.out _ BZ.out) ?_
            simp only [Act.put, List.setIfInBounds_toArray, List.set_cons_zero, List.set_cons_succ]
            refine heldIn_skip 7 (some 124) (by kernel_rfl) rfl rfl (by kernel_rfl) (by kernel_rfl) (by kernel_rfl) (fun _ _ _ h => h) (by kernel_rfl) (fun _ _ _ => trivial) (HX.out _ BZ.out) ?_
            simp only [Act.put, List.setIfInBounds_toArray, List.set_cons_zero, List.set_cons_succ]
            refine heldIn_take 8 (some 125) ?_ (by kernel_rfl) rfl rfl (by kernel_rfl) (by kernel_rfl) (by kernel_rfl) (fun _ _ _ h => h) (by kernel_rfl) ?_ (fun _ _ _ => trivial) (HX.out _ BZ.out) ?_
            rotate_left
            · intro w hSw; (try dsimp only at hSw); go_simp <;> (try with_reducible rfl)
            simp only [Act.put, List.setIfInBounds_toArray, List.set_cons_zero, List.set_cons_succ]
            refine heldIn_take 9 (some 126) ?_ (by kernel_rfl) rfl rfl (by kernel_rfl) (by kernel_rfl) (by kernel_rfl) (fun _ _ _ h => h) (by kernel_rfl) ?_ (fun _ _ _ => trivial) (HX.out _ BZ.out) ?_
            rotate_left
            · intro w hSw; (try dsimp only at hSw); go_simp <;> (try with_reducible rfl)
            simp only [Act.put, List.setIfInBounds_toArray, List.set_cons_zero, List.set_cons_succ]
            refine heldIn_skip 10 (some 127) (by kernel_rfl) rfl rfl (by kernel_rfl) (by kernel_rfl) (by kernel_rfl) (fun _ _ _ h => h) (by kernel_rfl) (fun _ _ _ => trivial) (HX.out _ BZ.out) ?_
            simp only [Act.put, List.setIfInBounds_toArray, List.set_cons_zero, List.set_cons_succ]
            refine heldIn_skip 11 (some 128) (by kernel_rfl) rfl rfl (by kernel_rfl) (by kernel_rfl) (by kernel_rfl) (fun _ _ _ h => h) (by kernel_rfl) (fun _ _ _ => trivial) (HX.out _ BZ.out) ?_
            simp only [Act.put, List.setIfInBounds_toArray, List.set_cons_zero, List.set_cons_succ]
            refine heldIn_skip 12 (some 129) (by kernel_rfl) rfl rfl (by kernel_rfl) (by kernel_rfl) (by kernel_rfl) (fun _ _ _ h => h) (by kernel_rfl) (fun _ _ _ => trivial) (HX.out _ BZ.out) ?_
            simp only [Act.put, List.setIfInBounds_toArray, List.set_cons_zero, List.set_cons_succ]
            refine heldIn_skip 13 (some 130) (by kernel_rfl) rfl rfl (by kernel_rfl) (by kernel_rfl) (by kernel_rfl) (fun _ _ _ h => h) (by kernel_rfl) (fun _ _ _ => trivial) (HX.out _ BZ.out) ?_
            simp only [Act.put, List.setIfInBounds_toArray, List.set_cons_zero, List.set_cons_succ]
            refine heldIn_skip 14 (some 131) (by kernel_rfl) rfl rfl (by kernel_rfl) (by kernel_rfl) (by kernel_rfl) (fun _ _ _ h => h) (by kernel_rfl) (fun _ _ _ => trivial) (HX.out _ BZ.out) ?_
            simp only [Act.put, List.setIfInBounds_toArray, List.set_cons_zero, List.set_cons_succ]
            refine heldIn_skip 15 (some 132) (by kernel_rfl) rfl rfl (by kernel_rfl) (by kernel_rfl) (by kernel_rfl) (fun _ _ _ h => h) (by kernel_rfl) (fun _ _ _ => trivial) (HX.out _ BZ.out) ?_
            simp only [Act.put, List.setIfInBounds_toArray, List.set_cons_zero, List.set_cons_succ]
            refine heldIn_skip 16 (some 133) (by kernel_rfl) rfl rfl (by kernel_rfl) (by kernel_rfl) (by kernel_rfl) (fun _ _ _ h => h) (by kernel_rfl) (fun _ _ _ => trivial) (HX.out _ BZ.out) ?_
            simp only [Act.put, List.setIfInBounds_toArray, List.set_cons_zero, List.set_cons_succ]
            refine heldIn_skip 17 (some 134) (by kernel_rfl) rfl rfl (by kernel_rfl) (by kernel_rfl) (by kernel_rfl) (fun _ _ _ h => h) (by kernel_rfl) (fun _ _ _ => trivial) (HX.out _ BZ.out) ?_
            simp only [Act.put, List.setIfInBounds_toArray, List.set_cons_zero, List.set_cons_succ]
            refine heldIn_take 18 (some 135) ?_ (by kernel_rfl) rfl rfl (by kernel_rfl) (by kernel_rfl) (by kernel_rfl) (fun _ _ _ h => h) (by kernel_rfl) ?_ (fun _ _ _ => trivial) (HX.out _ BZ.out) ?_
            rotate_left
            · intro w hSw; (try dsimp only at hSw); go_simp <;> (try with_reducible rfl)
            simp only [Act.put, List.setIfInBounds_toArray, List.set_cons_zero, List.set_cons_succ]
            refine heldIn_done (by kernel_rfl) ?_ _
            gi_wp2
            exact ⟨(keeps_below (BZ.out)).trans (KeepsOthers.setCell _ ⟨Wa.heap.size, 0, none⟩ (.bool false)), .inl ⟨rfl, hbad.out⟩⟩
        case hdone =>
          rintro D ys W hD hys ⟨hi', hp', hb', hm'⟩ hK
          rw [hys, List.length_range] at hi'
          have Hah := Lib.hid (HAh.out W hb')
          obtain ⟨c10, -⟩ := one_at hi'
          obtain ⟨c9, -⟩ := one_at hp'
          obtain ⟨c13, -⟩ := one_at Hah.out.tb
          have HbW := Lib.hid hb'
          have HmW := Lib.hid hm'
          have HKd := Lib.hid hK
          have HD := Lib.hid hD
          have hnn : ((n : Int) != (n : Int)) = false := by unfold bne; rw [beq_self_eq_true]; rfl
          have hr3 : r + 1 ≤ 1000 := by omega
          clear hi' hp' hb' hm' hK hD hys
          go_wp2
          have HW : ∀ W7, W7 = W.alloc (.cells #[.int .i64 ((r : Int) + 1)] 3) → Hid (LM3 We.heap.size We W.heap.size ((r + 1 : Nat) : Int) (D :: Ds) W7) := by
            rintro W7 rfl
            have hsW : We.heap.size ≤ W.heap.size := HbW.out.size
            refine ⟨HbW.out.alloc hsW _, ?_, hsW, ?_, ?_, ?_⟩
            · have := Boxed.new W 3 (.int .i64 ((r : Int) + 1))
              simpa using this
            · intro D' hD'
              rcases List.mem_cons.1 hD' with rfl | hD'
              · exact keepA _ HKd.out
              · exact keepA _ (HmW.out D' hD')
            · refine List.nodup_cons.2 ⟨fun hD' => ?_, HM.out.nd⟩
              have h1 := (Array.getElem?_eq_some_iff.1 (Hmk.out D hD')).1
              have h2 := HD.out
              omega
            · intro D' hD'
              rcases List.mem_cons.1 hD' with rfl | hD'
              · have h2 := HD.out
                have h3 := hcl.out
                omega
              · exact HM.out.ge D' hD'
          refine Handed.intro (gk - 1) (by have := Hrk.out; omega) (hJ _ _ _ ?_)
          exact ⟨_, D :: Ds, _, _, _, _, _, _, _, _, _, _, _, _, _, _, _, _, _, _, _, _, _, ⟨r + 1, by have := Hrk.out; omega, HW _ rfl⟩, rfl⟩
        case hstop =>
          rintro D cd pre W hD ⟨k9, hk9, hpre⟩ (⟨rfl, hbad⟩ | ⟨rfl, hr0, hst, hi', hp', hb', hm'⟩) hK
          · exact absurd (by rw [hpre, List.length_range]) hbad
          refine wpIn_wide.2 ?_
          have Hah := Lib.hid (HAh.out W hb')
          obtain ⟨c10, -⟩ := one_at hi'
          have c9 : W.cell? ⟨pb, 0, none⟩ = some (.int .i64 0) := by have := (one_at hp').1; rw [hr0] at this; exact this
          obtain ⟨c13, -⟩ := one_at Hah.out.tb
          have c1 : W.cell? ⟨w.heap.size, 0, none⟩ = some (.int .i64 (pre.length : Int)) := by rw [hst]; exact (one_at Hah.out.stp).1
          have HbW := Lib.hid hb'
          have HmW := Lib.hid hm'
          have HKd := Lib.hid hK
          have HD := Lib.hid hD
          have Hr0 := Lib.hid hr0
          clear hi' hp' hb' hm' hK hD hr0 hst hpre
          generalize pre.length = p at *
          go_wp2
          all_goals
            have HW : ∀ W7, W7 = W.alloc (.cells #[.int .i64 1] 3) → Hid (LM3 We.heap.size We W.heap.size ((r + 1 : Nat) : Int) (D :: Ds) W7) := by
              rintro W7 rfl
              have hsW : We.heap.size ≤ W.heap.size := HbW.out.size
              refine ⟨HbW.out.alloc hsW _, ?_, hsW, ?_, ?_, ?_⟩
              · have := Boxed.new W 3 (.int .i64 1)
                rw [Hr0.out]; exact this
              · intro D' hD'
                rcases List.mem_cons.1 hD' with rfl | hD'
                · exact keepA _ HKd.out
                · exact keepA _ (HmW.out D' hD')
              · refine List.nodup_cons.2 ⟨fun hD' => ?_, HM.out.nd⟩
                have h1 := (Array.getElem?_eq_some_iff.1 (Hmk.out D hD')).1
                have h2 := HD.out
                omega
              · intro D' hD'
                rcases List.mem_cons.1 hD' with rfl | hD'
                · have h2 := HD.out
                  have h3 := hcl.out
                  omega
                · exact HM.out.ge D' hD'
            refine Handed.intro (gk - 1) (by have := Hrk.out; omega) (hJ _ _ _ ?_)
            exact ⟨_, D :: Ds, _, _, _, _, _, _, _, _, _, _, _, _, _, _, _, _, _, _, _, _, _, ⟨r + 1, by have := Hrk.out; omega, HW _ rfl⟩, rfl⟩
      · have hr22 : r = 2 := by have := Hrk.out; omega
        have cp : wr.cell? ⟨pb, 0, none⟩ = some (.int .i64 2) := by have := (one_at HM.out.pc).1; rw [hr22] at this; exact this
        have HC := Lib.hid HM.out.below
        have HLw : Hid (Below w.heap.size w wr) := stepB BLe.out HC.out
        have Hah := Lib.hid (HAh.out wr HC.out)
        clear hr22 hr2
        go_upto_region 35 with fail
        obtain ⟨z12, -⟩ := one_at Hah.out.sb
        obtain ⟨z13, -⟩ := one_at Hah.out.tb
        obtain ⟨z15, -⟩ := one_at Hah.out.ub
        have HS0 := And.intro z12 (And.intro z15 z13)
        have HX : Hid (∀ V, Below wr.heap.size wr V → V.cell? ⟨w2.heap.size, 0, none⟩ = some (.slice pa n pc) ∧ V.cell? ⟨w4.heap.size, 0, none⟩ = some (.slice qa n2 qc) ∧ V.cell? ⟨V1.heap.size, 0, none⟩ = some (.slice da n dc)) := fun V hV => ⟨(one_at (keepB hV Hah.out.sb)).1, (one_at (keepB hV Hah.out.ub)).1, (one_at (keepB hV Hah.out.tb)).1⟩
        have HXs : Hid (∀ V, Below wr.heap.size wr V → (V.setCell ⟨Wa.heap.size, 0, none⟩ (.bool true)).cell? ⟨w2.heap.size, 0, none⟩ = some (.slice pa n pc) ∧ (V.setCell ⟨Wa.heap.size, 0, none⟩ (.bool true)).cell? ⟨w4.heap.size, 0, none⟩ = some (.slice qa n2 qc) ∧ (V.setCell ⟨Wa.heap.size, 0, none⟩ (.bool true)).cell? ⟨V1.heap.size, 0, none⟩ = some (.slice da n dc)) := fun V hV =>
          ⟨cellS (ne_of_type Hah.out.sb Hah.out.res (by decide)) (HX.out V hV).1, cellS (ne_of_type Hah.out.ub Hah.out.res (by decide)) (HX.out V hV).2.1, cellS (ne_of_type Hah.out.tb Hah.out.res (by decide)) (HX.out V hV).2.2⟩
        have elU : (U.map stP).length = n2 := by rw [List.length_map]; exact HLu.out
        obtain ⟨D, hDD⟩ : ∃ D, difR (S.map stP) (U.map stP) = D := ⟨_, rfl⟩
        obtain ⟨q, hq⟩ : ∃ q, D.length = q := ⟨_, rfl⟩
        have hq100 : q ≤ 100 := by have := difR_len (S.map stP) (U.map stP); rw [elS, elU, hDD, hq] at this; omega
        obtain ⟨E, hE⟩ : ∃ E, decide (S.map stP = U.map stP) = E := ⟨_, rfl⟩
        have Hd1 : Hid (∀ V, Below wr.heap.size wr V → Calls Tryz.prog 17 #[.agg #[.slice pa n pc], .agg #[.slice qa n2 qc]] V fun e w' => ∃ ra rc, e = .returned (.slice ra q rc) ∧ Hid (IAt w' ra D ∧ Below V.heap.size V w')) := fun V hV => by
          refine (differ_any pa qa pc qc (S.map stP) (U.map stP) n n2 elS elU hn100 hn2100 V (Hah.out.sl.below hV) (Hah.out.ul.below hV)).mono fun e w' ⟨v, e1, h9⟩ => ?_
          rw [hDD, hq] at h9
          obtain ⟨ra, rc, rfl, hs, -⟩ := row_sl h9.out.1
          exact ⟨ra, rc, e1, SlAt.ints hs, h9.out.2⟩
        have Hd2 : Hid (∀ V, Below wr.heap.size wr V → Calls Tryz.prog 18 #[.slice da n dc, duv] V fun e w' => ∃ ra rc, e = .returned (.slice ra q rc) ∧ Hid (IAt w' ra D ∧ Below V.heap.size V w')) := fun V hV => by
          refine (rdiffer_any S U n n2 300 300 (by decide) (by decide) HOs.out HOu.out HLs.out HLu.out hn100 hn2100 (.slice da n dc) duv V (Hah.out.dl.below hV) (Hah.out.vl.below hV)).mono fun e w' ⟨v, e1, h9⟩ => ?_
          rw [hDD, hq] at h9
          obtain ⟨ra, rc, rfl, hs, -⟩ := row_sl h9.out.1
          exact ⟨ra, rc, e1, SlAt.ints hs, h9.out.2⟩
        have Hd3 : Hid (∀ (x y : Option Addr) (k k' : Nat) V, IAt V x D → IAt V y D → Calls Tryz.prog 16 #[.slice x q k, .slice y q k'] V fun e w' => e = .returned (.bool true) ∧ Hid (Below V.heap.size V w')) := fun x y k k' V hx hy => by
          have h := sameInts_any x y k k' D D V hx hy (by omega) (by omega)
          rw [hq, decide_eq_true rfl] at h
          exact h.mono fun e w' ⟨e1, j, hj⟩ => ⟨e1, hj ▸ below_drewN (Below.refl _ _) j⟩
        have Hd4 : Hid (∀ V, Below wr.heap.size wr V → Calls Tryz.prog 19 #[.agg #[.slice pa n pc], .agg #[.slice qa n2 qc]] V fun e w' => e = .returned (.bool E) ∧ Hid (Below V.heap.size V w')) := fun V hV => by
          rw [← hE]; exact ssame_any pa qa pc qc (S.map stP) (U.map stP) n n2 elS elU hn100 hn2100 V (Hah.out.sl.below hV) (Hah.out.ul.below hV)
        have Hd5 : Hid (∀ V, Below wr.heap.size wr V → Calls Tryz.prog 20 #[.slice da n dc, duv] V fun e w' => e = .returned (.bool E) ∧ Hid (Below V.heap.size V w')) := fun V hV => by
          rw [← hE]; exact rsame7_any S U n n2 300 300 (by decide) (by decide) HOs.out HOu.out HLs.out HLu.out hn100 hn2100 (.slice da n dc) duv V (Hah.out.dl.below hV) (Hah.out.vl.below hV)
        have eEE : (E == E) = true := beq_self_eq_true _
        have BZ : Hid (Below wr.heap.size wr wr.drew) := stepD (Below.refl _ _)
        clear hDD hq hE elU cp
        go_region_held3 (fun w' => w'.cell? ⟨w2.heap.size, 0, none⟩ = some (.slice pa n pc) ∧ w'.cell? ⟨w4.heap.size, 0, none⟩ = some (.slice qa n2 qc) ∧ w'.cell? ⟨V1.heap.size, 0, none⟩ = some (.slice da n dc))
          (first | (with_reducible exact HS0) | (with_reducible exact HX.out _ BZ.out))
          (first
            | (go_at_call 17; (with_reducible refine (Hd1.out _ BZ.out).mono ?_); rintro e wq ⟨ra, rc, rfl, hq⟩
               have BZ : Hid (Below wr.heap.size wr wq) := stepB BZ.out hq.out.2
               have Ia := Lib.hid hq.out.1)
            | (go_at_call 18; (with_reducible refine (Hd2.out _ BZ.out).mono ?_); rintro e wq ⟨rb, rd, rfl, hq⟩
               have BZ : Hid (Below wr.heap.size wr wq) := stepB BZ.out hq.out.2
               have Ia := Lib.hid (Ia.out.below hq.out.2)
               have Ib := Lib.hid hq.out.1)
            | (go_at_call 16; (with_reducible refine (Hd3.out _ _ _ _ _ Ia.out Ib.out).mono ?_); rintro e wq ⟨rfl, hq⟩
               have BZ : Hid (Below wr.heap.size wr wq) := stepB BZ.out hq.out))
        all_goals
          have HS1 := HX.out _ BZ.out
          have BZ : Hid (Below wr.heap.size wr wq.drew) := stepD BZ.out
          clear HS0
          go_wp2_with fail
          go_region_held3 (fun w' => w'.cell? ⟨w2.heap.size, 0, none⟩ = some (.slice pa n pc) ∧ w'.cell? ⟨w4.heap.size, 0, none⟩ = some (.slice qa n2 qc) ∧ w'.cell? ⟨V1.heap.size, 0, none⟩ = some (.slice da n dc))
            (first | (with_reducible exact HS1) | (with_reducible exact HX.out _ BZ.out) | (with_reducible exact HXs.out _ BZ.out))
            (first
              | (go_at_call 19; (with_reducible refine (Hd4.out _ BZ.out).mono ?_); rintro e wt ⟨rfl, ht⟩
                 have BZ : Hid (Below wr.heap.size wr wt) := stepB BZ.out ht.out)
              | (go_at_call 20; (with_reducible refine (Hd5.out _ BZ.out).mono ?_); rintro e wt ⟨rfl, ht⟩
                 have BZ : Hid (Below wr.heap.size wr wt) := stepB BZ.out ht.out
                 obtain ⟨r0, r1⟩ := one_at (keepB BZ.out Hah.out.res)))
          all_goals
            go_wp2_with fail
            refine leave3D w.heap.size Wa.heap.size true Ds rfl rfl HM.out.nd (fun D hD => ?_) (fun D hD => ?_) ?_ (World.cell?_setCell_same' _ _ _ (by rw [r0]; rfl)) (fun w' h' => ⟨rfl, ?_⟩)
            · exact (KeepsOthers.setCell wt ⟨Wa.heap.size, 0, none⟩ (.bool true)).same D _ (keepB BZ.out (HM.out.mks D hD)) rfl
            · have h8 := HM.out.ge D hD
              have h9 := BLe.out.size
              omega
            · have h9 := (stepB HLw.out BZ.out).size
              simpa using h9
            · show Below _ _ _
              exact ((stepB HLw.out BZ.out).setCell (p := ⟨Wa.heap.size, 0, none⟩) Hwa.out _).trans h'
end Go.Proofs.YtcjfcomadcebnaaGreatDoor
