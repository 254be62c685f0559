/- The walk of the statement on operations on unlike objects. -/
import Derived.Test.YtcjfcomadcebnaaGreatDoorM10
import Derived.Test.YtcjfcomadcebnaaGreatDoorM11
namespace Go.Proofs.YtcjfcomadcebnaaGreatDoor
open Go.RowKit Go.Maps Go.WideMaps Go.WideElems Go.ChangeShapes Go.WideShapes
variable {er : Nat → Addr}

/-- A call as a value. -/
abbrev coV (c : CO) : Value := .agg #[.int .i64 c.obj, .int .i64 c.op, .int .i64 c.key, .int .i64 c.val]
theorem row_quad {W : World} {B : Nat} {x y z u : Value} {t : TypeId} (h : W.heap[B]? = some (.cells #[x, y, z, u] t)) : W.cell? ⟨B, 0, none⟩ = some x ∧ W.cell? ⟨B, 1, none⟩ = some y ∧ W.cell? ⟨B, 2, none⟩ = some z ∧ W.cell? ⟨B, 3, none⟩ = some u := by simp [World.cell?, h]
theorem row_uno {W : World} {B : Nat} {x : Value} {t : TypeId} (h : W.heap[B]? = some (.cells #[x] t)) : W.cell? ⟨B, 0, none⟩ = some x := by simp [World.cell?, h]
theorem spdo_good (S X : List PS) (b n : Nat) (hb : b ≤ 40000) (hS : OkS S b) (hn : S.length = n) (h100 : n ≤ 100) (i op key val r g : Int) (hkey : fits64 key) (hval : fits64 val) (hd : sdoR S i op key val = .ok (X, r, g)) (pa : Option Addr) (pc : Nat) (w : World) (h : SlAt w pa (sts (S.map stP))) (hG : Glob 212 er w) :
    Calls Tryz.prog 31 #[.agg #[.slice pa n pc], .int .i64 i, .int .i64 op, .int .i64 key, .int .i64 val] w fun e w' => ∃ xa xc, e = .returned (.tuple #[.agg #[.slice xa n xc], .int .i64 r, .int .i64 g, .nilIface]) ∧ Hid (SlAt w' xa (sts (X.map stP)) ∧ Below w.heap.size w w') := by
  refine (spdo_any S b hb hS (by omega) (.agg #[.slice pa n pc]) w ⟨pa, pc, by rw [hn], h⟩ hG i op key val hkey hval).mono fun e w' hr => ?_
  unfold SpRes at hr
  rw [hd] at hr
  obtain ⟨v', rfl, h9⟩ := hr
  obtain ⟨⟨xa, xc, rfl, hx⟩, hb9⟩ := h9.out
  have hl := (hS.next hd).2.1
  rw [hl, hn]
  exact ⟨xa, xc, rfl, hx, hb9⟩
theorem spdo_ill (S : List PS) (b n : Nat) (hb : b ≤ 40000) (hS : OkS S b) (hn : S.length = n) (h100 : n ≤ 100) (i op key val : Int) (cd : Nat) (hkey : fits64 key) (hval : fits64 val) (hd : sdoR S i op key val = .error cd) (pa : Option Addr) (pc : Nat) (w : World) (h : SlAt w pa (sts (S.map stP))) (hG : Glob 212 er w) :
    Calls Tryz.prog 31 #[.agg #[.slice pa n pc], .int .i64 i, .int .i64 op, .int .i64 key, .int .i64 val] w (DoBad w) := by
  refine (spdo_any S b hb hS (by omega) (.agg #[.slice pa n pc]) w ⟨pa, pc, by rw [hn], h⟩ hG i op key val hkey hval).mono fun e w' hr => ?_
  unfold SpRes at hr
  rw [hd] at hr
  exact hr
theorem difR_do {S X : List PS} {i op key val r g : Int} (hd : sdoR S i op key val = .ok (X, r, g)) : difR (S.map stP) (X.map stP) = [] ∨ difR (S.map stP) (X.map stP) = [i] := by
  obtain ⟨k, s, t, rfl, hk, hs, _, rfl⟩ := sdoR_ok hd
  rw [List.map_set, difR_set (by simpa using hk)]
  split
  · exact .inl rfl
  · exact .inr rfl
theorem differ_none (a b : Option Addr) (c d : Nat) (S U : List P3) (n : Nat) (hS : S.length = n) (hU : U.length = n) (hn : n ≤ 100) (he : difR S U = []) (w : World) (h : SlAt w a (sts S)) (hu : SlAt w b (sts U)) :
    Calls Tryz.prog 17 #[.agg #[.slice a n c], .agg #[.slice b n d]] w fun e w' => ∃ ra rc, e = .returned (.slice ra 0 rc) ∧ Hid (Below w.heap.size w w') := by
  refine (differ_n a b c d S U n hS hU hn w h hu).mono fun e w' ⟨v, e1, h9⟩ => ?_
  rw [he] at h9
  obtain ⟨ra, rc, rfl, -, -⟩ := row_sl h9.out.1
  exact ⟨ra, rc, e1, h9.out.2⟩
theorem differ_one (a b : Option Addr) (c d : Nat) (S U : List P3) (n : Nat) (hS : S.length = n) (hU : U.length = n) (hn : n ≤ 100) (i : Int) (he : difR S U = [i]) (w : World) (h : SlAt w a (sts S)) (hu : SlAt w b (sts U)) :
    Calls Tryz.prog 17 #[.agg #[.slice a n c], .agg #[.slice b n d]] w fun e w' => ∃ rb ro rc, e = .returned (.slice (some ⟨rb, ro, none⟩) 1 rc) ∧ w'.cell? ⟨rb, ro, none⟩ = some (.int .i64 i) ∧ Hid (rb < w'.heap.size) ∧ Hid (Below w.heap.size w w') := by
  refine (differ_n a b c d S U n hS hU hn w h hu).mono fun e w' ⟨v, e1, h9⟩ => ?_
  rw [he] at h9
  obtain ⟨ra, rc, rfl, hs, -⟩ := row_sl h9.out.1
  rcases hs with ⟨_, h0⟩ | ⟨rb, ro, rfl, hl, hc⟩
  · simp at h0
  · exact ⟨rb, ro, rc, e1, hc 0 _ rfl, hl (by simp), h9.out.2⟩

set_option maxHeartbeats 8000000 in
set_option maxRecDepth 100000 in
theorem storeApart_any (a ca : Option Addr) (c cc : Nat) (os : List (Int × Int)) (l : List CO) (f1 : ∀ x ∈ l, fits64 x.key ∧ fits64 x.val) (p q : CO) (fp : fits64 p.key ∧ fits64 p.val) (fq : fits64 q.key ∧ fits64 q.val) (w : World) (hG : Glob 212 er w) (h : SlAt w a (obs os)) (h1 : SlAt w ca (cls l)) :
    Calls Tryz.prog 5 #[.slice a os.length c, .slice ca l.length cc, coV p, coV q] w fun e w' => e = .returned (.bool true) ∧ Hid (Below w.heap.size w w') := by
  obtain ⟨Wa, hWa, Hba, hsa, Hpa⟩ := cells_new w #[.int .i64 p.obj, .int .i64 p.op, .int .i64 p.key, .int .i64 p.val] 68
  obtain ⟨Wb, hWb, Hbb, hsb, Hqb⟩ := cells_new Wa #[.int .i64 q.obj, .int .i64 q.op, .int .i64 q.key, .int .i64 q.val] 68
  have Bb : Hid (Below w.heap.size w Wb) := stepB Hba.out Hbb.out
  have Hp : Hid (Wb.heap[w.heap.size]? = some (.cells #[.int .i64 p.obj, .int .i64 p.op, .int .i64 p.key, .int .i64 p.val] 68)) := keepB Hbb.out Hpa.out
  have HF := Lib.hid (first_any Wb (hG.below' Bb.out))
  by_cases hA : os.length ≤ 100
  case neg =>
    clear h h1 f1 hG
    generalize os.length = n at *
    generalize l.length = m1 at *
    have e1 : decide ((100 : Int) < (n : Int)) = true := by simp; omega
    clear hA
    go_enter Tryz.func5, Tryz.ntmps5
    go_wp2_with (first | (go_at_call 8; (with_reducible refine HF.out.mono ?_); rintro e w1 ⟨rfl, h1⟩))
    go_ret
    exact ⟨rfl, stepB Bb.out h1.out⟩
  by_cases hB : l.length ≤ 200
  case neg =>
    clear h h1 f1 hG
    generalize os.length = n at *
    generalize l.length = m1 at *
    have e1 : decide ((100 : Int) < (n : Int)) = false := by simp; omega
    have e2 : decide ((200 : Int) < (m1 : Int)) = true := by simp; omega
    clear hA hB
    go_enter Tryz.func5, Tryz.ntmps5
    go_wp2_with (first | (go_at_call 8; (with_reducible refine HF.out.mono ?_); rintro e w1 ⟨rfl, h1⟩))
    go_ret
    exact ⟨rfl, stepB Bb.out h1.out⟩
  have e1 : decide ((100 : Int) < (os.length : Int)) = false := by simp; omega
  have e2 : decide ((200 : Int) < (l.length : Int)) = false := by simp; omega
  have HG := Lib.hid hG
  by_cases hfit : os.length ≤ 8 ∧ ∀ o ∈ os, validO o.1 o.2 = true
  case neg =>
    have HB1 := Lib.hid (fun V (hV : Below w.heap.size w V) x => behind_bad (T := 212) (er := er) a c os hfit x V (h.below hV) (hG.below' hV))
    clear h h1 f1 hG hfit hA hB
    generalize os.length = n at *
    generalize l.length = m1 at *
    go_enter Tryz.func5, Tryz.ntmps5
    go_wp2_with (first
      | (go_at_call 8; (with_reducible refine HF.out.mono ?_); rintro e w1 ⟨rfl, h1⟩)
      | (go_at_call 9; (with_reducible refine (HB1.out w1 (stepB Bb.out h1.out) _).mono ?_); rintro e w2 ⟨rfl, h2⟩
         obtain ⟨V3, hV3, b3, -, TB3⟩ := cells_new w2 #[.slice none 0 0] 29
         obtain ⟨W3, hW3, ⟨f3, g3⟩, HF3, HE3⟩ := box_put1 (w := w2) (V := V3) (.slice none 0 0) TB3.out (Nat.le_refl _)
         have B3 : Hid (Below w.heap.size w W3) := stepB (stepB (stepB Bb.out h1.out) h2.out) (b3.out.trans HE3.out)))
    go_ret
    exact ⟨rfl, B3.out⟩
  obtain ⟨h8, hv⟩ := hfit
  have HB1 := Lib.hid (fun V (hV : Below w.heap.size w V) => behind_good (T := 212) (er := er) a c os h8 hv l hB f1 ca cc V (h.below hV) (h1.below hV) (hG.below' hV))
  have hL := runS_len os hv l
  have hO := runS_fit os hv l hB
  clear h h1 f1 hG hv hA hB
  unfold BGood at HB1
  obtain ⟨S, hS⟩ : ∃ S, runS (startS os) l = S := ⟨_, rfl⟩
  rw [hS] at hL hO HB1
  clear hS
  generalize os.length = n at *
  generalize l.length = m1 at *
  have h100 : n ≤ 100 := by omega
  clear h8
  have HL : Hid (S.length = n) := hL
  rcases hdp : sdoR S p.obj p.op p.key p.val with cd | ⟨X, r, g⟩
  · have HP := Lib.hid (fun pa pc V hs hg => spdo_ill (er := er) S 300 n (by decide) hO hL h100 _ _ _ _ cd fp.1 fp.2 hdp pa pc V hs hg)
    rcases hdq : sdoR S q.obj q.op q.key q.val with cd2 | ⟨Y, r2, g2⟩
    · have HQ := Lib.hid (fun pa pc V hs hg => spdo_ill (er := er) S 300 n (by decide) hO hL h100 _ _ _ _ cd2 fq.1 fq.2 hdq pa pc V hs hg)
      clear hdp hdq fp fq hO hL
      unfold DoBad at HP HQ
      go_enter Tryz.func5, Tryz.ntmps5
      go_wp2_with (first
        | (go_at_call 8; (with_reducible refine HF.out.mono ?_); rintro e w1 ⟨rfl, h1⟩)
        | (go_at_call 9; (with_reducible refine (HB1.out w1 (stepB Bb.out h1.out)).mono ?_); rintro e w2 ⟨pa, pc, u2, rfl, h2⟩
           obtain ⟨W3, hW3, Hb3, hs3, Hx3⟩ := box_new w2 29 (.slice pa n pc)
           have B13 : Hid (Below Wb.heap.size Wb W3) := stepB (stepB h1.out h2.out.2.2) Hb3.out
           have B3 : Hid (Below w.heap.size w W3) := stepB Bb.out B13.out
           have S3 : Hid (SlAt W3 pa (sts (S.map stP))) := h2.out.1.below Hb3.out
           have x3 := Hx3.out.cell
           have P3 := Lib.hid (keepB B13.out Hp.out)
           have Q3 := Lib.hid (keepB B13.out Hqb.out)
           obtain ⟨p30, p31, p32, p33⟩ := row_quad P3.out)
        | (go_at_call 31; first
          | ((with_reducible refine (HP.out pa pc W3 S3.out (HG.out.below' B3.out)).mono ?_); rintro e w4 ⟨t4, a4, rfl, h4⟩
             obtain ⟨V5, hV5, b5, -, TB5⟩ := cells_new w4 #[.slice none 0 0] 29
             obtain ⟨W5, hW5, ⟨f5, g5⟩, Hx5, HE5⟩ := box_put1 (w := w4) (V := V5) (.slice none 0 0) TB5.out (Nat.le_refl _)
             have C5 : Hid (Below W3.heap.size W3 W5) := stepB h4.out (b5.out.trans HE5.out)
             have x5 := row_uno Hx5.out
             have B5 : Hid (Below w.heap.size w W5) := stepB B3.out C5.out
             have X5 := Lib.hid (keepB C5.out Hx3.out)
             have y3 := row_uno X5.out
             have S5 := Lib.hid (S3.out.below C5.out)
             have P5 := Lib.hid (keepB C5.out P3.out)
             have Q5 := Lib.hid (keepB C5.out Q3.out)
             obtain ⟨q50, q51, q52, q53⟩ := row_quad Q5.out)
          | ((with_reducible refine (HQ.out pa pc W5 S5.out (HG.out.below' B5.out)).mono ?_); rintro e w6 ⟨t6, a6, rfl, h6⟩
             obtain ⟨V7, hV7, b7, -, TB7⟩ := cells_new w6 #[.slice none 0 0] 29
             obtain ⟨W7, hW7, ⟨f7, g7⟩, Hx7, HE7⟩ := box_put1 (w := w6) (V := V7) (.slice none 0 0) TB7.out (Nat.le_refl _)
             have C7 : Hid (Below W5.heap.size W5 W7) := stepB h6.out (b7.out.trans HE7.out)
             have x7 := row_uno Hx7.out
             have B7 : Hid (Below w.heap.size w W7) := stepB B5.out C7.out
             have X7 := Lib.hid (keepB C7.out X5.out)
             have y5 := row_uno X7.out
             have Z7 := Lib.hid (keepB C7.out Hx5.out)
             have y7 := row_uno Z7.out
             have S7 := Lib.hid (S5.out.below C7.out)
             have P7 := Lib.hid (keepB C7.out P5.out)
             have Q7 := Lib.hid (keepB C7.out Q5.out)))
        | (go_at_call 32; (with_reducible refine (slen_any none 0 0 W7).mono ?_); rintro e w8 ⟨rfl, h8⟩))
      go_ret
      exact ⟨rfl, stepB B7.out h8.out⟩
    · have HQ := Lib.hid (fun pa pc V hs hg => spdo_good (er := er) S Y 300 n (by decide) hO hL h100 _ _ _ _ _ _ fq.1 fq.2 hdq pa pc V hs hg)
      clear hdp hdq fp fq hO hL
      unfold DoBad at HP
      go_enter Tryz.func5, Tryz.ntmps5
      go_wp2_with (first
        | (go_at_call 8; (with_reducible refine HF.out.mono ?_); rintro e w1 ⟨rfl, h1⟩)
        | (go_at_call 9; (with_reducible refine (HB1.out w1 (stepB Bb.out h1.out)).mono ?_); rintro e w2 ⟨pa, pc, u2, rfl, h2⟩
           obtain ⟨W3, hW3, Hb3, hs3, Hx3⟩ := box_new w2 29 (.slice pa n pc)
           have B13 : Hid (Below Wb.heap.size Wb W3) := stepB (stepB h1.out h2.out.2.2) Hb3.out
           have B3 : Hid (Below w.heap.size w W3) := stepB Bb.out B13.out
           have S3 : Hid (SlAt W3 pa (sts (S.map stP))) := h2.out.1.below Hb3.out
           have x3 := Hx3.out.cell
           have P3 := Lib.hid (keepB B13.out Hp.out)
           have Q3 := Lib.hid (keepB B13.out Hqb.out)
           obtain ⟨p30, p31, p32, p33⟩ := row_quad P3.out)
        | (go_at_call 31; first
          | ((with_reducible refine (HP.out pa pc W3 S3.out (HG.out.below' B3.out)).mono ?_); rintro e w4 ⟨t4, a4, rfl, h4⟩
             obtain ⟨V5, hV5, b5, -, TB5⟩ := cells_new w4 #[.slice none 0 0] 29
             obtain ⟨W5, hW5, ⟨f5, g5⟩, Hx5, HE5⟩ := box_put1 (w := w4) (V := V5) (.slice none 0 0) TB5.out (Nat.le_refl _)
             have C5 : Hid (Below W3.heap.size W3 W5) := stepB h4.out (b5.out.trans HE5.out)
             have x5 := row_uno Hx5.out
             have B5 : Hid (Below w.heap.size w W5) := stepB B3.out C5.out
             have X5 := Lib.hid (keepB C5.out Hx3.out)
             have y3 := row_uno X5.out
             have S5 := Lib.hid (S3.out.below C5.out)
             have P5 := Lib.hid (keepB C5.out P3.out)
             have Q5 := Lib.hid (keepB C5.out Q3.out)
             obtain ⟨q50, q51, q52, q53⟩ := row_quad Q5.out)
          | ((with_reducible refine (HQ.out pa pc W5 S5.out (HG.out.below' B5.out)).mono ?_); rintro e w6 ⟨ya, yc, rfl, h6⟩
             obtain ⟨W7, hW7, Hb7, hs7, Hx7⟩ := box_new w6 29 (.slice ya n yc)
             have C7 : Hid (Below W5.heap.size W5 W7) := stepB h6.out.2 Hb7.out
             have D7 := Lib.hid (h6.out.1.below Hb7.out)
             have x7 := Hx7.out.cell
             have B7 : Hid (Below w.heap.size w W7) := stepB B5.out C7.out
             have X7 := Lib.hid (keepB C7.out X5.out)
             have y5 := row_uno X7.out
             have Z7 := Lib.hid (keepB C7.out Hx5.out)
             have y7 := row_uno Z7.out
             have S7 := Lib.hid (S5.out.below C7.out)
             have P7 := Lib.hid (keepB C7.out P5.out)
             have Q7 := Lib.hid (keepB C7.out Q5.out)))
        | (go_at_call 32; (with_reducible refine (slen_any none 0 0 W7).mono ?_); rintro e w8 ⟨rfl, h8⟩))
      go_ret
      exact ⟨rfl, stepB B7.out h8.out⟩
  have hOX := hO.next hdp
  have HP := Lib.hid (fun pa pc V hs hg => spdo_good (er := er) S X 300 n (by decide) hO hL h100 _ _ _ _ _ _ fp.1 fp.2 hdp pa pc V hs hg)
  have elS : (S.map stP).length = n := by rw [List.length_map]; exact hL
  have elX : (X.map stP).length = n := by rw [List.length_map, hOX.2.1]; exact hL
  have hdif := difR_do hdp
  rcases hdq : sdoR S q.obj q.op q.key q.val with cd2 | ⟨Y, r2, g2⟩
  · have HQ := Lib.hid (fun pa pc V hs hg => spdo_ill (er := er) S 300 n (by decide) hO hL h100 _ _ _ _ cd2 fq.1 fq.2 hdq pa pc V hs hg)
    clear hdp hdq fp fq hO hL hOX
    unfold DoBad at HQ
    rcases hdif with hdif | hdif
    · have HD := Lib.hid (fun pa pc xa xc V ha hb => differ_none pa xa pc xc (S.map stP) (X.map stP) n elS elX h100 hdif V ha hb)
      have HSX := Lib.hid (fun pa pc xa xc V ha hb => ssame_n pa xa pc xc (S.map stP) (X.map stP) n elS elX h100 V ha hb)
      simp only [decide_eq_true (difR_nil.1 hdif)] at HSX
      clear hdif elS elX
      go_enter Tryz.func5, Tryz.ntmps5
      go_wp2_with (first
        | (go_at_call 8; (with_reducible refine HF.out.mono ?_); rintro e w1 ⟨rfl, h1⟩)
        | (go_at_call 9; (with_reducible refine (HB1.out w1 (stepB Bb.out h1.out)).mono ?_); rintro e w2 ⟨pa, pc, u2, rfl, h2⟩
           obtain ⟨W3, hW3, Hb3, hs3, Hx3⟩ := box_new w2 29 (.slice pa n pc)
           have B13 : Hid (Below Wb.heap.size Wb W3) := stepB (stepB h1.out h2.out.2.2) Hb3.out
           have B3 : Hid (Below w.heap.size w W3) := stepB Bb.out B13.out
           have S3 : Hid (SlAt W3 pa (sts (S.map stP))) := h2.out.1.below Hb3.out
           have x3 := Hx3.out.cell
           have P3 := Lib.hid (keepB B13.out Hp.out)
           have Q3 := Lib.hid (keepB B13.out Hqb.out)
           obtain ⟨p30, p31, p32, p33⟩ := row_quad P3.out)
        | (go_at_call 31; first
          | ((with_reducible refine (HP.out pa pc W3 S3.out (HG.out.below' B3.out)).mono ?_); rintro e w4 ⟨xa, xc, rfl, h4⟩
             obtain ⟨W5, hW5, Hb5, hs5, Hx5⟩ := box_new w4 29 (.slice xa n xc)
             have C5 : Hid (Below W3.heap.size W3 W5) := stepB h4.out.2 Hb5.out
             have D5 := Lib.hid (h4.out.1.below Hb5.out)
             have x5 := Hx5.out.cell
             have B5 : Hid (Below w.heap.size w W5) := stepB B3.out C5.out
             have X5 := Lib.hid (keepB C5.out Hx3.out)
             have y3 := row_uno X5.out
             have S5 := Lib.hid (S3.out.below C5.out)
             have P5 := Lib.hid (keepB C5.out P3.out)
             have Q5 := Lib.hid (keepB C5.out Q3.out)
             obtain ⟨q50, q51, q52, q53⟩ := row_quad Q5.out)
          | ((with_reducible refine (HQ.out pa pc W5 S5.out (HG.out.below' B5.out)).mono ?_); rintro e w6 ⟨t6, a6, rfl, h6⟩
             obtain ⟨V7, hV7, b7, -, TB7⟩ := cells_new w6 #[.slice none 0 0] 29
             obtain ⟨W7, hW7, ⟨f7, g7⟩, Hx7, HE7⟩ := box_put1 (w := w6) (V := V7) (.slice none 0 0) TB7.out (Nat.le_refl _)
             have C7 : Hid (Below W5.heap.size W5 W7) := stepB h6.out (b7.out.trans HE7.out)
             have x7 := row_uno Hx7.out
             have B7 : Hid (Below w.heap.size w W7) := stepB B5.out C7.out
             have X7 := Lib.hid (keepB C7.out X5.out)
             have y5 := row_uno X7.out
             have Z7 := Lib.hid (keepB C7.out Hx5.out)
             have y7 := row_uno Z7.out
             have S7 := Lib.hid (S5.out.below C7.out)
             have P7 := Lib.hid (keepB C7.out P5.out)
             have Q7 := Lib.hid (keepB C7.out Q5.out)
             have SX7 := Lib.hid (D5.out.below C7.out)))
        | (go_at_call 17; (with_reducible refine (HD.out pa pc xa xc W7 S7.out SX7.out).mono ?_); rintro e w8 ⟨ra, rc, rfl, h8⟩
           have B8 : Hid (Below w.heap.size w w8) := stepB B7.out h8.out
           have X8 := Lib.hid (keepB h8.out X7.out)
           have Z8 := Lib.hid (keepB h8.out Z7.out)
           have P8 := Lib.hid (keepB h8.out P7.out)
           have Q8 := Lib.hid (keepB h8.out Q7.out)
           have S8 := Lib.hid (S7.out.below h8.out)
           have SX8 := Lib.hid (SX7.out.below h8.out)))
      have HX8 : Hid (∀ V, Below w8.heap.size w8 V → V.cell? ⟨w2.heap.size, 0, none⟩ = some (.slice pa n pc) ∧ V.cell? ⟨w4.heap.size, 0, none⟩ = some (.slice xa n xc)) := fun V hV => ⟨row_uno (keepB hV X8.out), row_uno (keepB hV Z8.out)⟩
      refine wp_region_held_drew (S := (fun w' => w'.cell? ⟨w2.heap.size, 0, none⟩ = some (.slice pa n pc) ∧ w'.cell? ⟨w4.heap.size, 0, none⟩ = some (.slice xa n xc))) (by kernel_rfl) (HX8.out _ (stepD (Below.refl _ _))) (fun hHeld => ?_)
      refine held_take 0 (some 101) ?_ rfl rfl (by kernel_rfl) (by kernel_rfl) (by kernel_rfl) (fun _ _ _ h => h) (by kernel_rfl) ?_ (by assumption) ?_
      rotate_left
      · intro w hSw; (try dsimp only at hSw); go_simp <;> (try with_reducible rfl)
      simp only [Act.put, List.setIfInBounds_toArray, List.set_cons_zero, List.set_cons_succ]
      refine held_take 1 (some 102) ?_ rfl rfl (by kernel_rfl) (by kernel_rfl) (by kernel_rfl) (fun _ _ _ h => h) (by kernel_rfl) ?_ (by assumption) ?_
      rotate_left
      · intro w hSw; (try dsimp only at hSw); go_simp <;> (try with_reducible rfl)
      simp only [Act.put, List.setIfInBounds_toArray, List.set_cons_zero, List.set_cons_succ]
      refine held_take 2 (some 103) ?_ rfl rfl (by kernel_rfl) (by kernel_rfl) (by kernel_rfl) (fun _ _ _ h => h) (by kernel_rfl) ?_ (by assumption) ?_
      rotate_left
      · intro w hSw; (try dsimp only at hSw); go_simp <;> (try with_reducible rfl)
      simp only [Act.put, List.setIfInBounds_toArray, List.set_cons_zero, List.set_cons_succ]
      refine held_take 3 (some 104) ?_ rfl rfl (by kernel_rfl) (by kernel_rfl) (by kernel_rfl) (fun _ _ _ h => h) (by kernel_rfl) ?_ (by assumption) ?_
      rotate_left
      · intro w hSw; (try dsimp only at hSw); go_simp <;> (try with_reducible rfl)
      simp only [Act.put, List.setIfInBounds_toArray, List.set_cons_zero, List.set_cons_succ]
      refine held_take 4 (some 105) ?_ rfl rfl (by kernel_rfl) (by kernel_rfl) (by kernel_rfl) (fun _ _ _ h => h) (by kernel_rfl) ?_ (by assumption) ?_
      rotate_left
      · intro w hSw; (try dsimp only at hSw); go_simp <;> (try with_reducible rfl)
      simp only [Act.put, List.setIfInBounds_toArray, List.set_cons_zero, List.set_cons_succ]
      refine held_take 5 (some 106) ?_ rfl rfl (by kernel_rfl) (by kernel_rfl) (by kernel_rfl) (fun _ _ _ h => h) (by kernel_rfl) ?_ (by assumption) ?_
      rotate_left
      · intro w hSw; (try dsimp only at hSw); go_simp <;> (try with_reducible rfl)
      simp only [Act.put, List.setIfInBounds_toArray, List.set_cons_zero, List.set_cons_succ]
      refine held_take 6 (some 107) ?_ rfl rfl (by kernel_rfl) (by kernel_rfl) (by kernel_rfl) (fun _ _ _ h => h) (by kernel_rfl) ?_ (by assumption) ?_
      rotate_left
      · intro w hSw; (try dsimp only at hSw); go_simp <;> (try with_reducible rfl)
      simp only [Act.put, List.setIfInBounds_toArray, List.set_cons_zero, List.set_cons_succ]
      refine held_take 7 (some 108) ?_ rfl rfl (by kernel_rfl) (by kernel_rfl) (by kernel_rfl) (fun _ _ _ h => h) (by kernel_rfl) ?_ (by assumption) ?_
      rotate_left
      · intro w hSw; (try dsimp only at hSw); go_simp <;> (try with_reducible rfl)
      simp only [Act.put, List.setIfInBounds_toArray, List.set_cons_zero, List.set_cons_succ]
      refine held_skip 8 (some 109) rfl rfl (by kernel_rfl) (by kernel_rfl) (by kernel_rfl) (fun _ _ _ h => h) (by kernel_rfl) (by assumption) ?_
      simp only [Act.put, List.setIfInBounds_toArray, List.set_cons_zero, List.set_cons_succ]
      refine held_skip 9 (some 110) rfl rfl (by kernel_rfl) (by kernel_rfl) (by kernel_rfl) (fun _ _ _ h => h) (by kernel_rfl) (by assumption) ?_
      simp only [Act.put, List.setIfInBounds_toArray, List.set_cons_zero, List.set_cons_succ]
      refine held_skip 10 (some 111) rfl rfl (by kernel_rfl) (by kernel_rfl) (by kernel_rfl) (fun _ _ _ h => h) (by kernel_rfl) (by assumption) ?_
      simp only [Act.put, List.setIfInBounds_toArray, List.set_cons_zero, List.set_cons_succ]
      refine held_skip 11 (some 112) rfl rfl (by kernel_rfl) (by kernel_rfl) (by kernel_rfl) (fun _ _ _ h => h) (by kernel_rfl) (by assumption) ?_
      simp only [Act.put, List.setIfInBounds_toArray, List.set_cons_zero, List.set_cons_succ]
      refine held_skip 12 (some 113) rfl rfl (by kernel_rfl) (by kernel_rfl) (by kernel_rfl) (fun _ _ _ h => h) (by kernel_rfl) (by assumption) ?_
      simp only [Act.put, List.setIfInBounds_toArray, List.set_cons_zero, List.set_cons_succ]
      refine held_skip 13 (some 114) rfl rfl (by kernel_rfl) (by kernel_rfl) (by kernel_rfl) (fun _ _ _ h => h) (by kernel_rfl) (by assumption) ?_
      simp only [Act.put, List.setIfInBounds_toArray, List.set_cons_zero, List.set_cons_succ]
      refine held_take 14 (some 115) ?_ rfl rfl (by kernel_rfl) (by kernel_rfl) (by kernel_rfl) (fun _ _ _ h => h) (by kernel_rfl) ?_ (by assumption) ?_
      rotate_left
      · intro w hSw; (try dsimp only at hSw); go_simp <;> (try with_reducible rfl)
      simp only [Act.put, List.setIfInBounds_toArray, List.set_cons_zero, List.set_cons_succ]
      refine held_take 15 (some 116) ?_ rfl rfl (by kernel_rfl) (by kernel_rfl) (by kernel_rfl) (fun _ _ _ h => h) (by kernel_rfl) ?_ (by assumption) ?_
      rotate_left
      · intro w hSw; (try dsimp only at hSw); go_simp <;> (try with_reducible rfl)
      simp only [Act.put, List.setIfInBounds_toArray, List.set_cons_zero, List.set_cons_succ]
      refine held_take 16 (some 117) ?_ rfl rfl (by kernel_rfl) (by kernel_rfl) (by kernel_rfl) (fun _ _ _ h => h) (by kernel_rfl) ?_ (by assumption) ?_
      rotate_left
      · intro w hSw; (try dsimp only at hSw); go_simp <;> (try with_reducible rfl)
      simp only [Act.put, List.setIfInBounds_toArray, List.set_cons_zero, List.set_cons_succ]
      refine held_take 17 (some 118) ?_ rfl rfl (by kernel_rfl) (by kernel_rfl) (by kernel_rfl) (fun _ _ _ h => h) (by kernel_rfl) ?_ (by assumption) ?_
      rotate_left
      · intro w hSw; (try dsimp only at hSw); go_simp <;> (try with_reducible rfl)
      simp only [Act.put, List.setIfInBounds_toArray, List.set_cons_zero, List.set_cons_succ]
      refine held_take 18 (some 119) ?_ rfl rfl (by kernel_rfl) (by kernel_rfl) (by kernel_rfl) (fun _ _ _ h => h) (by kernel_rfl) ?_ (by assumption) ?_
      rotate_left
      · intro w hSw; (try dsimp only at hSw); go_simp <;> (try with_reducible rfl)
      simp only [Act.put, List.setIfInBounds_toArray, List.set_cons_zero, List.set_cons_succ]
      refine held_take 20 (some 121) ?_ rfl rfl (by kernel_rfl) (by kernel_rfl) (by kernel_rfl) (fun _ _ _ h => h) (by kernel_rfl) ?_ (by assumption) ?_
      rotate_left
      · intro w hSw; (try dsimp only at hSw); go_simp <;> (try with_reducible rfl)
      simp only [Act.put, List.setIfInBounds_toArray, List.set_cons_zero, List.set_cons_succ]
      refine held_take 21 (some 122) ?_ rfl rfl (by kernel_rfl) (by kernel_rfl) (by kernel_rfl) (fun _ _ _ h => h) (by kernel_rfl) ?_ (by assumption) ?_
      rotate_left
      · intro w hSw; (try dsimp only at hSw); go_simp <;> (try with_reducible rfl)
      simp only [Act.put, List.setIfInBounds_toArray, List.set_cons_zero, List.set_cons_succ]
      refine held_take 22 (some 123) ?_ rfl rfl (by kernel_rfl) (by kernel_rfl) (by kernel_rfl) (fun _ _ _ h => h) (by kernel_rfl) ?_ (by assumption) ?_
      rotate_left
      · intro w hSw; (try dsimp only at hSw); go_simp <;> (try with_reducible rfl)
      simp only [Act.put, List.setIfInBounds_toArray, List.set_cons_zero, List.set_cons_succ]
      refine wpAnyH_ready (rs := [19]) (by kernel_rfl) (by simp) (AllReadyH.cons rfl (fun K hK => ?_) AllReadyH.nil)
      go_simp
      (go_at_call 19; (with_reducible refine (HSX.out pa pc xa xc _ (S8.out.below (stepD (Below.refl _ _))) (SX8.out.below (stepD (Below.refl _ _)))).mono ?_); rintro e w9 ⟨rfl, h9⟩)
      go_wp2_with fail
      refine hK.out _ _ (HX8.out _ (stepB (stepD (Below.refl _ _)) h9.out)) (fun hHeld => ?_)
      clear hK K
      try simp only [Act.put, List.setIfInBounds_toArray, List.set_cons_zero, List.set_cons_succ]
      refine held_take 23 (some 124) ?_ rfl rfl (by kernel_rfl) (by kernel_rfl) (by kernel_rfl) (fun _ _ _ h => h) (by kernel_rfl) ?_ (by assumption) ?_
      rotate_left
      · intro w hSw; (try dsimp only at hSw); go_simp <;> (try with_reducible rfl)
      simp only [Act.put, List.setIfInBounds_toArray, List.set_cons_zero, List.set_cons_succ]
      refine held_take 24 (some 125) ?_ rfl rfl (by kernel_rfl) (by kernel_rfl) (by kernel_rfl) (fun _ _ _ h => h) (by kernel_rfl) ?_ (by assumption) ?_
      rotate_left
      · intro w hSw; (try dsimp only at hSw); go_simp <;> (try with_reducible rfl)
      simp only [Act.put, List.setIfInBounds_toArray, List.set_cons_zero, List.set_cons_succ]
      refine wpAnyH_done (by kernel_rfl) ?_ _
      have BZ9 : Hid (Below w8.heap.size w8 w9) := stepB (stepD (Below.refl _ _)) h9.out
      have B9 : Hid (Below w.heap.size w w9) := stepB B8.out BZ9.out
      have P9 := Lib.hid (keepB BZ9.out P8.out)
      have Q9 := Lib.hid (keepB BZ9.out Q8.out)
      obtain ⟨p90, p91, p92, p93⟩ := row_quad P9.out
      obtain ⟨q90, q91, q92, q93⟩ := row_quad Q9.out
      go_wp2_with fail
      go_ret
      exact ⟨rfl, B9.out⟩
    · have HD := Lib.hid (fun pa pc xa xc V ha hb => differ_one pa xa pc xc (S.map stP) (X.map stP) n elS elX h100 _ hdif V ha hb)
      have HSX := Lib.hid (fun pa pc xa xc V ha hb => ssame_n pa xa pc xc (S.map stP) (X.map stP) n elS elX h100 V ha hb)
      have hne : ¬ S.map stP = X.map stP := fun e => by rw [difR_nil.2 e] at hdif; exact absurd hdif (by simp)
      simp only [decide_eq_false hne] at HSX
      clear hne
      have epp : (p.obj == p.obj) = true := beq_self_eq_true _
      clear hdif elS elX
      go_enter Tryz.func5, Tryz.ntmps5
      go_wp2_with (first
        | (go_at_call 8; (with_reducible refine HF.out.mono ?_); rintro e w1 ⟨rfl, h1⟩)
        | (go_at_call 9; (with_reducible refine (HB1.out w1 (stepB Bb.out h1.out)).mono ?_); rintro e w2 ⟨pa, pc, u2, rfl, h2⟩
           obtain ⟨W3, hW3, Hb3, hs3, Hx3⟩ := box_new w2 29 (.slice pa n pc)
           have B13 : Hid (Below Wb.heap.size Wb W3) := stepB (stepB h1.out h2.out.2.2) Hb3.out
           have B3 : Hid (Below w.heap.size w W3) := stepB Bb.out B13.out
           have S3 : Hid (SlAt W3 pa (sts (S.map stP))) := h2.out.1.below Hb3.out
           have x3 := Hx3.out.cell
           have P3 := Lib.hid (keepB B13.out Hp.out)
           have Q3 := Lib.hid (keepB B13.out Hqb.out)
           obtain ⟨p30, p31, p32, p33⟩ := row_quad P3.out)
        | (go_at_call 31; first
          | ((with_reducible refine (HP.out pa pc W3 S3.out (HG.out.below' B3.out)).mono ?_); rintro e w4 ⟨xa, xc, rfl, h4⟩
             obtain ⟨W5, hW5, Hb5, hs5, Hx5⟩ := box_new w4 29 (.slice xa n xc)
             have C5 : Hid (Below W3.heap.size W3 W5) := stepB h4.out.2 Hb5.out
             have D5 := Lib.hid (h4.out.1.below Hb5.out)
             have x5 := Hx5.out.cell
             have B5 : Hid (Below w.heap.size w W5) := stepB B3.out C5.out
             have X5 := Lib.hid (keepB C5.out Hx3.out)
             have y3 := row_uno X5.out
             have S5 := Lib.hid (S3.out.below C5.out)
             have P5 := Lib.hid (keepB C5.out P3.out)
             have Q5 := Lib.hid (keepB C5.out Q3.out)
             obtain ⟨q50, q51, q52, q53⟩ := row_quad Q5.out)
          | ((with_reducible refine (HQ.out pa pc W5 S5.out (HG.out.below' B5.out)).mono ?_); rintro e w6 ⟨t6, a6, rfl, h6⟩
             obtain ⟨V7, hV7, b7, -, TB7⟩ := cells_new w6 #[.slice none 0 0] 29
             obtain ⟨W7, hW7, ⟨f7, g7⟩, Hx7, HE7⟩ := box_put1 (w := w6) (V := V7) (.slice none 0 0) TB7.out (Nat.le_refl _)
             have C7 : Hid (Below W5.heap.size W5 W7) := stepB h6.out (b7.out.trans HE7.out)
             have x7 := row_uno Hx7.out
             have B7 : Hid (Below w.heap.size w W7) := stepB B5.out C7.out
             have X7 := Lib.hid (keepB C7.out X5.out)
             have y5 := row_uno X7.out
             have Z7 := Lib.hid (keepB C7.out Hx5.out)
             have y7 := row_uno Z7.out
             have S7 := Lib.hid (S5.out.below C7.out)
             have P7 := Lib.hid (keepB C7.out P5.out)
             have Q7 := Lib.hid (keepB C7.out Q5.out)
             have SX7 := Lib.hid (D5.out.below C7.out)))
        | (go_at_call 17; (with_reducible refine (HD.out pa pc xa xc W7 S7.out SX7.out).mono ?_); rintro e w8 ⟨rb, ro, rc, rfl, d80, hrb, h8⟩
           have B8 : Hid (Below w.heap.size w w8) := stepB B7.out h8.out
           have X8 := Lib.hid (keepB h8.out X7.out)
           have Z8 := Lib.hid (keepB h8.out Z7.out)
           have P8 := Lib.hid (keepB h8.out P7.out)
           have Q8 := Lib.hid (keepB h8.out Q7.out)
           have S8 := Lib.hid (S7.out.below h8.out)
           have SX8 := Lib.hid (SX7.out.below h8.out)))
      obtain ⟨p80, -⟩ := row_quad P8.out
      have HX8 : Hid (∀ V, Below w8.heap.size w8 V → V.cell? ⟨w2.heap.size, 0, none⟩ = some (.slice pa n pc) ∧ V.cell? ⟨w4.heap.size, 0, none⟩ = some (.slice xa n xc) ∧ V.cell? ⟨rb, ro, none⟩ = some (.int .i64 p.obj) ∧ V.cell? ⟨w.heap.size, 0, none⟩ = some (.int .i64 p.obj)) := fun V hV => ⟨row_uno (keepB hV X8.out), row_uno (keepB hV Z8.out), cellB hV hrb.out d80, cellB hV (Array.getElem?_eq_some_iff.1 P8.out).1 p80⟩
      go_region_held3 (fun w' => w'.cell? ⟨w2.heap.size, 0, none⟩ = some (.slice pa n pc) ∧ w'.cell? ⟨w4.heap.size, 0, none⟩ = some (.slice xa n xc) ∧ w'.cell? ⟨rb, ro, none⟩ = some (.int .i64 p.obj) ∧ w'.cell? ⟨w.heap.size, 0, none⟩ = some (.int .i64 p.obj))
        (first | (with_reducible exact HX8.out _ (stepB (stepD (Below.refl _ _)) h9.out)) | (exact HX8.out _ (stepD (Below.refl _ _))))
        (first | (go_at_call 19; (with_reducible refine (HSX.out pa pc xa xc _ (S8.out.below (stepD (Below.refl _ _))) (SX8.out.below (stepD (Below.refl _ _)))).mono ?_); rintro e w9 ⟨rfl, h9⟩))
      have BZ9 : Hid (Below w8.heap.size w8 w9) := stepB (stepD (Below.refl _ _)) h9.out
      have B9 : Hid (Below w.heap.size w w9) := stepB B8.out BZ9.out
      have P9 := Lib.hid (keepB BZ9.out P8.out)
      have Q9 := Lib.hid (keepB BZ9.out Q8.out)
      obtain ⟨p90, p91, p92, p93⟩ := row_quad P9.out
      obtain ⟨q90, q91, q92, q93⟩ := row_quad Q9.out
      go_wp2_with fail
      go_ret
      exact ⟨rfl, B9.out⟩
  have HQ := Lib.hid (fun pa pc V hs hg => spdo_good (er := er) S Y 300 n (by decide) hO hL h100 _ _ _ _ _ _ fq.1 fq.2 hdq pa pc V hs hg)
  by_cases hij : p.obj = q.obj
  · have eij : (p.obj == q.obj) = true := by rw [hij]; exact beq_self_eq_true _
    clear hdp hdq fp fq hO hL hOX hij
    rcases hdif with hdif | hdif
    · have HD := Lib.hid (fun pa pc xa xc V ha hb => differ_none pa xa pc xc (S.map stP) (X.map stP) n elS elX h100 hdif V ha hb)
      have HSX := Lib.hid (fun pa pc xa xc V ha hb => ssame_n pa xa pc xc (S.map stP) (X.map stP) n elS elX h100 V ha hb)
      simp only [decide_eq_true (difR_nil.1 hdif)] at HSX
      clear hdif elS elX
      go_enter Tryz.func5, Tryz.ntmps5
      go_wp2_with (first
        | (go_at_call 8; (with_reducible refine HF.out.mono ?_); rintro e w1 ⟨rfl, h1⟩)
        | (go_at_call 9; (with_reducible refine (HB1.out w1 (stepB Bb.out h1.out)).mono ?_); rintro e w2 ⟨pa, pc, u2, rfl, h2⟩
           obtain ⟨W3, hW3, Hb3, hs3, Hx3⟩ := box_new w2 29 (.slice pa n pc)
           have B13 : Hid (Below Wb.heap.size Wb W3) := stepB (stepB h1.out h2.out.2.2) Hb3.out
           have B3 : Hid (Below w.heap.size w W3) := stepB Bb.out B13.out
           have S3 : Hid (SlAt W3 pa (sts (S.map stP))) := h2.out.1.below Hb3.out
           have x3 := Hx3.out.cell
           have P3 := Lib.hid (keepB B13.out Hp.out)
           have Q3 := Lib.hid (keepB B13.out Hqb.out)
           obtain ⟨p30, p31, p32, p33⟩ := row_quad P3.out)
        | (go_at_call 31; first
          | ((with_reducible refine (HP.out pa pc W3 S3.out (HG.out.below' B3.out)).mono ?_); rintro e w4 ⟨xa, xc, rfl, h4⟩
             obtain ⟨W5, hW5, Hb5, hs5, Hx5⟩ := box_new w4 29 (.slice xa n xc)
             have C5 : Hid (Below W3.heap.size W3 W5) := stepB h4.out.2 Hb5.out
             have D5 := Lib.hid (h4.out.1.below Hb5.out)
             have x5 := Hx5.out.cell
             have B5 : Hid (Below w.heap.size w W5) := stepB B3.out C5.out
             have X5 := Lib.hid (keepB C5.out Hx3.out)
             have y3 := row_uno X5.out
             have S5 := Lib.hid (S3.out.below C5.out)
             have P5 := Lib.hid (keepB C5.out P3.out)
             have Q5 := Lib.hid (keepB C5.out Q3.out)
             obtain ⟨q50, q51, q52, q53⟩ := row_quad Q5.out)
          | ((with_reducible refine (HQ.out pa pc W5 S5.out (HG.out.below' B5.out)).mono ?_); rintro e w6 ⟨ya, yc, rfl, h6⟩
             obtain ⟨W7, hW7, Hb7, hs7, Hx7⟩ := box_new w6 29 (.slice ya n yc)
             have C7 : Hid (Below W5.heap.size W5 W7) := stepB h6.out.2 Hb7.out
             have D7 := Lib.hid (h6.out.1.below Hb7.out)
             have x7 := Hx7.out.cell
             have B7 : Hid (Below w.heap.size w W7) := stepB B5.out C7.out
             have X7 := Lib.hid (keepB C7.out X5.out)
             have y5 := row_uno X7.out
             have Z7 := Lib.hid (keepB C7.out Hx5.out)
             have y7 := row_uno Z7.out
             have S7 := Lib.hid (S5.out.below C7.out)
             have P7 := Lib.hid (keepB C7.out P5.out)
             have Q7 := Lib.hid (keepB C7.out Q5.out)
             have SX7 := Lib.hid (D5.out.below C7.out)))
        | (go_at_call 17; (with_reducible refine (HD.out pa pc xa xc W7 S7.out SX7.out).mono ?_); rintro e w8 ⟨ra, rc, rfl, h8⟩
           have B8 : Hid (Below w.heap.size w w8) := stepB B7.out h8.out
           have X8 := Lib.hid (keepB h8.out X7.out)
           have Z8 := Lib.hid (keepB h8.out Z7.out)
           have P8 := Lib.hid (keepB h8.out P7.out)
           have Q8 := Lib.hid (keepB h8.out Q7.out)
           have S8 := Lib.hid (S7.out.below h8.out)
           have SX8 := Lib.hid (SX7.out.below h8.out)))
      have HX8 : Hid (∀ V, Below w8.heap.size w8 V → V.cell? ⟨w2.heap.size, 0, none⟩ = some (.slice pa n pc) ∧ V.cell? ⟨w4.heap.size, 0, none⟩ = some (.slice xa n xc)) := fun V hV => ⟨row_uno (keepB hV X8.out), row_uno (keepB hV Z8.out)⟩
      refine wp_region_held_drew (S := (fun w' => w'.cell? ⟨w2.heap.size, 0, none⟩ = some (.slice pa n pc) ∧ w'.cell? ⟨w4.heap.size, 0, none⟩ = some (.slice xa n xc))) (by kernel_rfl) (HX8.out _ (stepD (Below.refl _ _))) (fun hHeld => ?_)
      refine held_take 0 (some 101) ?_ rfl rfl (by kernel_rfl) (by kernel_rfl) (by kernel_rfl) (fun _ _ _ h => h) (by kernel_rfl) ?_ (by assumption) ?_
      rotate_left
      · intro w hSw; (try dsimp only at hSw); go_simp <;> (try with_reducible rfl)
      simp only [Act.put, List.setIfInBounds_toArray, List.set_cons_zero, List.set_cons_succ]
      refine held_take 1 (some 102) ?_ rfl rfl (by kernel_rfl) (by kernel_rfl) (by kernel_rfl) (fun _ _ _ h => h) (by kernel_rfl) ?_ (by assumption) ?_
      rotate_left
      · intro w hSw; (try dsimp only at hSw); go_simp <;> (try with_reducible rfl)
      simp only [Act.put, List.setIfInBounds_toArray, List.set_cons_zero, List.set_cons_succ]
      refine held_take 2 (some 103) ?_ rfl rfl (by kernel_rfl) (by kernel_rfl) (by kernel_rfl) (fun _ _ _ h => h) (by kernel_rfl) ?_ (by assumption) ?_
      rotate_left
      · intro w hSw; (try dsimp only at hSw); go_simp <;> (try with_reducible rfl)
      simp only [Act.put, List.setIfInBounds_toArray, List.set_cons_zero, List.set_cons_succ]
      refine held_take 3 (some 104) ?_ rfl rfl (by kernel_rfl) (by kernel_rfl) (by kernel_rfl) (fun _ _ _ h => h) (by kernel_rfl) ?_ (by assumption) ?_
      rotate_left
      · intro w hSw; (try dsimp only at hSw); go_simp <;> (try with_reducible rfl)
      simp only [Act.put, List.setIfInBounds_toArray, List.set_cons_zero, List.set_cons_succ]
      refine held_take 4 (some 105) ?_ rfl rfl (by kernel_rfl) (by kernel_rfl) (by kernel_rfl) (fun _ _ _ h => h) (by kernel_rfl) ?_ (by assumption) ?_
      rotate_left
      · intro w hSw; (try dsimp only at hSw); go_simp <;> (try with_reducible rfl)
      simp only [Act.put, List.setIfInBounds_toArray, List.set_cons_zero, List.set_cons_succ]
      refine held_take 5 (some 106) ?_ rfl rfl (by kernel_rfl) (by kernel_rfl) (by kernel_rfl) (fun _ _ _ h => h) (by kernel_rfl) ?_ (by assumption) ?_
      rotate_left
      · intro w hSw; (try dsimp only at hSw); go_simp <;> (try with_reducible rfl)
      simp only [Act.put, List.setIfInBounds_toArray, List.set_cons_zero, List.set_cons_succ]
      refine held_take 6 (some 107) ?_ rfl rfl (by kernel_rfl) (by kernel_rfl) (by kernel_rfl) (fun _ _ _ h => h) (by kernel_rfl) ?_ (by assumption) ?_
      rotate_left
      · intro w hSw; (try dsimp only at hSw); go_simp <;> (try with_reducible rfl)
      simp only [Act.put, List.setIfInBounds_toArray, List.set_cons_zero, List.set_cons_succ]
      refine held_take 7 (some 108) ?_ rfl rfl (by kernel_rfl) (by kernel_rfl) (by kernel_rfl) (fun _ _ _ h => h) (by kernel_rfl) ?_ (by assumption) ?_
      rotate_left
      · intro w hSw; (try dsimp only at hSw); go_simp <;> (try with_reducible rfl)
      simp only [Act.put, List.setIfInBounds_toArray, List.set_cons_zero, List.set_cons_succ]
      refine held_skip 8 (some 109) rfl rfl (by kernel_rfl) (by kernel_rfl) (by kernel_rfl) (fun _ _ _ h => h) (by kernel_rfl) (by assumption) ?_
      simp only [Act.put, List.setIfInBounds_toArray, List.set_cons_zero, List.set_cons_succ]
      refine held_skip 9 (some 110) rfl rfl (by kernel_rfl) (by kernel_rfl) (by kernel_rfl) (fun _ _ _ h => h) (by kernel_rfl) (by assumption) ?_
      simp only [Act.put, List.setIfInBounds_toArray, List.set_cons_zero, List.set_cons_succ]
      refine held_skip 10 (some 111) rfl rfl (by kernel_rfl) (by kernel_rfl) (by kernel_rfl) (fun _ _ _ h => h) (by kernel_rfl) (by assumption) ?_
      simp only [Act.put, List.setIfInBounds_toArray, List.set_cons_zero, List.set_cons_succ]
      refine held_skip 11 (some 112) rfl rfl (by kernel_rfl) (by kernel_rfl) (by kernel_rfl) (fun _ _ _ h => h) (by kernel_rfl) (by assumption) ?_
      simp only [Act.put, List.setIfInBounds_toArray, List.set_cons_zero, List.set_cons_succ]
      refine held_skip 12 (some 113) rfl rfl (by kernel_rfl) (by kernel_rfl) (by kernel_rfl) (fun _ _ _ h => h) (by kernel_rfl) (by assumption) ?_
      simp only [Act.put, List.setIfInBounds_toArray, List.set_cons_zero, List.set_cons_succ]
      refine held_skip 13 (some 114) rfl rfl (by kernel_rfl) (by kernel_rfl) (by kernel_rfl) (fun _ _ _ h => h) (by kernel_rfl) (by assumption) ?_
      simp only [Act.put, List.setIfInBounds_toArray, List.set_cons_zero, List.set_cons_succ]
      refine held_take 14 (some 115) ?_ rfl rfl (by kernel_rfl) (by kernel_rfl) (by kernel_rfl) (fun _ _ _ h => h) (by kernel_rfl) ?_ (by assumption) ?_
      rotate_left
      · intro w hSw; (try dsimp only at hSw); go_simp <;> (try with_reducible rfl)
      simp only [Act.put, List.setIfInBounds_toArray, List.set_cons_zero, List.set_cons_succ]
      refine held_take 15 (some 116) ?_ rfl rfl (by kernel_rfl) (by kernel_rfl) (by kernel_rfl) (fun _ _ _ h => h) (by kernel_rfl) ?_ (by assumption) ?_
      rotate_left
      · intro w hSw; (try dsimp only at hSw); go_simp <;> (try with_reducible rfl)
      simp only [Act.put, List.setIfInBounds_toArray, List.set_cons_zero, List.set_cons_succ]
      refine held_take 16 (some 117) ?_ rfl rfl (by kernel_rfl) (by kernel_rfl) (by kernel_rfl) (fun _ _ _ h => h) (by kernel_rfl) ?_ (by assumption) ?_
      rotate_left
      · intro w hSw; (try dsimp only at hSw); go_simp <;> (try with_reducible rfl)
      simp only [Act.put, List.setIfInBounds_toArray, List.set_cons_zero, List.set_cons_succ]
      refine held_take 17 (some 118) ?_ rfl rfl (by kernel_rfl) (by kernel_rfl) (by kernel_rfl) (fun _ _ _ h => h) (by kernel_rfl) ?_ (by assumption) ?_
      rotate_left
      · intro w hSw; (try dsimp only at hSw); go_simp <;> (try with_reducible rfl)
      simp only [Act.put, List.setIfInBounds_toArray, List.set_cons_zero, List.set_cons_succ]
      refine held_take 18 (some 119) ?_ rfl rfl (by kernel_rfl) (by kernel_rfl) (by kernel_rfl) (fun _ _ _ h => h) (by kernel_rfl) ?_ (by assumption) ?_
      rotate_left
      · intro w hSw; (try dsimp only at hSw); go_simp <;> (try with_reducible rfl)
      simp only [Act.put, List.setIfInBounds_toArray, List.set_cons_zero, List.set_cons_succ]
      refine held_take 20 (some 121) ?_ rfl rfl (by kernel_rfl) (by kernel_rfl) (by kernel_rfl) (fun _ _ _ h => h) (by kernel_rfl) ?_ (by assumption) ?_
      rotate_left
      · intro w hSw; (try dsimp only at hSw); go_simp <;> (try with_reducible rfl)
      simp only [Act.put, List.setIfInBounds_toArray, List.set_cons_zero, List.set_cons_succ]
      refine held_take 21 (some 122) ?_ rfl rfl (by kernel_rfl) (by kernel_rfl) (by kernel_rfl) (fun _ _ _ h => h) (by kernel_rfl) ?_ (by assumption) ?_
      rotate_left
      · intro w hSw; (try dsimp only at hSw); go_simp <;> (try with_reducible rfl)
      simp only [Act.put, List.setIfInBounds_toArray, List.set_cons_zero, List.set_cons_succ]
      refine held_take 22 (some 123) ?_ rfl rfl (by kernel_rfl) (by kernel_rfl) (by kernel_rfl) (fun _ _ _ h => h) (by kernel_rfl) ?_ (by assumption) ?_
      rotate_left
      · intro w hSw; (try dsimp only at hSw); go_simp <;> (try with_reducible rfl)
      simp only [Act.put, List.setIfInBounds_toArray, List.set_cons_zero, List.set_cons_succ]
      refine wpAnyH_ready (rs := [19]) (by kernel_rfl) (by simp) (AllReadyH.cons rfl (fun K hK => ?_) AllReadyH.nil)
      go_simp
      (go_at_call 19; (with_reducible refine (HSX.out pa pc xa xc _ (S8.out.below (stepD (Below.refl _ _))) (SX8.out.below (stepD (Below.refl _ _)))).mono ?_); rintro e w9 ⟨rfl, h9⟩)
      go_wp2_with fail
      refine hK.out _ _ (HX8.out _ (stepB (stepD (Below.refl _ _)) h9.out)) (fun hHeld => ?_)
      clear hK K
      try simp only [Act.put, List.setIfInBounds_toArray, List.set_cons_zero, List.set_cons_succ]
      refine held_take 23 (some 124) ?_ rfl rfl (by kernel_rfl) (by kernel_rfl) (by kernel_rfl) (fun _ _ _ h => h) (by kernel_rfl) ?_ (by assumption) ?_
      rotate_left
      · intro w hSw; (try dsimp only at hSw); go_simp <;> (try with_reducible rfl)
      simp only [Act.put, List.setIfInBounds_toArray, List.set_cons_zero, List.set_cons_succ]
      refine held_take 24 (some 125) ?_ rfl rfl (by kernel_rfl) (by kernel_rfl) (by kernel_rfl) (fun _ _ _ h => h) (by kernel_rfl) ?_ (by assumption) ?_
      rotate_left
      · intro w hSw; (try dsimp only at hSw); go_simp <;> (try with_reducible rfl)
      simp only [Act.put, List.setIfInBounds_toArray, List.set_cons_zero, List.set_cons_succ]
      refine wpAnyH_done (by kernel_rfl) ?_ _
      have BZ9 : Hid (Below w8.heap.size w8 w9) := stepB (stepD (Below.refl _ _)) h9.out
      have B9 : Hid (Below w.heap.size w w9) := stepB B8.out BZ9.out
      have P9 := Lib.hid (keepB BZ9.out P8.out)
      have Q9 := Lib.hid (keepB BZ9.out Q8.out)
      obtain ⟨p90, p91, p92, p93⟩ := row_quad P9.out
      obtain ⟨q90, q91, q92, q93⟩ := row_quad Q9.out
      go_wp2_with fail
      go_ret
      exact ⟨rfl, B9.out⟩
    · have HD := Lib.hid (fun pa pc xa xc V ha hb => differ_one pa xa pc xc (S.map stP) (X.map stP) n elS elX h100 _ hdif V ha hb)
      have HSX := Lib.hid (fun pa pc xa xc V ha hb => ssame_n pa xa pc xc (S.map stP) (X.map stP) n elS elX h100 V ha hb)
      have hne : ¬ S.map stP = X.map stP := fun e => by rw [difR_nil.2 e] at hdif; exact absurd hdif (by simp)
      simp only [decide_eq_false hne] at HSX
      clear hne
      have epp : (p.obj == p.obj) = true := beq_self_eq_true _
      clear hdif elS elX
      go_enter Tryz.func5, Tryz.ntmps5
      go_wp2_with (first
        | (go_at_call 8; (with_reducible refine HF.out.mono ?_); rintro e w1 ⟨rfl, h1⟩)
        | (go_at_call 9; (with_reducible refine (HB1.out w1 (stepB Bb.out h1.out)).mono ?_); rintro e w2 ⟨pa, pc, u2, rfl, h2⟩
           obtain ⟨W3, hW3, Hb3, hs3, Hx3⟩ := box_new w2 29 (.slice pa n pc)
           have B13 : Hid (Below Wb.heap.size Wb W3) := stepB (stepB h1.out h2.out.2.2) Hb3.out
           have B3 : Hid (Below w.heap.size w W3) := stepB Bb.out B13.out
           have S3 : Hid (SlAt W3 pa (sts (S.map stP))) := h2.out.1.below Hb3.out
           have x3 := Hx3.out.cell
           have P3 := Lib.hid (keepB B13.out Hp.out)
           have Q3 := Lib.hid (keepB B13.out Hqb.out)
           obtain ⟨p30, p31, p32, p33⟩ := row_quad P3.out)
        | (go_at_call 31; first
          | ((with_reducible refine (HP.out pa pc W3 S3.out (HG.out.below' B3.out)).mono ?_); rintro e w4 ⟨xa, xc, rfl, h4⟩
             obtain ⟨W5, hW5, Hb5, hs5, Hx5⟩ := box_new w4 29 (.slice xa n xc)
             have C5 : Hid (Below W3.heap.size W3 W5) := stepB h4.out.2 Hb5.out
             have D5 := Lib.hid (h4.out.1.below Hb5.out)
             have x5 := Hx5.out.cell
             have B5 : Hid (Below w.heap.size w W5) := stepB B3.out C5.out
             have X5 := Lib.hid (keepB C5.out Hx3.out)
             have y3 := row_uno X5.out
             have S5 := Lib.hid (S3.out.below C5.out)
             have P5 := Lib.hid (keepB C5.out P3.out)
             have Q5 := Lib.hid (keepB C5.out Q3.out)
             obtain ⟨q50, q51, q52, q53⟩ := row_quad Q5.out)
          | ((with_reducible refine (HQ.out pa pc W5 S5.out (HG.out.below' B5.out)).mono ?_); rintro e w6 ⟨ya, yc, rfl, h6⟩
             obtain ⟨W7, hW7, Hb7, hs7, Hx7⟩ := box_new w6 29 (.slice ya n yc)
             have C7 : Hid (Below W5.heap.size W5 W7) := stepB h6.out.2 Hb7.out
             have D7 := Lib.hid (h6.out.1.below Hb7.out)
             have x7 := Hx7.out.cell
             have B7 : Hid (Below w.heap.size w W7) := stepB B5.out C7.out
             have X7 := Lib.hid (keepB C7.out X5.out)
             have y5 := row_uno X7.out
             have Z7 := Lib.hid (keepB C7.out Hx5.out)
             have y7 := row_uno Z7.out
             have S7 := Lib.hid (S5.out.below C7.out)
             have P7 := Lib.hid (keepB C7.out P5.out)
             have Q7 := Lib.hid (keepB C7.out Q5.out)
             have SX7 := Lib.hid (D5.out.below C7.out)))
        | (go_at_call 17; (with_reducible refine (HD.out pa pc xa xc W7 S7.out SX7.out).mono ?_); rintro e w8 ⟨rb, ro, rc, rfl, d80, hrb, h8⟩
           have B8 : Hid (Below w.heap.size w w8) := stepB B7.out h8.out
           have X8 := Lib.hid (keepB h8.out X7.out)
           have Z8 := Lib.hid (keepB h8.out Z7.out)
           have P8 := Lib.hid (keepB h8.out P7.out)
           have Q8 := Lib.hid (keepB h8.out Q7.out)
           have S8 := Lib.hid (S7.out.below h8.out)
           have SX8 := Lib.hid (SX7.out.below h8.out)))
      obtain ⟨p80, -⟩ := row_quad P8.out
      have HX8 : Hid (∀ V, Below w8.heap.size w8 V → V.cell? ⟨w2.heap.size, 0, none⟩ = some (.slice pa n pc) ∧ V.cell? ⟨w4.heap.size, 0, none⟩ = some (.slice xa n xc) ∧ V.cell? ⟨rb, ro, none⟩ = some (.int .i64 p.obj) ∧ V.cell? ⟨w.heap.size, 0, none⟩ = some (.int .i64 p.obj)) := fun V hV => ⟨row_uno (keepB hV X8.out), row_uno (keepB hV Z8.out), cellB hV hrb.out d80, cellB hV (Array.getElem?_eq_some_iff.1 P8.out).1 p80⟩
      go_region_held3 (fun w' => w'.cell? ⟨w2.heap.size, 0, none⟩ = some (.slice pa n pc) ∧ w'.cell? ⟨w4.heap.size, 0, none⟩ = some (.slice xa n xc) ∧ w'.cell? ⟨rb, ro, none⟩ = some (.int .i64 p.obj) ∧ w'.cell? ⟨w.heap.size, 0, none⟩ = some (.int .i64 p.obj))
        (first | (with_reducible exact HX8.out _ (stepB (stepD (Below.refl _ _)) h9.out)) | (exact HX8.out _ (stepD (Below.refl _ _))))
        (first | (go_at_call 19; (with_reducible refine (HSX.out pa pc xa xc _ (S8.out.below (stepD (Below.refl _ _))) (SX8.out.below (stepD (Below.refl _ _)))).mono ?_); rintro e w9 ⟨rfl, h9⟩))
      have BZ9 : Hid (Below w8.heap.size w8 w9) := stepB (stepD (Below.refl _ _)) h9.out
      have B9 : Hid (Below w.heap.size w w9) := stepB B8.out BZ9.out
      have P9 := Lib.hid (keepB BZ9.out P8.out)
      have Q9 := Lib.hid (keepB BZ9.out Q8.out)
      obtain ⟨p90, p91, p92, p93⟩ := row_quad P9.out
      obtain ⟨q90, q91, q92, q93⟩ := row_quad Q9.out
      go_wp2_with fail
      go_ret
      exact ⟨rfl, B9.out⟩
  have eij : (p.obj == q.obj) = false := beq_eq_false_iff_ne.2 hij
  obtain ⟨U, hu1, hu2⟩ := sdoR_apart hij hdp hdq
  have hOY := hO.next hdq
  have HXq := Lib.hid (fun pa pc V hs hg => spdo_good (er := er) X U 301 n (by decide) hOX.1 (hOX.2.1.trans hL) h100 _ _ _ _ _ _ fq.1 fq.2 hu1 pa pc V hs hg)
  have HYp := Lib.hid (fun pa pc V hs hg => spdo_good (er := er) Y U 301 n (by decide) hOY.1 (hOY.2.1.trans hL) h100 _ _ _ _ _ _ fp.1 fp.2 hu2 pa pc V hs hg)
  have hOU := hOX.1.next hu1
  have elU : (U.map stP).length = n := by rw [List.length_map, hOU.2.1, hOX.2.1]; exact hL
  have HSU := Lib.hid (fun pa pc qa qc V ha hb => ssame_n pa qa pc qc (U.map stP) (U.map stP) n elU elU h100 V ha hb)
  have HKU := Lib.hid (fun pa pc V ha hg => skey_n (T := 212) (er := er) pa pc U n (by rw [← elU, List.length_map]) h100 302 (by decide) hOU.1 V ha hg)
  simp only [decide_true] at HSU
  obtain ⟨k1, hk1⟩ : ∃ k1, tv (keyS (U.map stP)) = k1 := ⟨_, rfl⟩
  rw [hk1] at HKU
  obtain ⟨kb, hkb⟩ : ∃ kb : ByteArray, k1 = .string kb := ⟨_, hk1.symm⟩
  subst hkb
  clear hdp hdq fp fq hO hL hOX hij hu1 hu2 hOY hOU elU hk1
  rcases hdif with hdif | hdif
  · have HD := Lib.hid (fun pa pc xa xc V ha hb => differ_none pa xa pc xc (S.map stP) (X.map stP) n elS elX h100 hdif V ha hb)
    have HSX := Lib.hid (fun pa pc xa xc V ha hb => ssame_n pa xa pc xc (S.map stP) (X.map stP) n elS elX h100 V ha hb)
    simp only [decide_eq_true (difR_nil.1 hdif)] at HSX
    clear hdif elS elX
    go_enter Tryz.func5, Tryz.ntmps5
    go_wp2_with (first
      | (go_at_call 8; (with_reducible refine HF.out.mono ?_); rintro e w1 ⟨rfl, h1⟩)
      | (go_at_call 9; (with_reducible refine (HB1.out w1 (stepB Bb.out h1.out)).mono ?_); rintro e w2 ⟨pa, pc, u2, rfl, h2⟩
         obtain ⟨W3, hW3, Hb3, hs3, Hx3⟩ := box_new w2 29 (.slice pa n pc)
         have B13 : Hid (Below Wb.heap.size Wb W3) := stepB (stepB h1.out h2.out.2.2) Hb3.out
         have B3 : Hid (Below w.heap.size w W3) := stepB Bb.out B13.out
         have S3 : Hid (SlAt W3 pa (sts (S.map stP))) := h2.out.1.below Hb3.out
         have x3 := Hx3.out.cell
         have P3 := Lib.hid (keepB B13.out Hp.out)
         have Q3 := Lib.hid (keepB B13.out Hqb.out)
         obtain ⟨p30, p31, p32, p33⟩ := row_quad P3.out)
      | (go_at_call 31; first
        | ((with_reducible refine (HP.out pa pc W3 S3.out (HG.out.below' B3.out)).mono ?_); rintro e w4 ⟨xa, xc, rfl, h4⟩
           obtain ⟨W5, hW5, Hb5, hs5, Hx5⟩ := box_new w4 29 (.slice xa n xc)
           have C5 : Hid (Below W3.heap.size W3 W5) := stepB h4.out.2 Hb5.out
           have D5 := Lib.hid (h4.out.1.below Hb5.out)
           have x5 := Hx5.out.cell
           have B5 : Hid (Below w.heap.size w W5) := stepB B3.out C5.out
           have X5 := Lib.hid (keepB C5.out Hx3.out)
           have y3 := row_uno X5.out
           have S5 := Lib.hid (S3.out.below C5.out)
           have P5 := Lib.hid (keepB C5.out P3.out)
           have Q5 := Lib.hid (keepB C5.out Q3.out)
           obtain ⟨q50, q51, q52, q53⟩ := row_quad Q5.out)
        | ((with_reducible refine (HQ.out pa pc W5 S5.out (HG.out.below' B5.out)).mono ?_); rintro e w6 ⟨ya, yc, rfl, h6⟩
           obtain ⟨W7, hW7, Hb7, hs7, Hx7⟩ := box_new w6 29 (.slice ya n yc)
           have C7 : Hid (Below W5.heap.size W5 W7) := stepB h6.out.2 Hb7.out
           have D7 := Lib.hid (h6.out.1.below Hb7.out)
           have x7 := Hx7.out.cell
           have B7 : Hid (Below w.heap.size w W7) := stepB B5.out C7.out
           have X7 := Lib.hid (keepB C7.out X5.out)
           have y5 := row_uno X7.out
           have Z7 := Lib.hid (keepB C7.out Hx5.out)
           have y7 := row_uno Z7.out
           have S7 := Lib.hid (S5.out.below C7.out)
           have P7 := Lib.hid (keepB C7.out P5.out)
           have Q7 := Lib.hid (keepB C7.out Q5.out)
           have SX7 := Lib.hid (D5.out.below C7.out)))
      | (go_at_call 17; (with_reducible refine (HD.out pa pc xa xc W7 S7.out SX7.out).mono ?_); rintro e w8 ⟨ra, rc, rfl, h8⟩
         have B8 : Hid (Below w.heap.size w w8) := stepB B7.out h8.out
         have X8 := Lib.hid (keepB h8.out X7.out)
         have Z8 := Lib.hid (keepB h8.out Z7.out)
         have P8 := Lib.hid (keepB h8.out P7.out)
         have Q8 := Lib.hid (keepB h8.out Q7.out)
         have S8 := Lib.hid (S7.out.below h8.out)
         have SX8 := Lib.hid (SX7.out.below h8.out)))
    have HX8 : Hid (∀ V, Below w8.heap.size w8 V → V.cell? ⟨w2.heap.size, 0, none⟩ = some (.slice pa n pc) ∧ V.cell? ⟨w4.heap.size, 0, none⟩ = some (.slice xa n xc)) := fun V hV => ⟨row_uno (keepB hV X8.out), row_uno (keepB hV Z8.out)⟩
    refine wp_region_held_drew (S := (fun w' => w'.cell? ⟨w2.heap.size, 0, none⟩ = some (.slice pa n pc) ∧ w'.cell? ⟨w4.heap.size, 0, none⟩ = some (.slice xa n xc))) (by kernel_rfl) (HX8.out _ (stepD (Below.refl _ _))) (fun hHeld => ?_)
    refine held_take 0 (some 101) ?_ rfl rfl (by kernel_rfl) (by kernel_rfl) (by kernel_rfl) (fun _ _ _ h => h) (by kernel_rfl) ?_ (by assumption) ?_
    rotate_left
    · intro w hSw; (try dsimp only at hSw); go_simp <;> (try with_reducible rfl)
    simp only [Act.put, List.setIfInBounds_toArray, List.set_cons_zero, List.set_cons_succ]
    refine held_take 1 (some 102) ?_ rfl rfl (by kernel_rfl) (by kernel_rfl) (by kernel_rfl) (fun _ _ _ h => h) (by kernel_rfl) ?_ (by assumption) ?_
    rotate_left
    · intro w hSw; (try dsimp only at hSw); go_simp <;> (try with_reducible rfl)
    simp only [Act.put, List.setIfInBounds_toArray, List.set_cons_zero, List.set_cons_succ]
    refine held_take 2 (some 103) ?_ rfl rfl (by kernel_rfl) (by kernel_rfl) (by kernel_rfl) (fun _ _ _ h => h) (by kernel_rfl) ?_ (by assumption) ?_
    rotate_left
    · intro w hSw; (try dsimp only at hSw); go_simp <;> (try with_reducible rfl)
    simp only [Act.put, List.setIfInBounds_toArray, List.set_cons_zero, List.set_cons_succ]
    refine held_take 3 (some 104) ?_ rfl rfl (by kernel_rfl) (by kernel_rfl) (by kernel_rfl) (fun _ _ _ h => h) (by kernel_rfl) ?_ (by assumption) ?_
    rotate_left
    · intro w hSw; (try dsimp only at hSw); go_simp <;> (try with_reducible rfl)
    simp only [Act.put, List.setIfInBounds_toArray, List.set_cons_zero, List.set_cons_succ]
    refine held_take 4 (some 105) ?_ rfl rfl (by kernel_rfl) (by kernel_rfl) (by kernel_rfl) (fun _ _ _ h => h) (by kernel_rfl) ?_ (by assumption) ?_
    rotate_left
    · intro w hSw; (try dsimp only at hSw); go_simp <;> (try with_reducible rfl)
    simp only [Act.put, List.setIfInBounds_toArray, List.set_cons_zero, List.set_cons_succ]
    refine held_take 5 (some 106) ?_ rfl rfl (by kernel_rfl) (by kernel_rfl) (by kernel_rfl) (fun _ _ _ h => h) (by kernel_rfl) ?_ (by assumption) ?_
    rotate_left
    · intro w hSw; (try dsimp only at hSw); go_simp <;> (try with_reducible rfl)
    simp only [Act.put, List.setIfInBounds_toArray, List.set_cons_zero, List.set_cons_succ]
    refine held_take 6 (some 107) ?_ rfl rfl (by kernel_rfl) (by kernel_rfl) (by kernel_rfl) (fun _ _ _ h => h) (by kernel_rfl) ?_ (by assumption) ?_
    rotate_left
    · intro w hSw; (try dsimp only at hSw); go_simp <;> (try with_reducible rfl)
    simp only [Act.put, List.setIfInBounds_toArray, List.set_cons_zero, List.set_cons_succ]
    refine held_take 7 (some 108) ?_ rfl rfl (by kernel_rfl) (by kernel_rfl) (by kernel_rfl) (fun _ _ _ h => h) (by kernel_rfl) ?_ (by assumption) ?_
    rotate_left
    · intro w hSw; (try dsimp only at hSw); go_simp <;> (try with_reducible rfl)
    simp only [Act.put, List.setIfInBounds_toArray, List.set_cons_zero, List.set_cons_succ]
    refine held_skip 8 (some 109) rfl rfl (by kernel_rfl) (by kernel_rfl) (by kernel_rfl) (fun _ _ _ h => h) (by kernel_rfl) (by assumption) ?_
    simp only [Act.put, List.setIfInBounds_toArray, List.set_cons_zero, List.set_cons_succ]
    refine held_skip 9 (some 110) rfl rfl (by kernel_rfl) (by kernel_rfl) (by kernel_rfl) (fun _ _ _ h => h) (by kernel_rfl) (by assumption) ?_
    simp only [Act.put, List.setIfInBounds_toArray, List.set_cons_zero, List.set_cons_succ]
    refine held_skip 10 (some 111) rfl rfl (by kernel_rfl) (by kernel_rfl) (by kernel_rfl) (fun _ _ _ h => h) (by kernel_rfl) (by assumption) ?_
    simp only [Act.put, List.setIfInBounds_toArray, List.set_cons_zero, List.set_cons_succ]
    refine held_skip 11 (some 112) rfl rfl (by kernel_rfl) (by kernel_rfl) (by kernel_rfl) (fun _ _ _ h => h) (by kernel_rfl) (by assumption) ?_
    simp only [Act.put, List.setIfInBounds_toArray, List.set_cons_zero, List.set_cons_succ]
    refine held_skip 12 (some 113) rfl rfl (by kernel_rfl) (by kernel_rfl) (by kernel_rfl) (fun _ _ _ h => h) (by kernel_rfl) (by assumption) ?_
    simp only [Act.put, List.setIfInBounds_toArray, List.set_cons_zero, List.set_cons_succ]
    refine held_skip 13 (some 114) rfl rfl (by kernel_rfl) (by kernel_rfl) (by kernel_rfl) (fun _ _ _ h => h) (by kernel_rfl) (by assumption) ?_
    simp only [Act.put, List.setIfInBounds_toArray, List.set_cons_zero, List.set_cons_succ]
    refine held_take 14 (some 115) ?_ rfl rfl (by kernel_rfl) (by kernel_rfl) (by kernel_rfl) (fun _ _ _ h => h) (by kernel_rfl) ?_ (by assumption) ?_
    rotate_left
    · intro w hSw; (try dsimp only at hSw); go_simp <;> (try with_reducible rfl)
    simp only [Act.put, List.setIfInBounds_toArray, List.set_cons_zero, List.set_cons_succ]
    refine held_take 15 (some 116) ?_ rfl rfl (by kernel_rfl) (by kernel_rfl) (by kernel_rfl) (fun _ _ _ h => h) (by kernel_rfl) ?_ (by assumption) ?_
    rotate_left
    · intro w hSw; (try dsimp only at hSw); go_simp <;> (try with_reducible rfl)
    simp only [Act.put, List.setIfInBounds_toArray, List.set_cons_zero, List.set_cons_succ]
    refine held_take 16 (some 117) ?_ rfl rfl (by kernel_rfl) (by kernel_rfl) (by kernel_rfl) (fun _ _ _ h => h) (by kernel_rfl) ?_ (by assumption) ?_
    rotate_left
    · intro w hSw; (try dsimp only at hSw); go_simp <;> (try with_reducible rfl)
    simp only [Act.put, List.setIfInBounds_toArray, List.set_cons_zero, List.set_cons_succ]
    refine held_take 17 (some 118) ?_ rfl rfl (by kernel_rfl) (by kernel_rfl) (by kernel_rfl) (fun _ _ _ h => h) (by kernel_rfl) ?_ (by assumption) ?_
    rotate_left
    · intro w hSw; (try dsimp only at hSw); go_simp <;> (try with_reducible rfl)
    simp only [Act.put, List.setIfInBounds_toArray, List.set_cons_zero, List.set_cons_succ]
    refine held_take 18 (some 119) ?_ rfl rfl (by kernel_rfl) (by kernel_rfl) (by kernel_rfl) (fun _ _ _ h => h) (by kernel_rfl) ?_ (by assumption) ?_
    rotate_left
    · intro w hSw; (try dsimp only at hSw); go_simp <;> (try with_reducible rfl)
    simp only [Act.put, List.setIfInBounds_toArray, List.set_cons_zero, List.set_cons_succ]
    refine held_take 20 (some 121) ?_ rfl rfl (by kernel_rfl) (by kernel_rfl) (by kernel_rfl) (fun _ _ _ h => h) (by kernel_rfl) ?_ (by assumption) ?_
    rotate_left
    · intro w hSw; (try dsimp only at hSw); go_simp <;> (try with_reducible rfl)
    simp only [Act.put, List.setIfInBounds_toArray, List.set_cons_zero, List.set_cons_succ]
    refine held_take 21 (some 122) ?_ rfl rfl (by kernel_rfl) (by kernel_rfl) (by kernel_rfl) (fun _ _ _ h => h) (by kernel_rfl) ?_ (by assumption) ?_
    rotate_left
    · intro w hSw; (try dsimp only at hSw); go_simp <;> (try with_reducible rfl)
    simp only [Act.put, List.setIfInBounds_toArray, List.set_cons_zero, List.set_cons_succ]
    refine held_take 22 (some 123) ?_ rfl rfl (by kernel_rfl) (by kernel_rfl) (by kernel_rfl) (fun _ _ _ h => h) (by kernel_rfl) ?_ (by assumption) ?_
    rotate_left
    · intro w hSw; (try dsimp only at hSw); go_simp <;> (try with_reducible rfl)
    simp only [Act.put, List.setIfInBounds_toArray, List.set_cons_zero, List.set_cons_succ]
    refine wpAnyH_ready (rs := [19]) (by kernel_rfl) (by simp) (AllReadyH.cons rfl (fun K hK => ?_) AllReadyH.nil)
    go_simp
    (go_at_call 19; (with_reducible refine (HSX.out pa pc xa xc _ (S8.out.below (stepD (Below.refl _ _))) (SX8.out.below (stepD (Below.refl _ _)))).mono ?_); rintro e w9 ⟨rfl, h9⟩)
    go_wp2_with fail
    refine hK.out _ _ (HX8.out _ (stepB (stepD (Below.refl _ _)) h9.out)) (fun hHeld => ?_)
    clear hK K
    try simp only [Act.put, List.setIfInBounds_toArray, List.set_cons_zero, List.set_cons_succ]
    refine held_take 23 (some 124) ?_ rfl rfl (by kernel_rfl) (by kernel_rfl) (by kernel_rfl) (fun _ _ _ h => h) (by kernel_rfl) ?_ (by assumption) ?_
    rotate_left
    · intro w hSw; (try dsimp only at hSw); go_simp <;> (try with_reducible rfl)
    simp only [Act.put, List.setIfInBounds_toArray, List.set_cons_zero, List.set_cons_succ]
    refine held_take 24 (some 125) ?_ rfl rfl (by kernel_rfl) (by kernel_rfl) (by kernel_rfl) (fun _ _ _ h => h) (by kernel_rfl) ?_ (by assumption) ?_
    rotate_left
    · intro w hSw; (try dsimp only at hSw); go_simp <;> (try with_reducible rfl)
    simp only [Act.put, List.setIfInBounds_toArray, List.set_cons_zero, List.set_cons_succ]
    refine wpAnyH_done (by kernel_rfl) ?_ _
    have BZ9 : Hid (Below w8.heap.size w8 w9) := stepB (stepD (Below.refl _ _)) h9.out
    have B9 : Hid (Below w.heap.size w w9) := stepB B8.out BZ9.out
    have P9 := Lib.hid (keepB BZ9.out P8.out)
    have Q9 := Lib.hid (keepB BZ9.out Q8.out)
    obtain ⟨p90, p91, p92, p93⟩ := row_quad P9.out
    obtain ⟨q90, q91, q92, q93⟩ := row_quad Q9.out
    have SX9 := Lib.hid (SX8.out.below BZ9.out)
    have Z9 := Lib.hid (keepB BZ9.out Z8.out)
    have z9 := row_uno Z9.out
    have Y9 := Lib.hid (keepB BZ9.out (keepB h8.out Hx7.out))
    have SY9 := Lib.hid ((D7.out.below h8.out).below BZ9.out)
    go_wp2_with (first
      | (go_at_call 31; first
        | ((with_reducible refine (HXq.out xa xc w9 SX9.out (HG.out.below' B9.out)).mono ?_); rintro e w10 ⟨ua, uc, rfl, h10⟩
           obtain ⟨W11, hW11, Hb11, hs11, Hx11⟩ := box_new w10 29 (.slice ua n uc)
           have C11 : Hid (Below w9.heap.size w9 W11) := stepB h10.out.2 Hb11.out
           have D11 := Lib.hid (h10.out.1.below Hb11.out)
           have x11 := Hx11.out.cell
           have B11 : Hid (Below w.heap.size w W11) := stepB B9.out C11.out
           have Y11 := Lib.hid (keepB C11.out Y9.out)
           have z11 := row_uno Y11.out
           have SY11 := Lib.hid (SY9.out.below C11.out)
           have P11 := Lib.hid (keepB C11.out P9.out)
           obtain ⟨p110, p111, p112, p113⟩ := row_quad P11.out)
        | ((with_reducible refine (HYp.out ya yc W11 SY11.out (HG.out.below' B11.out)).mono ?_); rintro e w12 ⟨va, vc, rfl, h12⟩
           obtain ⟨W13, hW13, Hb13, hs13, Hx13⟩ := box_new w12 29 (.slice va n vc)
           have C13 : Hid (Below W11.heap.size W11 W13) := stepB h12.out.2 Hb13.out
           have D13 := Lib.hid (h12.out.1.below Hb13.out)
           have x13 := Hx13.out.cell
           have B13' : Hid (Below w.heap.size w W13) := stepB B11.out C13.out
           have U13 := Lib.hid (keepB C13.out Hx11.out)
           have z13 := row_uno U13.out
           have SU13 := Lib.hid (D11.out.below C13.out))))
    have HX13 : Hid (∀ V, Below W13.heap.size W13 V → V.cell? ⟨w10.heap.size, 0, none⟩ = some (.slice ua n uc) ∧ V.cell? ⟨w12.heap.size, 0, none⟩ = some (.slice va n vc)) := fun V hV => ⟨row_uno (keepB hV U13.out), row_uno (keepB hV Hx13.out)⟩
    have BZ : Hid (Below W13.heap.size W13 W13.drew) := stepD (Below.refl _ _)
    have ekk : (kb.toList == kb.toList) = true := beq_self_eq_true _
    go_region_held3 (fun w' => w'.cell? ⟨w10.heap.size, 0, none⟩ = some (.slice ua n uc) ∧ w'.cell? ⟨w12.heap.size, 0, none⟩ = some (.slice va n vc))
      (with_reducible exact HX13.out _ BZ.out)
      (first
        | (go_at_call 19; (with_reducible refine (HSU.out ua uc va vc _ (SU13.out.below BZ.out) (D13.out.below BZ.out)).mono ?_); rintro e wz ⟨rfl, hz⟩
           have BZ : Hid (Below W13.heap.size W13 wz) := stepB BZ.out hz.out)
        | (go_at_call 33; first
          | ((with_reducible refine (HKU.out ua uc _ (SU13.out.below BZ.out) (HG.out.below' (stepB B13'.out BZ.out))).mono ?_); rintro e wz ⟨rfl, hz⟩
             have BZ : Hid (Below W13.heap.size W13 wz) := stepB BZ.out hz.out)
          | ((with_reducible refine (HKU.out va vc _ (D13.out.below BZ.out) (HG.out.below' (stepB B13'.out BZ.out))).mono ?_); rintro e wz ⟨rfl, hz⟩
             have BZ : Hid (Below W13.heap.size W13 wz) := stepB BZ.out hz.out)))
    all_goals
      go_wp2_with fail
      go_ret
      exact ⟨rfl, stepB B13'.out BZ.out⟩
  · have HD := Lib.hid (fun pa pc xa xc V ha hb => differ_one pa xa pc xc (S.map stP) (X.map stP) n elS elX h100 _ hdif V ha hb)
    have HSX := Lib.hid (fun pa pc xa xc V ha hb => ssame_n pa xa pc xc (S.map stP) (X.map stP) n elS elX h100 V ha hb)
    have hne : ¬ S.map stP = X.map stP := fun e => by rw [difR_nil.2 e] at hdif; exact absurd hdif (by simp)
    simp only [decide_eq_false hne] at HSX
    clear hne
    have epp : (p.obj == p.obj) = true := beq_self_eq_true _
    clear hdif elS elX
    go_enter Tryz.func5, Tryz.ntmps5
    go_wp2_with (first
      | (go_at_call 8; (with_reducible refine HF.out.mono ?_); rintro e w1 ⟨rfl, h1⟩)
      | (go_at_call 9; (with_reducible refine (HB1.out w1 (stepB Bb.out h1.out)).mono ?_); rintro e w2 ⟨pa, pc, u2, rfl, h2⟩
         obtain ⟨W3, hW3, Hb3, hs3, Hx3⟩ := box_new w2 29 (.slice pa n pc)
         have B13 : Hid (Below Wb.heap.size Wb W3) := stepB (stepB h1.out h2.out.2.2) Hb3.out
         have B3 : Hid (Below w.heap.size w W3) := stepB Bb.out B13.out
         have S3 : Hid (SlAt W3 pa (sts (S.map stP))) := h2.out.1.below Hb3.out
         have x3 := Hx3.out.cell
         have P3 := Lib.hid (keepB B13.out Hp.out)
         have Q3 := Lib.hid (keepB B13.out Hqb.out)
         obtain ⟨p30, p31, p32, p33⟩ := row_quad P3.out)
      | (go_at_call 31; first
        | ((with_reducible refine (HP.out pa pc W3 S3.out (HG.out.below' B3.out)).mono ?_); rintro e w4 ⟨xa, xc, rfl, h4⟩
           obtain ⟨W5, hW5, Hb5, hs5, Hx5⟩ := box_new w4 29 (.slice xa n xc)
           have C5 : Hid (Below W3.heap.size W3 W5) := stepB h4.out.2 Hb5.out
           have D5 := Lib.hid (h4.out.1.below Hb5.out)
           have x5 := Hx5.out.cell
           have B5 : Hid (Below w.heap.size w W5) := stepB B3.out C5.out
           have X5 := Lib.hid (keepB C5.out Hx3.out)
           have y3 := row_uno X5.out
           have S5 := Lib.hid (S3.out.below C5.out)
           have P5 := Lib.hid (keepB C5.out P3.out)
           have Q5 := Lib.hid (keepB C5.out Q3.out)
           obtain ⟨q50, q51, q52, q53⟩ := row_quad Q5.out)
        | ((with_reducible refine (HQ.out pa pc W5 S5.out (HG.out.below' B5.out)).mono ?_); rintro e w6 ⟨ya, yc, rfl, h6⟩
           obtain ⟨W7, hW7, Hb7, hs7, Hx7⟩ := box_new w6 29 (.slice ya n yc)
           have C7 : Hid (Below W5.heap.size W5 W7) := stepB h6.out.2 Hb7.out
           have D7 := Lib.hid (h6.out.1.below Hb7.out)
           have x7 := Hx7.out.cell
           have B7 : Hid (Below w.heap.size w W7) := stepB B5.out C7.out
           have X7 := Lib.hid (keepB C7.out X5.out)
           have y5 := row_uno X7.out
           have Z7 := Lib.hid (keepB C7.out Hx5.out)
           have y7 := row_uno Z7.out
           have S7 := Lib.hid (S5.out.below C7.out)
           have P7 := Lib.hid (keepB C7.out P5.out)
           have Q7 := Lib.hid (keepB C7.out Q5.out)
           have SX7 := Lib.hid (D5.out.below C7.out)))
      | (go_at_call 17; (with_reducible refine (HD.out pa pc xa xc W7 S7.out SX7.out).mono ?_); rintro e w8 ⟨rb, ro, rc, rfl, d80, hrb, h8⟩
         have B8 : Hid (Below w.heap.size w w8) := stepB B7.out h8.out
         have X8 := Lib.hid (keepB h8.out X7.out)
         have Z8 := Lib.hid (keepB h8.out Z7.out)
         have P8 := Lib.hid (keepB h8.out P7.out)
         have Q8 := Lib.hid (keepB h8.out Q7.out)
         have S8 := Lib.hid (S7.out.below h8.out)
         have SX8 := Lib.hid (SX7.out.below h8.out)))
    obtain ⟨p80, -⟩ := row_quad P8.out
    have HX8 : Hid (∀ V, Below w8.heap.size w8 V → V.cell? ⟨w2.heap.size, 0, none⟩ = some (.slice pa n pc) ∧ V.cell? ⟨w4.heap.size, 0, none⟩ = some (.slice xa n xc) ∧ V.cell? ⟨rb, ro, none⟩ = some (.int .i64 p.obj) ∧ V.cell? ⟨w.heap.size, 0, none⟩ = some (.int .i64 p.obj)) := fun V hV => ⟨row_uno (keepB hV X8.out), row_uno (keepB hV Z8.out), cellB hV hrb.out d80, cellB hV (Array.getElem?_eq_some_iff.1 P8.out).1 p80⟩
    go_region_held3 (fun w' => w'.cell? ⟨w2.heap.size, 0, none⟩ = some (.slice pa n pc) ∧ w'.cell? ⟨w4.heap.size, 0, none⟩ = some (.slice xa n xc) ∧ w'.cell? ⟨rb, ro, none⟩ = some (.int .i64 p.obj) ∧ w'.cell? ⟨w.heap.size, 0, none⟩ = some (.int .i64 p.obj))
      (first | (with_reducible exact HX8.out _ (stepB (stepD (Below.refl _ _)) h9.out)) | (exact HX8.out _ (stepD (Below.refl _ _))))
      (first | (go_at_call 19; (with_reducible refine (HSX.out pa pc xa xc _ (S8.out.below (stepD (Below.refl _ _))) (SX8.out.below (stepD (Below.refl _ _)))).mono ?_); rintro e w9 ⟨rfl, h9⟩))
    have BZ9 : Hid (Below w8.heap.size w8 w9) := stepB (stepD (Below.refl _ _)) h9.out
    have B9 : Hid (Below w.heap.size w w9) := stepB B8.out BZ9.out
    have P9 := Lib.hid (keepB BZ9.out P8.out)
    have Q9 := Lib.hid (keepB BZ9.out Q8.out)
    obtain ⟨p90, p91, p92, p93⟩ := row_quad P9.out
    obtain ⟨q90, q91, q92, q93⟩ := row_quad Q9.out
    have SX9 := Lib.hid (SX8.out.below BZ9.out)
    have Z9 := Lib.hid (keepB BZ9.out Z8.out)
    have z9 := row_uno Z9.out
    have Y9 := Lib.hid (keepB BZ9.out (keepB h8.out Hx7.out))
    have SY9 := Lib.hid ((D7.out.below h8.out).below BZ9.out)
    go_wp2_with (first
      | (go_at_call 31; first
        | ((with_reducible refine (HXq.out xa xc w9 SX9.out (HG.out.below' B9.out)).mono ?_); rintro e w10 ⟨ua, uc, rfl, h10⟩
           obtain ⟨W11, hW11, Hb11, hs11, Hx11⟩ := box_new w10 29 (.slice ua n uc)
           have C11 : Hid (Below w9.heap.size w9 W11) := stepB h10.out.2 Hb11.out
           have D11 := Lib.hid (h10.out.1.below Hb11.out)
           have x11 := Hx11.out.cell
           have B11 : Hid (Below w.heap.size w W11) := stepB B9.out C11.out
           have Y11 := Lib.hid (keepB C11.out Y9.out)
           have z11 := row_uno Y11.out
           have SY11 := Lib.hid (SY9.out.below C11.out)
           have P11 := Lib.hid (keepB C11.out P9.out)
           obtain ⟨p110, p111, p112, p113⟩ := row_quad P11.out)
        | ((with_reducible refine (HYp.out ya yc W11 SY11.out (HG.out.below' B11.out)).mono ?_); rintro e w12 ⟨va, vc, rfl, h12⟩
           obtain ⟨W13, hW13, Hb13, hs13, Hx13⟩ := box_new w12 29 (.slice va n vc)
           have C13 : Hid (Below W11.heap.size W11 W13) := stepB h12.out.2 Hb13.out
           have D13 := Lib.hid (h12.out.1.below Hb13.out)
           have x13 := Hx13.out.cell
           have B13' : Hid (Below w.heap.size w W13) := stepB B11.out C13.out
           have U13 := Lib.hid (keepB C13.out Hx11.out)
           have z13 := row_uno U13.out
           have SU13 := Lib.hid (D11.out.below C13.out))))
    have HX13 : Hid (∀ V, Below W13.heap.size W13 V → V.cell? ⟨w10.heap.size, 0, none⟩ = some (.slice ua n uc) ∧ V.cell? ⟨w12.heap.size, 0, none⟩ = some (.slice va n vc)) := fun V hV => ⟨row_uno (keepB hV U13.out), row_uno (keepB hV Hx13.out)⟩
    have BZ : Hid (Below W13.heap.size W13 W13.drew) := stepD (Below.refl _ _)
    have ekk : (kb.toList == kb.toList) = true := beq_self_eq_true _
    go_region_held3 (fun w' => w'.cell? ⟨w10.heap.size, 0, none⟩ = some (.slice ua n uc) ∧ w'.cell? ⟨w12.heap.size, 0, none⟩ = some (.slice va n vc))
      (with_reducible exact HX13.out _ BZ.out)
      (first
        | (go_at_call 19; (with_reducible refine (HSU.out ua uc va vc _ (SU13.out.below BZ.out) (D13.out.below BZ.out)).mono ?_); rintro e wz ⟨rfl, hz⟩
           have BZ : Hid (Below W13.heap.size W13 wz) := stepB BZ.out hz.out)
        | (go_at_call 33; first
          | ((with_reducible refine (HKU.out ua uc _ (SU13.out.below BZ.out) (HG.out.below' (stepB B13'.out BZ.out))).mono ?_); rintro e wz ⟨rfl, hz⟩
             have BZ : Hid (Below W13.heap.size W13 wz) := stepB BZ.out hz.out)
          | ((with_reducible refine (HKU.out va vc _ (D13.out.below BZ.out) (HG.out.below' (stepB B13'.out BZ.out))).mono ?_); rintro e wz ⟨rfl, hz⟩
             have BZ : Hid (Below W13.heap.size W13 wz) := stepB BZ.out hz.out)))
    all_goals
      go_wp2_with fail
      go_ret
      exact ⟨rfl, stepB B13'.out BZ.out⟩
end Go.Proofs.YtcjfcomadcebnaaGreatDoor
