/- The walk of the statement on new memory. -/
import Derived.Test.YtcjfcomadcebnaaGreatDoorM10
import Derived.Test.YtcjfcomadcebnaaGreatDoorUs
namespace Go.Proofs.YtcjfcomadcebnaaGreatDoor
open Go.RowKit Go.Maps Go.WideMaps Go.WideElems Go.ChangeShapes Go.WideShapes
variable {er : Nat → Addr}

theorem row_one {W : World} {B : Nat} {x : Value} {t : TypeId} (h : W.heap[B]? = some (.cells #[x] t)) : W.cell? ⟨B, 0, none⟩ = some x := by simp [World.cell?, h]

set_option maxHeartbeats 8000000 in
set_option maxRecDepth 100000 in
theorem storeOwn_any (la a ca : Option Addr) (lc c cc : Nat) (l : List Int) (os : List (Int × Int)) (cs : List CO) (f1 : ∀ x ∈ cs, fits64 x.key ∧ fits64 x.val) (w : World) (hG : Glob 212 er w) (hl : SlAt w la (ic l)) (h : SlAt w a (obs os)) (h1 : SlAt w ca (cls cs)) :
    Calls Tryz.prog 7 #[.slice la l.length lc, .slice a os.length c, .slice ca cs.length cc] w fun e w' => e = .returned (.bool true) ∧ Hid (Below w.heap.size w w') := by
  obtain ⟨i0, hi, hz0, hz1, hz2⟩ := info_parts (P := Tryz.prog) (e := 3) (z := .int .i64 0) (size := 1) (bytes := 8) (by kernel_rfl)
  have HF := Lib.hid (first_any w hG)
  by_cases hA : l.length ≤ 1000
  case neg =>
    clear h h1 hl f1 hG
    generalize os.length = n at *
    generalize l.length = m0 at *
    generalize cs.length = m1 at *
    have e1 : decide ((1000 : Int) < (m0 : Int)) = true := by simp; omega
    clear hA
    go_enter Tryz.func7, Tryz.ntmps7
    go_wp2_with (first | (go_at_call 8; (with_reducible refine HF.out.mono ?_); rintro e w1 ⟨rfl, h1⟩))
    go_ret
    exact ⟨rfl, h1.out⟩
  by_cases hB : os.length ≤ 100
  case neg =>
    clear h h1 hl f1 hG
    generalize os.length = n at *
    generalize l.length = m0 at *
    generalize cs.length = m1 at *
    have e1 : decide ((1000 : Int) < (m0 : Int)) = false := by simp; omega
    have e2 : decide ((100 : Int) < (n : Int)) = true := by simp; omega
    clear hA hB
    go_enter Tryz.func7, Tryz.ntmps7
    go_wp2_with (first | (go_at_call 8; (with_reducible refine HF.out.mono ?_); rintro e w1 ⟨rfl, h1⟩))
    go_ret
    exact ⟨rfl, h1.out⟩
  by_cases hC : cs.length ≤ 200
  case neg =>
    clear h h1 hl f1 hG
    generalize os.length = n at *
    generalize l.length = m0 at *
    generalize cs.length = m1 at *
    have e1 : decide ((1000 : Int) < (m0 : Int)) = false := by simp; omega
    have e2 : decide ((100 : Int) < (n : Int)) = false := by simp; omega
    have e3 : decide ((200 : Int) < (m1 : Int)) = true := by simp; omega
    clear hA hB hC
    go_enter Tryz.func7, Tryz.ntmps7
    go_wp2_with (first | (go_at_call 8; (with_reducible refine HF.out.mono ?_); rintro e w1 ⟨rfl, h1⟩))
    go_ret
    exact ⟨rfl, h1.out⟩
  have e1 : decide ((1000 : Int) < (l.length : Int)) = false := by simp; omega
  have e2 : decide ((100 : Int) < (os.length : Int)) = false := by simp; omega
  have e3 : decide ((200 : Int) < (cs.length : Int)) = false := by simp; omega
  have HG := Lib.hid hG
  obtain ⟨m0, hm0⟩ : ∃ m0, l.length = m0 := ⟨_, rfl⟩
  have HOf := Lib.hid (fun V (hV : Below w.heap.size w V) => of_int la m0 lc (ic l) (by simp [hm0]) (ic_one l) (by omega) V (hl.below hV))
  have HLl := Lib.hid hl
  have Hm0 := Lib.hid hm0
  by_cases hfit : os.length ≤ 8 ∧ ∀ o ∈ os, validO o.1 o.2 = true
  case neg =>
    have HB1 := Lib.hid (fun V (hV : Below w.heap.size w V) x => behind_bad (T := 212) (er := er) a c os hfit x V (h.below hV) (hG.below' hV))
    have HN := Lib.hid (fun V (hV : Below w.heap.size w V) => spnew_bad (T := 212) (er := er) a c os hfit V (h.below hV) (hG.below' hV))
    unfold NewBad at HN
    rw [hm0] at e1 ⊢
    clear h h1 hl f1 hG hfit hA hB hC hm0
    generalize os.length = n at *
    generalize cs.length = m1 at *
    go_enter Tryz.func7, Tryz.ntmps7
    go_wp2_with (first
      | (go_at_call 8; (with_reducible refine HF.out.mono ?_); rintro e w1 ⟨rfl, h1⟩)
      | (go_at_call 22; (with_reducible refine (HOf.out w1 h1.out).mono ?_); rintro e wl ⟨vl, rfl, hl1⟩
         obtain ⟨xa, xc, rfl, -, -⟩ := row_sl hl1.out.1
         obtain ⟨Wl, hWl, Hbl, hsl, Hxl⟩ := box_new wl 54 (.slice xa m0 xc)
         have Bl : Hid (Below w.heap.size w Wl) := stepB (stepB h1.out hl1.out.2) Hbl.out)
      | (go_at_call 9; (with_reducible refine (HB1.out Wl Bl.out _).mono ?_); rintro e w2 ⟨rfl, h2⟩
         obtain ⟨V3, hV3, b3, -, TB3⟩ := cells_new w2 #[.slice none 0 0] 29
         obtain ⟨W3, hW3, ⟨f3, g3⟩, HF3, HE3⟩ := box_put1 (w := w2) (V := V3) (.slice none 0 0) TB3.out (Nat.le_refl _)
         have B3 : Hid (Below w.heap.size w W3) := stepB (stepB Bl.out h2.out) (b3.out.trans HE3.out))
      | (go_at_call 34; (with_reducible refine (HN.out W3 B3.out).mono ?_); rintro e w4 ⟨t4, a4, rfl, h4⟩
         obtain ⟨V5, hV5, b5, -, TB5⟩ := cells_new w4 #[.slice none 0 0] 29
         obtain ⟨W5, hW5, ⟨f5, g5⟩, HF5, HE5⟩ := box_put1 (w := w4) (V := V5) (.slice none 0 0) TB5.out (Nat.le_refl _)
         have B5 : Hid (Below w.heap.size w W5) := stepB (stepB B3.out h4.out) (b5.out.trans HE5.out)))
    go_ret
    exact ⟨rfl, B5.out⟩
  obtain ⟨h8, hv⟩ := hfit
  have HB1 := Lib.hid (fun V (hV : Below w.heap.size w V) => behind_good (T := 212) (er := er) a c os h8 hv cs hC f1 ca cc V (h.below hV) (h1.below hV) (hG.below' hV))
  have HN := Lib.hid (fun V (hV : Below w.heap.size w V) => spnew_ok (T := 212) (er := er) a c os h8 hv V (h.below hV) (hG.below' hV))
  have HR := Lib.hid (fun V (hV : Below w.heap.size w V) => rnew7_ok a c os h8 hv V (h.below hV))
  have hL := runS_len os hv cs
  have hO := runS_fit os hv cs hC
  have hL0 : (startS os).length = os.length := by simp [startS]
  have hO0 : OkS (startS os) 300 := by
    intro s hs
    have h3 := start_ok os hv s hs
    have h4 := h3.len
    exact ⟨h3.kind, h3.reg, h3.cnt, h3.num, h3.vs, h3.ks, h3.vb, h3.kb, h3.rises, by omega⟩
  rw [hm0] at e1 ⊢
  have Hm1000 : Hid (m0 ≤ 1000) := by show _ ≤ _; omega
  clear h h1 hl f1 hG hv hA hB hC hm0
  unfold BGood at HB1
  unfold PAt at HN
  obtain ⟨S, hS⟩ : ∃ S, runS (startS os) cs = S := ⟨_, rfl⟩
  obtain ⟨U, hU⟩ : ∃ U, startS os = U := ⟨_, rfl⟩
  rw [hS] at hL hO HB1
  rw [hU] at hL0 hO0 HN HR
  rw [hL0] at HN
  clear hS hU
  generalize os.length = n at *
  generalize cs.length = m1 at *
  have h100 : n ≤ 100 := by omega
  clear h8
  have elS : (S.map stP).length = n := by rw [List.length_map]; exact hL
  have elU : (U.map stP).length = n := by rw [List.length_map]; exact hL0
  have HD := Lib.hid (fun pa pc qa qc V ha hb => differ_n pa qa pc qc (S.map stP) (U.map stP) n elS elU h100 V ha hb)
  have HRD := Lib.hid (fun u x V hu hx => rdiffer_any S U n n 300 300 (by decide) (by decide) hO hO0 hL hL0 h100 h100 u x V hu hx)
  have HAll := Lib.hid (fun xa xc V hx => all_int xa m0 xc (ic l) (by simp [Hm0.out]) (ic_one l) (by have := Hm1000.out; omega) V hx)
  have hq100 : (difR (S.map stP) (U.map stP)).length ≤ 100 := by have := difR_len (S.map stP) (U.map stP); rw [elS, elU] at this; omega
  obtain ⟨D, hDD⟩ : ∃ D, difR (S.map stP) (U.map stP) = D := ⟨_, rfl⟩
  rw [hDD] at HD HRD hq100
  obtain ⟨q, hq⟩ : ∃ q, D.length = q := ⟨_, rfl⟩
  rw [hq] at HD HRD hq100
  have Hq := Lib.hid hq
  have Hq100 : Hid (q ≤ 100) := hq100
  clear hL hO hL0 hO0 elS elU hDD hq hq100
  go_enter Tryz.func7, Tryz.ntmps7
  go_wp2_with (first
    | (go_at_call 8; (with_reducible refine HF.out.mono ?_); rintro e w1 ⟨rfl, h1⟩)
    | (go_at_call 22; (with_reducible refine (HOf.out w1 h1.out).mono ?_); rintro e wl ⟨vl, rfl, hl1⟩
       obtain ⟨xa, xc, rfl, hxs, -⟩ := row_sl hl1.out.1
       obtain ⟨Wl, hWl, Hbl, hsl, Hxl⟩ := box_new wl 54 (.slice xa m0 xc)
       have Bl : Hid (Below w.heap.size w Wl) := stepB (stepB h1.out hl1.out.2) Hbl.out
       have Xl := Lib.hid (hxs.below Hbl.out)
       clear hxs)
    | (go_at_call 9; (with_reducible refine (HB1.out Wl Bl.out).mono ?_); rintro e w2 ⟨pa, pc, dsv, rfl, h2⟩
       obtain ⟨W3, hW3, Hb3, hs3, Hx3⟩ := box_new w2 29 (.slice pa n pc)
       have C3 : Hid (Below Wl.heap.size Wl W3) := stepB h2.out.2.2 Hb3.out
       have B3 : Hid (Below w.heap.size w W3) := stepB Bl.out C3.out)
    | (go_at_call 34; (with_reducible refine (HN.out W3 B3.out).mono ?_); rintro e w4 ⟨v4, rfl, h4⟩
       obtain ⟨na, nc, rfl⟩ : ∃ na nc, v4 = .agg #[.slice na n nc] := by obtain ⟨⟨na, nc, e, _⟩, _⟩ := h4.out; exact ⟨na, nc, e⟩
       have N4 : Hid (SlAt w4 na (sts (U.map stP))) := by obtain ⟨⟨na', nc', e, hx⟩, _⟩ := h4.out; cases e; exact hx
       have b4 : Hid (Below W3.heap.size W3 w4) := h4.out.2
       obtain ⟨W5, hW5, Hb5, hs5, Hx5⟩ := box_new w4 29 (.slice na n nc)
       have C5 : Hid (Below W3.heap.size W3 W5) := stepB b4.out Hb5.out
       have B5 : Hid (Below w.heap.size w W5) := stepB B3.out C5.out)
    | (go_at_call 35; (with_reducible refine (HR.out W5 B5.out).mono ?_); rintro e w6 ⟨dfv, b6, n6, m6, rfl, h6⟩
       obtain ⟨V7, hV7, b7, -, TB7⟩ := cells_new w6 #[.int .i64 0, .slice none 0 0] 78
       obtain ⟨G1, G2, hG1, hG2, ⟨⟨g0, d0⟩, ⟨g1, d1⟩⟩, HG2, HGE⟩ := box_put2 (w := w6) (V := V7) (.int .i64 0) (.slice b6 n6 m6) TB7.out (Nat.le_refl _)
       have C7 : Hid (Below W5.heap.size W5 G2) := stepB h6.out.2 (b7.out.trans HGE.out)
       have B7 : Hid (Below w.heap.size w G2) := stepB B5.out C7.out))
  have K0 : Hid (∀ V, Below G2.heap.size G2 V → (V.cell? ⟨wl.heap.size, 0, none⟩ = some (.slice xa m0 xc) ∧ V.cell? ⟨w2.heap.size, 0, none⟩ = some (.slice pa n pc) ∧ V.cell? ⟨w4.heap.size, 0, none⟩ = some (.slice na n nc)) ∧ SlAt V xa (ic l) ∧ SlAt V pa (sts (S.map stP)) ∧ SlAt V na (sts (U.map stP)) ∧ SAt V S dsv ∧ SAt V U dfv ∧ Below w.heap.size w V) := fun V hV =>
    ⟨⟨row_one (keepB hV (keepB C7.out (keepB C5.out (keepB C3.out Hxl.out)))), row_one (keepB hV (keepB C7.out (keepB C5.out Hx3.out))), row_one (keepB hV (keepB C7.out Hx5.out))⟩,
      (((Xl.out.below C3.out).below C5.out).below C7.out).below hV, (((h2.out.1.below Hb3.out).below C5.out).below C7.out).below hV, ((N4.out.below Hb5.out).below C7.out).below hV, (((h2.out.2.1.below Hb3.out).below C5.out).below C7.out).below hV, (h6.out.1.below (b7.out.trans HGE.out)).below hV, stepB B7.out hV⟩
  clear HB1 HN HR HOf h1 hl1 Hxl Xl h2 Hx3 C3 h4 N4 b4 Hx5 C5 h6 C7 B3 B5 Bl TB7 HG2 HGE
  go_loopw [16] (fun i wr => ∃ r : Nat, i = .int .i64 r ∧ r ≤ 2 ∧ Hid (Below G2.heap.size G2 wr)) (fun i _ => 2 - (intOf i).toNat)
  case atStart => exact ⟨0, rfl, by omega, Below.refl _ _⟩
  case round =>
    obtain ⟨r, rfl, hr, HW⟩ := hrel
    obtain ⟨wb, hwb⟩ : ∃ wb, wb = wr := ⟨_, rfl⟩
    subst hwb
    by_cases hlt : r < 2
    · obtain rfl | rfl : r = 0 ∨ r = 1 := by omega
      all_goals (
        clear hlt hr
        obtain ⟨⟨y8, y9, y12⟩, -⟩ := K0.out wb HW.out
        go_wp2_with (first
          | (go_at_call 26; (with_reducible refine (HAll.out xa xc wb (K0.out wb HW.out).2.1).mono ?_); rintro e wx ⟨vx, rfl, hx⟩
             have Bx : Hid (Below G2.heap.size G2 wx) := stepB HW.out hx.out.2
             obtain ⟨⟨z8, z9, z12⟩, -⟩ := K0.out wx Bx.out)
          | (go_at_call 17; (with_reducible refine (HD.out pa pc na nc wx (K0.out wx Bx.out).2.2.1 (K0.out wx Bx.out).2.2.2.1).mono ?_); rintro e wd ⟨vd, rfl, hd⟩
             have H2 : Hid (Ow2 wb.heap.size wb vx vd m0 q wd) := ⟨⟨_, row_kept hx.out.1 hd.out.2⟩, ⟨_, row_base hd.out.1 hx.out.2.size⟩, rows_apart1 hx.out.1 hd.out.1 (Nat.le_refl _), stepB hx.out.2 hd.out.2⟩
             obtain ⟨ax, cx, rfl, -, -⟩ := row_sl hx.out.1
             obtain ⟨ad, cd, rfl, -, -⟩ := row_sl hd.out.1))
        clear hx hd Bx z8 z9 z12 y8 y9 y12
        have hm1000 := Hm1000.out
        have hq100 := Hq100.out
        try go_frame
        go_loopw [19] (fun i wz => ∃ j : Nat, i = .int .i64 j ∧ j ≤ m0 ∧ Hid (Ow2 wb.heap.size wb (.slice ax m0 cx) (.slice ad q cd) m0 q wz)) (fun i _ => m0 - (intOf i).toNat)
        case atStart => exact ⟨0, rfl, Nat.zero_le _, H2.out⟩
        case round =>
          clear H2
          obtain ⟨j, rfl, hj, H2⟩ := hrel
          by_cases hjn : j < m0
          · obtain ⟨ps, hp⟩ := H2.out.x
            obtain ⟨g, rfl⟩ := row_addr1 hp (by omega)
            obtain ⟨u0, z0, f0⟩ := own_cell1 hp (j := j) (by omega)
            have H4 := Lib.hid (H2.out.setX (Nat.le_refl _) j (.int .i64 (-9)))
            clear hp
            go_wp2
            go_roundw
            case rel => exact ⟨j + 1, by go_num, by omega, H4.out⟩
            case measure => simp [intOf]; omega
          · have hjn' : m0 = j := by omega
            subst hjn'
            clear hj hjn
            go_wp2
            go_loopw [20] (fun i wz => ∃ j : Nat, i = .int .i64 j ∧ j ≤ q ∧ Hid (Ow2 wb.heap.size wb (.slice ax m0 cx) (.slice ad q cd) m0 q wz)) (fun i _ => q - (intOf i).toNat)
            case atStart => exact ⟨0, rfl, Nat.zero_le _, H2.out⟩
            case round =>
              clear H2
              obtain ⟨j2, rfl, hj, H2⟩ := hrel
              by_cases hjn : j2 < q
              · obtain ⟨ps, hp⟩ := H2.out.y
                obtain ⟨g, rfl⟩ := row_addr1 hp (by omega)
                obtain ⟨u0, z0, f0⟩ := own_cell1 hp (j := j2) (by omega)
                have H4 := Lib.hid (H2.out.setY (Nat.le_refl _) j2 (.int .i64 (-9)))
                clear hp
                go_wp2
                go_roundw
                case rel => exact ⟨j2 + 1, by go_num, by omega, H4.out⟩
                case measure => simp [intOf]; omega
              · have hjn2 : q = j2 := by omega
                subst hjn2
                clear hj hjn
                obtain ⟨xs, hx⟩ := H2.out.x
                obtain ⟨ys, hy⟩ := H2.out.y
                have HX := Lib.hid hx
                have HY := Lib.hid hy
                clear hx hy
                have HA7 : Hid (wb.heap.size ≤ (wr.alloc (.cells #[.int .i64 1] 3)).heap.size) := by
                  show _ ≤ (World.alloc _ _).heap.size
                  simp
                  have := H2.out.below.size
                  omega
                go_wp2_with (at_builtin; refine wpList_append_lies _ rfl _ _ 37 rfl wb.heap.size 3 i0 (.int .i64 0) 1 8 Tryz.underlying37 hi hz0 hz1 hz2 rfl (by decide) (.slice ax m0 cx) m0 xs rfl (HX.out.alloc _) ⟨wr.heap.size, 0, none⟩ 1 1 [.int .i64 1] rfl rfl (cell_one_new _ _ _) (by intro u hu; simp at hu; subst hu; rfl) (by decide) (by unfold maxLen; omega) (by omega) HA7.out _ rfl ?_)
                intro gx kx w8 hown8 hgrow8 hlie8 hlt8
                have HB8 : Hid (Below wb.heap.size wb w8) := (H2.out.below.alloc H2.out.below.size _).grown hgrow8 HA7.out (fun k hk => (HX.out.lt k hk).1)
                have HY8 := Lib.hid (row_keep1 (HY.out.alloc (.cells #[.int .i64 1] 3)) hgrow8 (fun k e => H2.out.xy k e))
                have cx8 := row_last2 hown8
                clear hown8 hgrow8
                have HA8 : Hid (wb.heap.size ≤ (w8.alloc (.cells #[.int .i64 1] 3)).heap.size) := by
                  show _ ≤ (World.alloc _ _).heap.size
                  simp
                  have := HB8.out.size
                  omega
                have HCx : Hid (gx < w8.heap.size) := World.block_lt_of_cell? w8 _ cx8
                have Hcx8 := Lib.hid cx8
                have Hax : Hid (∀ k, (Value.slice ad q cd).ownBlock = some k → gx ≠ k) := fun k hk e => by
                  subst e
                  rcases hlie8 with e | e
                  · exact H2.out.xy gx e hk
                  · have := (HY.out.lt gx hk).2
                    omega
                go_wp2_with (at_builtin; refine wpList_append_own _ rfl _ _ 37 rfl wb.heap.size 3 i0 (.int .i64 0) 1 8 Tryz.underlying37 hi hz0 hz1 hz2 rfl (by decide) (.slice ad q cd) q ys rfl (HY8.out.alloc _) ⟨w8.heap.size, 0, none⟩ 1 1 [.int .i64 1] rfl rfl (cell_one_new _ _ _) (by intro u hu; simp at hu; subst hu; rfl) (by unfold maxLen; omega) (by omega) HA8.out ?_)
                intro v9 w9 hown9 hgrow9 _
                have HB9 : Hid (Below wb.heap.size wb w9) := (HB8.out.alloc HB8.out.size _).grown hgrow9 HA8.out (fun k hk => (HY8.out.lt k hk).1)
                obtain ⟨gd, kd, rfl, cd9⟩ := row_last hown9
                have cx9 : w9.cell? ⟨gx, m0, none⟩ = some (.int .i64 1) := by
                  have hlt8' : gx < (w8.alloc (.cells #[.int .i64 1] 3)).heap.size := Nat.lt_of_lt_of_le HCx.out (by show _ ≤ (World.alloc _ _).heap.size; simp)
                  have e8 : (w8.alloc (.cells #[.int .i64 1] 3)).cell? ⟨gx, m0, none⟩ = some (.int .i64 1) := (((Below.refl w8.heap.size w8).alloc (Nat.le_refl _) _).cell (p := ⟨gx, m0, none⟩) HCx.out).trans Hcx8.out
                  exact (World.cell?_of_block (a := ⟨gx, m0, none⟩) (hgrow9.block gx hlt8' (fun e => Hax.out gx e.symm rfl))).trans e8
                clear hown9 hgrow9 cx8
                have i1 : IntKind.i64.wrap (((m0 + 1 : Nat) : Int) - 1) = (m0 : Int) := by rw [IntWalk.i64_in _ (by omega)]; omega
                have i2 : IntKind.i64.wrap (((q + 1 : Nat) : Int) - 1) = (q : Int) := by rw [IntWalk.i64_in _ (by omega)]; omega
                go_wp2_with fail
                go_roundw
                case rel => first | exact ⟨1, by go_num, by omega, stepB HW.out HB9.out⟩ | exact ⟨2, by go_num, by omega, stepB HW.out HB9.out⟩
                case measure => simp [intOf])
    · have hr2 : r = 2 := by omega
      subst hr2
      clear hlt hr
      obtain ⟨⟨y8, y9, y12⟩, -⟩ := K0.out wb HW.out
      have hm1000 := Hm1000.out
      have hq100 := Hq100.out
      have HSl := Lib.hid (fun (x : Option Addr) (k : Nat) V (hV : Below w.heap.size w V) (hx : IAt V x l) => sameInts_any x la k lc l l V hx (SlAt.ints (HLl.out.below hV)) (by rw [Hm0.out]; omega) (by rw [Hm0.out]; omega))
      have HSd := Lib.hid (fun (x y : Option Addr) (k k' : Nat) V (hx : IAt V x D) (hy : IAt V y D) => sameInts_any x y k k' D D V hx hy (by rw [Hq.out]; omega) (by rw [Hq.out]; omega))
      rw [Hm0.out] at HSl
      rw [Hq.out] at HSd
      simp only [decide_true] at HSl HSd
      go_wp2_with (first
        | (go_at_call 26; (with_reducible refine (HAll.out xa xc wb (K0.out wb HW.out).2.1).mono ?_); rintro e wx ⟨vx, rfl, hx⟩
           have Bx : Hid (Below G2.heap.size G2 wx) := stepB HW.out hx.out.2
           obtain ⟨ax, cx, rfl, hxs, -⟩ := row_sl hx.out.1
           have HIx := Lib.hid (SlAt.ints hxs)
           clear hxs)
        | (go_at_call 16; first
          | ((with_reducible refine (HSl.out ax cx wx (stepB B7.out Bx.out) HIx.out).mono ?_); rintro e ws ⟨rfl, qs, hs⟩
             have Bs : Hid (Below G2.heap.size G2 ws) := stepB Bx.out (hs ▸ below_drewN (Below.refl _ _) qs)
             obtain ⟨⟨z8, z9, z12⟩, -⟩ := K0.out ws Bs.out
             clear hs)
          | ((with_reducible refine (HSd.out ad ar cd cr wr2 (HId.out.below hr2.out.2) HIr.out).mono ?_); rintro e we ⟨rfl, qe, he⟩
             have Be : Hid (Below G2.heap.size G2 we) := stepB Br.out (he ▸ below_drewN (Below.refl _ _) qe)
             clear he))
        | (go_at_call 17; (with_reducible refine (HD.out pa pc na nc ws (K0.out ws Bs.out).2.2.1 (K0.out ws Bs.out).2.2.2.1).mono ?_); rintro e wd ⟨vd, rfl, hd⟩
           have Bd : Hid (Below G2.heap.size G2 wd) := stepB Bs.out hd.out.2
           obtain ⟨ad, cd, rfl, hds, -⟩ := row_sl hd.out.1
           have HId := Lib.hid (SlAt.ints hds)
           clear hds)
        | (go_at_call 18; (with_reducible refine (HRD.out dsv dfv wd (K0.out wd Bd.out).2.2.2.2.1 (K0.out wd Bd.out).2.2.2.2.2.1).mono ?_); rintro e wr2 ⟨vr, rfl, hr2⟩
           have Br : Hid (Below G2.heap.size G2 wr2) := stepB Bd.out hr2.out.2
           obtain ⟨ar, cr, rfl, hrs, -⟩ := row_sl hr2.out.1
           have HIr := Lib.hid (SlAt.ints hrs)
           clear hrs))
      go_ret
      exact ⟨rfl, stepB B7.out Be.out⟩
end Go.Proofs.YtcjfcomadcebnaaGreatDoor
