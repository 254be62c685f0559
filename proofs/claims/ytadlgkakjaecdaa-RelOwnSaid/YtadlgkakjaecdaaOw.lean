/- The walk of the statement on new memory. -/
import Derived.Test.YtadlgkakjaecdaaOr
namespace Go.Proofs.Ytadlgkakjaecdaa
open Go.RowKit Go.Maps Go.WideMaps Go.WideElems Go.ChangeShapes Go.WideShapes

set_option maxHeartbeats 8000000 in
set_option maxRecDepth 100000 in
theorem relOwn_any (a : Option Addr) (c : Nat) (l : List Pr) (hl : ∀ p ∈ l, FitP p) (x y : Int) (hxy : FitP (x, y)) (w : World) (h : SlP w a l) :
    Calls Try.prog 8 #[.slice a l.length c, .int .i64 x, .int .i64 y] w fun e w' => e = .returned (.bool true) ∧ Hid (Below w.heap.size w w') := by
  obtain ⟨i7, hi7, hx0, hx1, hx2⟩ := info_parts elem57
  obtain ⟨i3, hi3, hz0, hz1, hz2⟩ := info_parts elem3
  have H := Lib.hid h
  have Hxy := Lib.hid hxy
  obtain ⟨n, hn⟩ : ∃ n, l.length = n := ⟨_, rfl⟩
  obtain ⟨M, hM⟩ : ∃ M, putAll l = M := ⟨_, rfl⟩
  have Hmade : Hid (n ≤ 60 → ∀ W, SlP W a l → Calls Try.prog 21 #[.slice a n c] W fun e w' => ∃ r b L D a' c', e = .returned (.tuple #[.pointer (some ⟨r, 0, none⟩), .slice a' M.length c']) ∧ Hid (RelAt r b L D w' ∧ (∀ q, q ∈ L ↔ q ∈ l) ∧ SlP w' a' M ∧ Below W.heap.size W w' ∧ W.heap.size ≤ r ∧ W.heap.size ≤ b)) := fun h60 W hW => by
    have h1 := made_any a c l (by omega) hl W hW
    rw [hn, hM] at h1
    exact h1
  have HMr : Hid (RiseP M) := by show RiseP M; rw [← hM]; exact rise_putAll l
  have HMm : Hid (∀ q, q ∈ M ↔ q ∈ l) := fun q => by rw [← hM]; exact mem_putAll l q
  have HMn : Hid (M.length ≤ n) := by show _ ≤ _; rw [← hM, ← hn]; exact putAll_len l
  rw [hn]
  have Hn := Lib.hid hn
  clear h hl hn hM hxy
  have hfst : Hid (Calls Try.prog 9 #[] w fun e w' => e = .returned (.bool true) ∧ Hid (Below w.heap.size w w')) := first_any w
  by_cases h60 : n ≤ 60
  · have hN : decide ((60 : Int) < (n : Int)) = false := by simp; omega
    have HN := Lib.hid h60
    clear h60
    go_enter Try.func8, Try.ntmps8
    go_wp2_with (first
      | (go_at_call 9; refine hfst.out.mono ?_; rintro e w1 ⟨rfl, h1⟩; have H1 := Lib.hid (H.out.below h1.out))
      | (go_at_call 21; refine (Hmade.out HN.out w1 H1.out).mono ?_; rintro e w2 ⟨r, b, L, D, a2, c2, rfl, h2⟩
         have Hr2 := Lib.hid h2.out.1
         have Hs2 := Lib.hid h2.out.2.2.1
         have HLM : Hid (∀ q, q ∈ L ↔ q ∈ M) := fun q => by rw [h2.out.2.1 q, HMm.out q]
         have Hb2 : Hid (Below w.heap.size w w2) := h1.out.trans (h2.out.2.2.2.1.mono h1.out.size)
         have HLl : Hid (L.length ≤ 60) := by
           have h3 := nodup_len h2.out.1.prs.once (fun p hp => (h2.out.2.1 p).1 hp)
           have h4 := Hn.out
           have h5 := HN.out
           show _ ≤ _
           omega
         clear h2 h1)
      | (go_at_call 22; with_reducible refine (closure_any r b L D (by have := HLl.out; omega) (tc_bound (by have := HLl.out; omega)) w2 Hr2.out).mono ?_; rintro e w3 ⟨r3, b3, N, DN, rfl, h3⟩
         have HB3 : Hid (Below w2.heap.size w2 w3) := h3.out.2.2.1
         have Hb3 : Hid (w2.heap.size ≤ b3) := h3.out.2.2.2.2
         have HNn : Hid (N.length ≤ 10000) := tc_bound (by have := HLl.out; omega) N h3.out.1.prs.once (fun p hp => (h3.out.2.1 p).1 hp)
         have Hadd : Hid (Calls Try.prog 13 #[.pointer (some ⟨r3, 0, none⟩), .int .i64 x, .int .i64 y] w3 fun e w' => ∃ L' D' bb, e = .returned (.bool bb) ∧ Hid (RelAt r3 b3 L' D' w' ∧ w3.grownBy w' (some b3))) :=
           (add_any r3 b3 N DN (x, y) Hxy.out (by have := HNn.out; omega) w3 h3.out.1).mono (fun e w' ⟨L', D', e1, h4⟩ => ⟨L', D', _, e1, h4.out.1, h4.out.2.2⟩)
         clear h3)
      | (go_at_call 13; refine Hadd.out.mono ?_; rintro e w4 ⟨N4, DN4, bb, rfl, h4⟩
         have HB4 : Hid (Below w2.heap.size w2 w4) := HB3.out.grown h4.out.2 HB3.out.size (fun k e => by cases e; exact Hb3.out)
         clear h4)
      | go_in)
    try go_frame
    have HMl : Hid (M.length ≤ 60) := Nat.le_trans HMn.out HN.out
    go_loopw [11] (fun i wr => ∃ k : Nat, i = .int .i64 k ∧ k ≤ 2 ∧ Hid (Below w2.heap.size w2 wr)) (fun i _ => 2 - (intOf i).toNat)
    case atStart => exact ⟨0, rfl, by omega, HB4.out⟩
    case round =>
      obtain ⟨k, rfl, hk, HR⟩ := hrel
      by_cases hlt : k < 2
      · obtain rfl | rfl : k = 0 ∨ k = 1 := by omega
        all_goals (
          have Hr := Lib.hid (Hr2.out.below HR.out)
          go_wp2_with (first
            | (go_at_call 36; with_reducible refine (pairs_own r b L D (by have := HLl.out; omega) wr Hr.out).mono ?_; rintro e w5 ⟨np, a5, c5, ps, rfl, hnp, h5⟩
               have Hr5 := Lib.hid (Hr.out.below h5.out.2)
               have HB5 : Hid (Below w2.heap.size w2 w5) := HR.out.trans (h5.out.2.mono HR.out.size)
               have HP5 := Lib.hid h5.out.1
               clear h5)
            | (go_at_call 16; with_reducible refine (ahead_own r b L D (by have := HLl.out; omega) y w5 Hr5.out).mono ?_; rintro e w6 ⟨nx, a6, c6, xs, rfl, hnx, h6⟩
               have Hr6 := Lib.hid (Hr5.out.below h6.out.2)
               have HB6 : Hid (Below w2.heap.size w2 w6) := HB5.out.trans (h6.out.2.mono HB5.out.size)
               have HP6 := Lib.hid (ownsRow_below HP5.out h6.out.2)
               have HX6 := Lib.hid h6.out.1
               have HPX : Hid (∀ k, (Value.slice a5 np c5).ownBlock = some k → (Value.slice a6 nx c6).ownBlock ≠ some k) := rows_apart HP5.out h6.out.1 (Nat.le_refl _)
               have Hs56 : Hid (w5.heap.size ≤ w6.heap.size) := h6.out.2.size
               clear h6)
            | (go_at_call 18; with_reducible refine (behind_own r b L D (by have := HLl.out; omega) x w6 Hr6.out).mono ?_; rintro e w7 ⟨ny, a7, c7, ys, rfl, hny, h7⟩
               have HP7 := Lib.hid (ownsRow_below HP6.out h7.out.2)
               have HX7 := Lib.hid (ownsRow_below HX6.out h7.out.2)
               have H3 : Hid (Ow3 w2.heap.size w2 (.slice a5 np c5) (.slice a6 nx c6) (.slice a7 ny c7) np nx ny w7) := ⟨⟨_, row_base HP7.out HR.out.size⟩, ⟨_, row_base HX7.out HB5.out.size⟩, ⟨_, row_base h7.out.1 HB6.out.size⟩, HPX.out, rows_apart HP6.out h7.out.1 (Nat.le_refl _), rows_apart HX6.out h7.out.1 (Nat.le_refl _), HB6.out.trans (h7.out.2.mono HB6.out.size)⟩
               clear h7)
            | go_in)
          clear Hr5 HB5 HP5 Hr6 HB6 HP6 HX6 HPX Hs56 HP7 HX7 Hr
          try go_frame
          go_loopw [15] (fun i wr => ∃ j : Nat, i = .int .i64 j ∧ j ≤ np ∧ Hid (Ow3 w2.heap.size w2 (.slice a5 np c5) (.slice a6 nx c6) (.slice a7 ny c7) np nx ny wr)) (fun i _ => np - (intOf i).toNat)
          case atStart => exact ⟨0, rfl, Nat.zero_le _, H3.out⟩
          case round =>
            clear H3
            obtain ⟨j, rfl, hj, H3⟩ := hrel
            by_cases hjn : j < np
            · obtain ⟨ps, hp⟩ := H3.out.p
              obtain ⟨g, rfl⟩ := row_addr hp (by omega)
              obtain ⟨u0, z0, f0⟩ := own_cell hp (j := j * 2) (by omega)
              have H4 := Lib.hid (H3.out.setP (Nat.le_refl _) (j * 2) (.int .i64 (-9)))
              obtain ⟨ps4, hp4⟩ := H4.out.p
              obtain ⟨v0, z1, f1⟩ := own_cell hp4 (j := j * 2 + 1) (by omega)
              have H5 := Lib.hid (H4.out.setP (Nat.le_refl _) (j * 2 + 1) (.int .i64 (-9)))
              clear hp hp4
              go_wp2
              go_roundw
              case rel => exact ⟨j + 1, by go_num, by omega, H5.out⟩
              case measure => simp [intOf]; omega
            · have hjn' : np = j := by omega
              subst hjn'
              clear hj hjn
              go_wp2
              go_loopw [16] (fun i wr => ∃ j : Nat, i = .int .i64 j ∧ j ≤ nx ∧ Hid (Ow3 w2.heap.size w2 (.slice a5 np c5) (.slice a6 nx c6) (.slice a7 ny c7) np nx ny wr)) (fun i _ => nx - (intOf i).toNat)
              case atStart => exact ⟨0, rfl, Nat.zero_le _, H3.out⟩
              case round =>
                clear H3
                obtain ⟨j, rfl, hj, H3⟩ := hrel
                by_cases hjn : j < nx
                · obtain ⟨ps, hp⟩ := H3.out.x
                  obtain ⟨g, rfl⟩ := row_addr hp (by omega)
                  obtain ⟨u0, z0, f0⟩ := own_cell hp (j := j) (by omega)
                  have H4 := Lib.hid (H3.out.setX (Nat.le_refl _) j (.int .i64 (-9)))
                  clear hp
                  go_wp2
                  go_roundw
                  case rel => exact ⟨j + 1, by go_num, by omega, H4.out⟩
                  case measure => simp [intOf]; omega
                · have hjn' : nx = j := by omega
                  subst hjn'
                  clear hj hjn
                  go_wp2
                  go_loopw [17] (fun i wr => ∃ j : Nat, i = .int .i64 j ∧ j ≤ ny ∧ Hid (Ow3 w2.heap.size w2 (.slice a5 np c5) (.slice a6 nx c6) (.slice a7 ny c7) np nx ny wr)) (fun i _ => ny - (intOf i).toNat)
                  case atStart => exact ⟨0, rfl, Nat.zero_le _, H3.out⟩
                  case round =>
                    clear H3
                    obtain ⟨j, rfl, hj, H3⟩ := hrel
                    by_cases hjn : j < ny
                    · obtain ⟨ps, hp⟩ := H3.out.y
                      obtain ⟨g, rfl⟩ := row_addr hp (by omega)
                      obtain ⟨u0, z0, f0⟩ := own_cell hp (j := j) (by omega)
                      have H4 := Lib.hid (H3.out.setY (Nat.le_refl _) j (.int .i64 (-9)))
                      clear hp
                      go_wp2
                      go_roundw
                      case rel => exact ⟨j + 1, by go_num, by omega, H4.out⟩
                      case measure => simp [intOf]; omega
                    · have hjn' : ny = j := by omega
                      subst hjn'
                      clear hj hjn
                      obtain ⟨ps, hp⟩ := H3.out.p
                      obtain ⟨xs, hx⟩ := H3.out.x
                      obtain ⟨ys, hy⟩ := H3.out.y
                      have HP := Lib.hid hp
                      have HX := Lib.hid hx
                      have HY := Lib.hid hy
                      have HA : Hid (w2.heap.size ≤ (wr.alloc (.cells #[.int .i64 1, .int .i64 1] 57)).heap.size) := by
                        show _ ≤ (World.alloc _ _).heap.size
                        simp
                        have := H3.out.below.size
                        omega
                      clear hp hx hy
                      go_wp2_with (first
                        | (at_builtin; refine wpList_append_own _ rfl _ _ 55 rfl w2.heap.size 57 i7 (.agg #[.int .i64 0, .int .i64 0]) 2 16 Try.underlying55 hi7 hx0 hx1 hx2 rfl (by decide) (.slice a5 np c5) np ps rfl (HP.out.alloc _) ⟨wr.heap.size, 0, none⟩ 1 1 [.int .i64 1, .int .i64 1] rfl rfl (news_new wr #[.int .i64 1, .int .i64 1] 57) (flat_one [(1, 1)]) (by unfold maxLen; omega) (by omega) HA.out ?_)
                        | go_in)
                      intro v8 w8 hown8 hgrow8 hnil8
                      have HB8 : Hid (Below w2.heap.size w2 w8) := (H3.out.below.alloc H3.out.below.size _).grown hgrow8 HA.out (fun k hk => (HP.out.lt k hk).1)
                      have HX8 := Lib.hid (row_keep (HX.out.alloc (.cells #[.int .i64 1, .int .i64 1] 57)) hgrow8 (fun k e => H3.out.px k e))
                      have HY8 := Lib.hid (row_keep (HY.out.alloc (.cells #[.int .i64 1, .int .i64 1] 57)) hgrow8 (fun k e => H3.out.py k e))
                      obtain ⟨a8, c8, m8, rfl, e8⟩ : ∃ a8 c8 m8, v8 = .slice a8 m8 c8 ∧ ((m8 : Int) == 0) = false := by
                        rcases hown8.2 with ⟨e, h0⟩ | ⟨g, cap, cur, e, _⟩
                        · omega
                        · exact ⟨_, _, _, e, by simp; omega⟩
                      have HA8 : Hid (w2.heap.size ≤ (w8.alloc (.cells #[.int .i64 1] 3)).heap.size) := by
                        show _ ≤ (World.alloc _ _).heap.size
                        simp
                        have := HB8.out.size
                        omega
                      clear hown8 hgrow8 hnil8
                      go_wp2_with (first
                        | (at_builtin; refine wpList_append_own _ rfl _ _ 33 rfl w2.heap.size 3 i3 (.int .i64 0) 1 8 Try.underlying33 hi3 hz0 hz1 hz2 rfl (by decide) (.slice a6 nx c6) nx xs rfl (HX8.out.alloc _) ⟨w8.heap.size, 0, none⟩ 1 1 [.int .i64 1] rfl rfl (news_new w8 #[.int .i64 1] 3) (intsC_one [1]) (by unfold maxLen; omega) (by omega) HA8.out ?_)
                        | go_in)
                      intro v9 w9 hown9 hgrow9 hnil9
                      have HB9 : Hid (Below w2.heap.size w2 w9) := (HB8.out.alloc HB8.out.size _).grown hgrow9 HA8.out (fun k hk => (HX8.out.lt k hk).1)
                      have HY9 := Lib.hid (row_keep (HY8.out.alloc (.cells #[.int .i64 1] 3)) hgrow9 (fun k e => H3.out.xy k e))
                      obtain ⟨a9, c9, m9, rfl, e9⟩ : ∃ a9 c9 m9, v9 = .slice a9 m9 c9 ∧ ((m9 : Int) == 0) = false := by
                        rcases hown9.2 with ⟨e, h0⟩ | ⟨g, cap, cur, e, _⟩
                        · omega
                        · exact ⟨_, _, _, e, by simp; omega⟩
                      have HA9 : Hid (w2.heap.size ≤ (w9.alloc (.cells #[.int .i64 1] 3)).heap.size) := by
                        show _ ≤ (World.alloc _ _).heap.size
                        simp
                        have := HB9.out.size
                        omega
                      clear hown9 hgrow9 hnil9
                      go_wp2_with (first
                        | (at_builtin; refine wpList_append_own _ rfl _ _ 33 rfl w2.heap.size 3 i3 (.int .i64 0) 1 8 Try.underlying33 hi3 hz0 hz1 hz2 rfl (by decide) (.slice a7 ny c7) ny ys rfl (HY9.out.alloc _) ⟨w9.heap.size, 0, none⟩ 1 1 [.int .i64 1] rfl rfl (news_new w9 #[.int .i64 1] 3) (intsC_one [1]) (by unfold maxLen; omega) (by omega) HA9.out ?_)
                        | go_in)
                      intro v10 w10 hown10 hgrow10 hnil10
                      have HB10 : Hid (Below w2.heap.size w2 w10) := (HB9.out.alloc HB9.out.size _).grown hgrow10 HA9.out (fun k hk => (HY9.out.lt k hk).1)
                      obtain ⟨a10, c10, m10, rfl, e10⟩ : ∃ a10 c10 m10, v10 = .slice a10 m10 c10 ∧ ((m10 : Int) == 0) = false := by
                        rcases hown10.2 with ⟨e, h0⟩ | ⟨g, cap, cur, e, _⟩
                        · omega
                        · exact ⟨_, _, _, e, by simp; omega⟩
                      clear hown10 hgrow10 hnil10
                      go_wp2
                      go_roundw
                      case rel => first | exact ⟨1, by go_num, by omega, HB10.out⟩ | exact ⟨2, by go_num, by omega, HB10.out⟩
                      case measure => simp [intOf])
      · have hk2 : k = 2 := by omega
        subst hk2
        have Hr := Lib.hid (Hr2.out.below HR.out)
        have Hs := Lib.hid (Hs2.out.below HR.out)
        have Hb : Hid (Below w.heap.size w wr) := Hb2.out.trans (HR.out.mono Hb2.out.size)
        clear hlt hk
        go_wp2_with (first
          | (go_at_call 16; with_reducible refine (ahead_doc r b L D (by have := HLl.out; omega) M HLM.out y wr Hr.out).mono ?_; rintro e w6 ⟨a6, c6, rfl, h6⟩
             have Hr6 := Lib.hid (Hr.out.below h6.out.2.2)
             have Hs6 := Lib.hid (Hs.out.below h6.out.2.2)
             have Hb6 : Hid (Below w.heap.size w w6) := Hb.out.trans (h6.out.2.2.mono Hb.out.size)
             have HX6 := Lib.hid h6.out.1
             clear h6)
          | (go_at_call 17; with_reducible refine (ahead9_any a2 c2 M y (by have := HMl.out; omega) w6 Hs6.out).mono ?_; rintro e w7 ⟨a7, c7, rfl, h7⟩
             have Hr7 := Lib.hid (Hr6.out.below h7.out.2)
             have Hs7 := Lib.hid (Hs6.out.below h7.out.2)
             have Hb7 : Hid (Below w.heap.size w w7) := Hb6.out.trans (h7.out.2.mono Hb6.out.size)
             have HX7 := Lib.hid (HX6.out.below (grown_below h7.out.2))
             have HY7 := Lib.hid h7.out.1
             clear h7)
          | (go_at_call 15; with_reducible refine (same_ints a6 a7 c6 c7 (aheadI M y) (by have := HMl.out; have := aheadI_len M y; omega) w7 HX7.out HY7.out).mono ?_; rintro e w8 ⟨rfl, h8⟩
             have Hr8 := Lib.hid (Hr7.out.below h8.out)
             have Hs8 := Lib.hid (Hs7.out.below h8.out)
             have Hb8 : Hid (Below w.heap.size w w8) := Hb7.out.trans (h8.out.mono Hb7.out.size)
             clear h8 HX7 HY7)
          | (go_at_call 18; with_reducible refine (behind_doc r b L D (by have := HLl.out; omega) M HLM.out x w8 Hr8.out).mono ?_; rintro e w9 ⟨a9, c9, rfl, h9⟩
             have Hr9 := Lib.hid (Hr8.out.below h9.out.2.2)
             have Hs9 := Lib.hid (Hs8.out.below h9.out.2.2)
             have Hb9 : Hid (Below w.heap.size w w9) := Hb8.out.trans (h9.out.2.2.mono Hb8.out.size)
             have HX9 := Lib.hid h9.out.1
             clear h9)
          | (go_at_call 19; with_reducible refine (behind9_any a2 c2 M x (by have := HMl.out; omega) w9 Hs9.out).mono ?_; rintro e w10 ⟨a10, c10, rfl, h10⟩
             have Hr10 := Lib.hid (Hr9.out.below h10.out.2)
             have Hs10 := Lib.hid (Hs9.out.below h10.out.2)
             have Hb10 : Hid (Below w.heap.size w w10) := Hb9.out.trans (h10.out.2.mono Hb9.out.size)
             have HX10 := Lib.hid (HX9.out.below (grown_below h10.out.2))
             have HY10 := Lib.hid h10.out.1
             clear h10)
          | (go_at_call 15; with_reducible refine (same_ints a9 a10 c9 c10 (behindI M x) (by have := HMl.out; have := behindI_len M x; omega) w10 HX10.out HY10.out).mono ?_; rintro e w11 ⟨rfl, h11⟩
             have Hr11 := Lib.hid (Hr10.out.below h11.out)
             have Hs11 := Lib.hid (Hs10.out.below h11.out)
             have Hb11 : Hid (Below w.heap.size w w11) := Hb10.out.trans (h11.out.mono Hb10.out.size)
             clear h11 HX10 HY10)
          | (go_at_call 20; with_reducible refine (is_any r b L D (by have := HLl.out; omega) a2 c2 M HMr.out HLM.out w11 Hr11.out Hs11.out).mono ?_; rintro e w12 ⟨rfl, h12⟩
             have Hr12 := Lib.hid (Hr11.out.below h12.out)
             have Hs12 := Lib.hid (Hs11.out.below h12.out)
             have Hb12 : Hid (Below w.heap.size w w12) := Hb11.out.trans (h12.out.mono Hb11.out.size)
             clear h12)
          | go_in)
        go_ret
        exact ⟨rfl, Hb12.out⟩
  · have hN : decide ((60 : Int) < (n : Int)) = true := by simp; omega
    clear h60
    go_enter Try.func8, Try.ntmps8
    go_wp2_with (first
      | (go_at_call 9; refine hfst.out.mono ?_; rintro e w1 ⟨rfl, h1⟩)
      | go_in)
    go_ret
    exact ⟨rfl, h1.out⟩
end Go.Proofs.Ytadlgkakjaecdaa
