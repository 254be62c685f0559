/- The walk of the statement on pairs laid in one by one. -/
import Derived.Test.YtadlgkakjaecdaaAd
namespace Go.Proofs.Ytadlgkakjaecdaa
open Go.RowKit Go.Maps Go.WideMaps Go.WideElems Go.ChangeShapes Go.WideShapes

set_option maxHeartbeats 8000000 in
set_option maxRecDepth 100000 in
theorem relPlays_any (a : Option Addr) (c : Nat) (l : List Pr) (hl : ∀ p ∈ l, FitP p) (x y : Int) (hxy : FitP (x, y)) (w : World) (h : SlP w a l) :
    Calls Try.prog 3 #[.slice a l.length c, .int .i64 x, .int .i64 y] w fun e w' => e = .returned (.bool true) ∧ Hid (Below w.heap.size w w') := by
  have H := Lib.hid h
  have Hf := Lib.hid hl
  have Hxy := Lib.hid hxy
  obtain ⟨n, hn⟩ : ∃ n, l.length = n := ⟨_, rfl⟩
  rw [hn]
  have Hn := Lib.hid hn
  clear h hl hn hxy
  have hfst : Hid (Calls Try.prog 9 #[] w fun e w' => e = .returned (.bool true) ∧ Hid (Below w.heap.size w w')) := first_any w
  by_cases h60 : n ≤ 60
  · have hN : decide ((60 : Int) < (n : Int)) = false := by simp; omega
    have HN := Lib.hid h60
    go_enter Try.func3, Try.ntmps3
    go_wp2_with (first
      | (go_at_call 9; refine hfst.out.mono ?_; rintro e w1 ⟨rfl, h1⟩)
      | (go_at_call 10; refine (new_any _).mono ?_; rintro e w2 ⟨r, b, rfl, h2⟩
         have Hb2 : Hid (Below w.heap.size w w2) := h1.out.trans (h2.out.2.1.mono h1.out.size)
         have Hr2 := Lib.hid h2.out.1
         have Hrb : Hid (w.heap.size ≤ r ∧ w.heap.size ≤ b) := ⟨Nat.le_trans h1.out.size h2.out.2.2.1, Nat.le_trans h1.out.size h2.out.2.2.2⟩
         clear h2 h1)
      | go_in)
    try go_frame
    go_loopw [9, 10] (fun v i wr => ∃ (k : Nat) (L : List Pr) (D : DU) (a5 : Option Addr) (c5 : Nat) (M : List Pr), i = .int .i64 k ∧ v = .slice a5 M.length c5 ∧ k ≤ n ∧ Hid (Ma1 w r b L D (l.take k) a5 M wr)) (fun _ i _ => n - (intOf i).toNat)
    case atStart => exact ⟨0, _, _, none, 0, [], rfl, rfl, Nat.zero_le _, Hr2.out, by simp, .inl rfl, rfl, Hb2.out⟩
    case round =>
      obtain ⟨k, L, D, a5, c5, M, rfl, rfl, hk, HR⟩ := hrel
      by_cases hlt : k < n
      · have hkl : k < l.length := by rw [Hn.out]; exact hlt
        have hslw := H.out.below HR.out.below
        obtain ⟨b', off', rfl, hc0, hc1⟩ := hslw.at hkl
        have hmem : l.getD k (0, 0) ∈ l := by
          rw [List.getD_eq_getElem?_getD, List.getElem?_eq_getElem hkl]
          exact List.getElem_mem hkl
        have htk : l.take (k + 1) = l.take k ++ [l.getD k (0, 0)] := by
          rw [List.take_add_one, List.getElem?_eq_getElem hkl, List.getD_eq_getElem?_getD, List.getElem?_eq_getElem hkl]
          rfl
        obtain ⟨q, hq⟩ : ∃ q, l.getD k (0, 0) = q := ⟨_, rfl⟩
        obtain ⟨q1, q2⟩ := q
        rw [hq] at hc0 hc1 hmem htk
        simp only at hc0 hc1
        have Htk := Lib.hid htk
        have Hq := Lib.hid hq
        have hLl : L.length ≤ 60 := by
          have h2 := nodup_len HR.out.rel.prs.once (fun p hp => (HR.out.mem p).1 hp)
          rw [List.length_take] at h2
          have := HN.out
          omega
        have hMl : M.length ≤ 60 := by
          have h2 := putAll_len (l.take k)
          rw [← HR.out.list, List.length_take] at h2
          have := HN.out
          omega
        have HMl := Lib.hid hMl
        have hf := Hf.out _ hmem
        have HC : Hid (∀ W, Below w.heap.size w W → W.cell? ⟨b', off' + k * 2, none⟩ = some (.int .i64 q1) ∧ W.cell? ⟨b', off' + k * 2 + 1, none⟩ = some (.int .i64 q2)) := fun W hW => by
          obtain ⟨b1, off1, e, d0, d1⟩ := (H.out.below hW).at (k := k) (by rw [Hn.out]; exact hlt)
          cases e
          rw [Hq.out] at d0 d1
          exact ⟨d0, d1⟩
        have hML : (q1, q2) ∈ M ↔ (q1, q2) ∈ L := by rw [HR.out.list, mem_putAll, HR.out.mem]
        obtain ⟨bb, hbb⟩ : ∃ bb, decide ((q1, q2) ∈ L) = bb := ⟨_, rfl⟩
        have hbM : decide ((q1, q2) ∈ M) = bb := by rw [← hbb]; exact decide_eq_decide.2 hML
        have Hhas9 := Lib.hid (has9_any a5 c5 M q1 q2 (by omega) wr.drew HR.out.sl)
        rw [hbM] at Hhas9
        have Hhas := Lib.hid (has_any r b L D (q1, q2) hf wr.drew.drew HR.out.rel.drew.drew)
        rw [hbb] at Hhas
        have Hadd : Hid (∀ W, RelAt r b L D W → Calls Try.prog 13 #[.pointer (some ⟨r, 0, none⟩), .int .i64 q1, .int .i64 q2] W fun e w' => ∃ L' D', e = .returned (.bool (!bb)) ∧ Hid (RelAt r b L' D' w' ∧ (∀ q, q ∈ L' ↔ q ∈ L ∨ q = (q1, q2)) ∧ W.grownBy w' (some b))) := fun W hW => by
          have h1 := add_any r b L D (q1, q2) hf (by omega) W hW
          rw [hbb] at h1
          exact h1
        clear hmem htk hkl hq hslw hLl hf hML hbb hbM hMl
        cases bb
        all_goals (
          simp only [Bool.not_true, Bool.not_false] at Hadd
          go_wp2
          go_region_held3 (fun w' => w'.cell? ⟨b', off' + k * 2, none⟩ = some (.int .i64 q1) ∧ w'.cell? ⟨b', off' + k * 2 + 1, none⟩ = some (.int .i64 q2)) (go_keep)
            (first
              | (go_at_call 11; refine Hhas9.out.mono ?_; rintro e w6 ⟨rfl, rfl⟩))
          try clear hHeld
          go_wp2
          go_region_held3 (fun w' => w'.cell? ⟨b', off' + k * 2, none⟩ = some (.int .i64 q1) ∧ w'.cell? ⟨b', off' + k * 2 + 1, none⟩ = some (.int .i64 q2)) (go_keep)
            (first
              | (go_at_call 12; refine Hhas.out.mono ?_; rintro e w7 ⟨rfl, h7⟩
                 have Hb7 : Hid (Below w.heap.size w w7) := HR.out.below.drew.drew.trans (h7.out.mono HR.out.below.size)
                 have Hr7 := Lib.hid (HR.out.rel.drew.drew.below h7.out)
                 have Hsl7 : Hid (SlP w7 a5 M) := SlP.below (W := wr.drew.drew) HR.out.sl h7.out
                 obtain ⟨p0, p1⟩ := HC.out w7 Hb7.out)
              | (go_at_call 13; refine (Hadd.out w7 Hr7.out).mono ?_; rintro e w8 ⟨L6, D6, rfl, h8⟩
                 have Hb8 : Hid (Below w.heap.size w w8) := Hb7.out.grown h8.out.2.2 Hb7.out.size (fun k e => by cases e; exact Hrb.out.2)
                 obtain ⟨s0, s1⟩ := HC.out w8 Hb8.out))
          try clear hHeld
          have Hsl8 : Hid (SlP w8 a5 M) := Hsl7.out.grown h8.out.2.2 (fun k e => by cases e; exact rel_obj Hr7.out)
          have Hput := Lib.hid (put9_any a5 c5 M q1 q2 (by have := HMl.out; omega) w8.drew Hsl8.out)
          clear hc0 hc1 p0 p1
          go_wp2
          go_region_held3 (fun w' => w'.cell? ⟨b', off' + k * 2, none⟩ = some (.int .i64 q1) ∧ w'.cell? ⟨b', off' + k * 2 + 1, none⟩ = some (.int .i64 q2)) (go_keep)
            (first
              | (go_at_call 14; refine Hput.out.mono ?_; rintro e w9 ⟨a7, c7, rfl, h9⟩
                 have Hb9 : Hid (Below w.heap.size w w9) := Hb8.out.drew.trans (h9.out.2.mono Hb8.out.size)
                 obtain ⟨r0, r1⟩ := HC.out w9 Hb9.out))
          have HM7 : Hid (Ma1 w r b L6 D6 (l.take (k + 1)) a7 (putP M (q1, q2)) w9) := by
            refine ⟨h8.out.1.drew.below h9.out.2, fun q => ?_, h9.out.1, ?_, Hb9.out⟩
            · rw [h8.out.2.1 q, HR.out.mem q, Htk.out, List.mem_append, List.mem_singleton]
            · rw [HR.out.list, Htk.out, putAll_snoc]
          try clear hHeld
          clear s0 s1 r0 r1
          go_wp2
          go_roundw
          case rel => exact ⟨k + 1, _, _, _, _, _, by go_num, rfl, by omega, HM7.out⟩
          case measure => simp [intOf]; omega)
      · have hkn : k = n := by omega
        subst hkn
        have HM : Hid (M = putAll l) := by
          have h2 := HR.out.list
          rw [← Hn.out, List.take_length] at h2
          exact h2
        have Hmem : Hid (∀ q, q ∈ L ↔ q ∈ l) := by
          have h2 := HR.out.mem
          rw [← Hn.out, List.take_length] at h2
          exact h2
        have HLM : Hid (∀ q, q ∈ L ↔ q ∈ M) := fun q => by rw [HM.out, mem_putAll, Hmem.out]
        have HLl : Hid (L.length ≤ 60) := by
          have h2 := nodup_len HR.out.rel.prs.once (fun p hp => (Hmem.out p).1 hp)
          rw [Hn.out] at h2
          have := HN.out
          show _ ≤ _
          omega
        have HMl : Hid (M.length ≤ 60) := by
          have h2 := putAll_len l
          rw [← HM.out, Hn.out] at h2
          have := HN.out
          show _ ≤ _
          omega
        have HMr : Hid (RiseP M) := by show RiseP M; rw [HM.out]; exact rise_putAll l
        obtain ⟨bb, hbb⟩ : ∃ bb, decide ((x, y) ∈ L) = bb := ⟨_, rfl⟩
        have hbM : decide ((x, y) ∈ M) = bb := by rw [← hbb]; exact decide_eq_decide.2 (HLM.out _).symm
        have Hhas : Hid (∀ W, RelAt r b L D W → Calls Try.prog 12 #[.pointer (some ⟨r, 0, none⟩), .int .i64 x, .int .i64 y] W fun e w' => e = .returned (.bool bb) ∧ Hid (Below W.heap.size W w')) := fun W hW => by
          have h1 := has_any r b L D (x, y) Hxy.out W hW
          rw [hbb] at h1
          exact h1
        have Hhas9 : Hid (∀ W, SlP W a5 M → Calls Try.prog 11 #[.slice a5 M.length c5, .int .i64 x, .int .i64 y] W fun e w' => e = .returned (.bool bb) ∧ W = w') := fun W hW => by
          have h1 := has9_any a5 c5 M x y (by have := HMl.out; omega) W hW
          rw [hbM] at h1
          exact h1
        have Hr := Lib.hid HR.out.rel
        have Hs := Lib.hid HR.out.sl
        have Hb := Lib.hid HR.out.below
        clear hlt hk hbb hbM HR
        go_wp2_with (first
          | (go_at_call 16; with_reducible refine (ahead_doc r b L D (by have := HLl.out; omega) M HLM.out y wr Hr.out).mono ?_; rintro e w6 ⟨a6, c6, rfl, h6⟩
             have Hr6 := Lib.hid (Hr.out.below h6.out.2.2)
             have Hs6 := Lib.hid (Hs.out.below h6.out.2.2)
             have Hb6 : Hid (Below w.heap.size w w6) := Hb.out.trans (h6.out.2.2.mono Hb.out.size)
             have HX6 := Lib.hid h6.out.1
             clear h6)
          | (go_at_call 17; with_reducible refine (ahead9_any a5 c5 M y (by have := HMl.out; omega) w6 Hs6.out).mono ?_; rintro e w7 ⟨a7, c7, rfl, h7⟩
             have Hr7 := Lib.hid (Hr6.out.below h7.out.2)
             have Hs7 := Lib.hid (Hs6.out.below h7.out.2)
             have Hb7 : Hid (Below w.heap.size w w7) := Hb6.out.trans (h7.out.2.mono Hb6.out.size)
             have HX7 := Lib.hid (HX6.out.below (grown_below h7.out.2))
             have HY7 := Lib.hid h7.out.1
             clear h7)
          | (go_at_call 15; with_reducible refine (same_ints a6 a7 c6 c7 (aheadI M y) (by have := HMl.out; have := aheadI_len M y; omega) w7 HX7.out HY7.out).mono ?_; rintro e w8 ⟨rfl, h8⟩
             have Hr8 := Lib.hid (Hr7.out.below h8.out)
             have Hs8 := Lib.hid (Hs7.out.below h8.out)
             have Hb8 : Hid (Below w.heap.size w w8) := Hb7.out.trans (h8.out.mono Hb7.out.size)
             clear h8 HX7 HY7)
          | (go_at_call 18; with_reducible refine (behind_doc r b L D (by have := HLl.out; omega) M HLM.out x w8 Hr8.out).mono ?_; rintro e w9 ⟨a9, c9, rfl, h9⟩
             have Hr9 := Lib.hid (Hr8.out.below h9.out.2.2)
             have Hs9 := Lib.hid (Hs8.out.below h9.out.2.2)
             have Hb9 : Hid (Below w.heap.size w w9) := Hb8.out.trans (h9.out.2.2.mono Hb8.out.size)
             have HX9 := Lib.hid h9.out.1
             clear h9)
          | (go_at_call 19; with_reducible refine (behind9_any a5 c5 M x (by have := HMl.out; omega) w9 Hs9.out).mono ?_; rintro e w10 ⟨a10, c10, rfl, h10⟩
             have Hr10 := Lib.hid (Hr9.out.below h10.out.2)
             have Hs10 := Lib.hid (Hs9.out.below h10.out.2)
             have Hb10 : Hid (Below w.heap.size w w10) := Hb9.out.trans (h10.out.2.mono Hb9.out.size)
             have HX10 := Lib.hid (HX9.out.below (grown_below h10.out.2))
             have HY10 := Lib.hid h10.out.1
             clear h10)
          | (go_at_call 15; with_reducible refine (same_ints a9 a10 c9 c10 (behindI M x) (by have := HMl.out; have := behindI_len M x; omega) w10 HX10.out HY10.out).mono ?_; rintro e w11 ⟨rfl, h11⟩
             have Hr11 := Lib.hid (Hr10.out.below h11.out)
             have Hs11 := Lib.hid (Hs10.out.below h11.out)
             have Hb11 : Hid (Below w.heap.size w w11) := Hb10.out.trans (h11.out.mono Hb10.out.size)
             clear h11 HX10 HY10)
          | (go_at_call 20; with_reducible refine (is_any r b L D (by have := HLl.out; omega) a5 c5 M HMr.out HLM.out w11 Hr11.out Hs11.out).mono ?_; rintro e w12 ⟨rfl, h12⟩
             have Hr12 := Lib.hid (Hr11.out.below h12.out)
             have Hs12 := Lib.hid (Hs11.out.below h12.out)
             have Hb12 : Hid (Below w.heap.size w w12) := Hb11.out.trans (h12.out.mono Hb11.out.size)
             clear h12)
          | (go_at_call 12; with_reducible refine (Hhas.out w12 Hr12.out).mono ?_; rintro e w13 ⟨rfl, h13⟩
             have Hs13 := Lib.hid (Hs12.out.below h13.out)
             have Hb13 : Hid (Below w.heap.size w w13) := Hb12.out.trans (h13.out.mono Hb12.out.size)
             clear h13)
          | (go_at_call 11; with_reducible refine (Hhas9.out w13 Hs13.out).mono ?_; rintro e w14 ⟨rfl, rfl⟩)
          | go_in)
        go_ret
        exact ⟨by first | rfl | (cases bb <;> rfl), Hb13.out⟩
  · have hN : decide ((60 : Int) < (n : Int)) = true := by simp; omega
    clear h60
    go_enter Try.func3, Try.ntmps3
    go_wp2_with (first
      | (go_at_call 9; refine hfst.out.mono ?_; rintro e w1 ⟨rfl, h1⟩)
      | go_in)
    go_ret
    exact ⟨rfl, h1.out⟩
end Go.Proofs.Ytadlgkakjaecdaa
