/- The walk of the statement on any line and any words. -/
import Derived.Test.YtaddpekjmboimaaDoorWt
import Derived.Test.YtaddpekjmboimaaDoorOw
namespace Go.Proofs.YtaddpekjmboimaaDoor
open Go.RowKit Go.Maps Go.WideMaps Go.WideElems Go.ChangeShapes Go.WideShapes

variable {T : TypeId} {e0 e1 e2 : Addr}

theorem cells_new (w : World) (c : Array Value) (t : TypeId) : ∀ j u, c.toList[j]? = some u → (w.alloc (.cells c t)).cell? ((⟨w.heap.size, 0, none⟩ : Addr).add j) = some u := by
  intro j u hj
  have hb := heap_alloc_new w (.cells c t)
  have ea : ((⟨w.heap.size, 0, none⟩ : Addr).add j) = ⟨w.heap.size, j, none⟩ := by simp [Addr.add]; omega
  rw [ea]
  simp only [World.cell?, hb]
  simpa using hj

theorem join_le (ls : List (List UInt8)) : (Lib.join ls [32]).length ≤ ls.length + Lib.lens ls := by
  cases ls with
  | nil => simp [Lib.join_nil]
  | cons x r => rw [Lib.join_length]; simp [Lib.lens]

/-- The texts of a row that is not empty, with its room. -/
theorem row_some {w : World} {B n : Nat} {v : Value} {l : List (List UInt8)} (h : w.ownsRow B 9 1 v n (tc l)) (hn : l.length = n) (hl : 0 < n) : ∃ g c, v = .slice (some ⟨g, 0, none⟩) n c ∧ n ≤ c ∧ TAt w (some ⟨g, 0, none⟩) l := by
  subst hn
  obtain ⟨a, c, e, ht⟩ := tat_row h
  rcases h.2 with ⟨_, h0⟩ | ⟨g, cap, cur, e2, hb, hg, hn, _⟩
  · omega
  · rw [e2] at e
    cases e
    exact ⟨g, c, e2, hn, ht⟩
theorem tat_tail {w : World} {g : Nat} {l : List (List UInt8)} {x y : List UInt8} (h : TAt w (some ⟨g, 0, none⟩) (l ++ [x, y])) : TAt w (some ⟨g, 0, none⟩) l ∧ w.cell? ⟨g, l.length, none⟩ = some (tv x) ∧ w.cell? ⟨g, l.length + 1, none⟩ = some (tv y) := by
  have h1 := tat_cell h (k := l.length) (by simp)
  have h2 := tat_cell h (k := l.length + 1) (by simp)
  rw [Nat.zero_add] at h1 h2
  refine ⟨?_, by simpa using h1, by simpa using h2⟩
  rcases h with e | ⟨b, off, e, h⟩
  · simp at e
  · refine .inr ⟨b, off, e, fun i hi => ?_⟩
    rw [h i (by simp; omega), List.getElem?_append_left hi]
set_option maxRecDepth 100000 in
set_option maxHeartbeats 4000000 in
theorem words_law (s : ByteArray) (hs : s.size ≤ 1048576) (a : Option Addr) (c : Nat) (ls : List (List UInt8)) (w : World) (hG : Glob T e0 e1 e2 w) (h : TAt w a ls) (_hcap : ls.length ≤ c) (hl : ls.length + Lib.lens ls ≤ 1000000000) :
    Calls Tryd.prog 3 #[.string s, .slice a ls.length c] w fun e w' => e = .returned (.bool true) ∧ Hid (Below w.heap.size w w') := by
  have Hf := Lib.hid (first_any w hG)
  have H := Lib.hid h
  clear hG h
  have Hle := Lib.hid (fun k (hk : k < ls.length) => (show (ls[k]?.getD []).length ≤ 1000000000 by
    have h1 := Lib.lens_take_succ ls k (ls[k]?.getD []) (by rw [List.getElem?_eq_getElem hk]; rfl)
    have h2 := Lib.lens_take_le ls (k + 1)
    omega))
  have hll : ls.length ≤ 1000000000 := by omega
  have Hl := Lib.hid hl
  have Hcopy := Lib.hid (fun w1 (hb : Below w.heap.size w w1) => show Calls Tryd.prog 10 #[.slice a ls.length c] w1 (fun e w' => ∃ v, e = .returned v ∧ Hid (w'.ownsRow w.heap.size 9 1 v ls.length (tc ls) ∧ Below w.heap.size w w')) from (texts_any a c ls w1 (H.out.below' hb) (by omega)).mono fun e w' ⟨v, he, h2⟩ => ⟨v, he, row_base h2.out.1 hb.size, hb.trans (h2.out.2.mono hb.size)⟩)
  have Hwords := Lib.hid (fun w1 (hb : Below w.heap.size w w1) => show Calls Tryd.prog 12 #[.string s] w1 (fun e w' => ∃ A : Nat, e = .returned (.slice (some ⟨A, 0, none⟩) (wordsL s.data.toList).length (wordsL s.data.toList).length) ∧ Hid (TAt w' (some ⟨A, 0, none⟩) (wordsL s.data.toList) ∧ Below w.heap.size w w' ∧ Below w1.heap.size w1 w')) from by
    have h := words_any s.data.toList (by simpa using (by omega : s.size ≤ 4294967296)) w1
    simp only [tv, arr_of] at h
    refine h.mono fun e w' ⟨A, he, h2⟩ => ?_
    obtain ⟨a, c, ha, ht⟩ := tat_row h2.out.1
    cases ha
    exact ⟨A, he, ht, hb.trans (h2.out.2.mono hb.size), h2.out.2⟩)
  have Hrefw := Lib.hid (fun (hsm : s.size ≤ 1000000) w1 (hb : Below w.heap.size w w1) => show Calls Tryd.prog 13 #[.string s] w1 (fun e w' => ∃ a c, e = .returned (.slice a (wordsL s.data.toList).length c) ∧ Hid (TAt w' a (wordsL s.data.toList) ∧ Below w.heap.size w w' ∧ Below w1.heap.size w1 w')) from by
    refine (refWords_any s hsm w1).mono fun e w' ⟨v, he, h2⟩ => ?_
    obtain ⟨a, c, ha, ht⟩ := tat_row h2.out.1
    exact ⟨a, c, by rw [he, ha], ht, hb.trans (h2.out.2.mono hb.size), h2.out.2⟩)
  have hwl : (wordsL s.data.toList).length ≤ 1048577 := by have := wordsL_len s.data.toList []; simp at this; unfold wordsL; omega
  have hsame : ∀ (L : List (List UInt8)), L.length ≤ 9223372036854775807 → ∀ w1 a a' c c', TAt w1 a L → TAt w1 a' L → Calls Tryd.prog 11 #[.slice a L.length c, .slice a' L.length c'] w1 fun e w' => e = .returned (.bool true) ∧ Hid (Below w1.heap.size w1 w') := fun L hL w1 a a' c c' g1 g2 => by
    have h := sameTexts_any a a' c c' _ _ w1 g1 g2 hL hL
    rw [decide_eq_true rfl] at h
    exact h.mono fun e w' ⟨he, q, hq⟩ => ⟨he, by show Below _ _ _; rw [← hq]; exact below_drewN (Below.refl _ _) q⟩
  have HsW := Lib.hid (hsame (wordsL s.data.toList) (by omega))
  have HsL := Lib.hid (hsame ls (by omega))
  have hJ : (Lib.join ls [32]).length ≤ 140737488355328 := by have := join_le ls; omega
  have Hjoin := Lib.hid (fun w1 a c (ht : TAt w1 a ls) (hc : ls.length ≤ c) => join_any a c ls w1 ht hc (by omega) hJ)
  have Hrefj := Lib.hid (fun w1 (hb : Below w.heap.size w w1) => refJoin_any a c ls w1 (H.out.below' hb) (by omega) hJ)
  have Hsil := Lib.hid (fun w1 => show Calls Tryd.prog 16 #[.string s] w1 (fun e w' => e = .returned (.bool (silentL s.data.toList)) ∧ w1 = w') from by
    have h := silent_any s.data.toList (by simpa using (by omega : s.size ≤ 9223372036854775807)) w1
    simp only [tv, arr_of] at h
    exact h)
  have Hrefs := Lib.hid (fun w1 => show Calls Tryd.prog 17 #[.string s] w1 (fun e w' => e = .returned (.bool (silentL s.data.toList)) ∧ Hid (Below w1.heap.size w1 w')) from (refSilent_any s (by omega) w1).mono fun e w' ⟨he, q, hq⟩ => ⟨he, by show Below _ _ _; rw [← hq]; exact below_drewN (Below.refl _ _) q⟩)
  clear hsame hJ
  generalize wordsL s.data.toList = WL at *
  generalize silentL s.data.toList = SI at *
  generalize Lib.join ls [32] = J at *
  obtain ⟨i0, hi, hz0, hz1, hz2⟩ := info_parts infoS
  clear hl
  go_enter Tryd.func3, Tryd.ntmps3
  go_wp2_with (first | (go_at_call 9; refine Hf.out.mono ?_; rintro e w1 ⟨rfl, hb1⟩))
  go_loopw [6, 7] (fun n i wr => ∃ k N : Nat, k ≤ ls.length ∧ k ≤ 1001 ∧ N ≤ k * 65536 ∧ n = .int .i64 N ∧ i = .int .i64 k ∧ Hid (Below w.heap.size w wr)) (fun _ i _ => ls.length - (intOf i).toNat)
  case atStart => exact ⟨0, 0, Nat.zero_le _, by decide, by decide, rfl, rfl, hb1⟩
  case round =>
    obtain ⟨k, N, hk, hk2, hN, rfl, rfl, HR⟩ := hrel
    clear hb1
    by_cases hlt : k < ls.length ∧ k ≤ 1000
    · obtain ⟨hlt, hk3⟩ := hlt
      obtain ⟨b, off, rfl, hb, hc⟩ := tat_at (H.out.below' HR.out) hlt
      have hxl := Hle.out k hlt
      generalize ls[k]?.getD [] = x at *
      have hxs : (⟨x.toArray⟩ : ByteArray).size = x.length := by simp [ByteArray.size]
      go_wp2
      go_roundw
      case rel => exact ⟨k + 1, N + min x.length 65536, by omega, by omega, by omega, by go_num, by go_num, HR.out⟩
      case measure => simp [intOf]; omega
    · by_cases hkl : k < ls.length
      · have hk3 : k = 1001 := by omega
        have d1 : decide (k < ls.length) = true := by simpa using hkl
        have d2 : decide ((k : Int) ≤ 1000) = false := by simp; omega
        have d3 : decide ((1000 : Int) < (ls.length : Int)) = true := by simp; omega
        clear hlt hkl hk3
        by_cases hsz : 65536 < s.size
        · have d4 : decide ((65536 : Int) < (s.size : Int)) = true := by simp; omega
          clear hsz
          go_wp2
          go_ret
          exact ⟨rfl, HR.out⟩
        · have d4 : decide ((65536 : Int) < (s.size : Int)) = false := by simp; omega
          clear hsz
          go_wp2
          go_ret
          exact ⟨rfl, HR.out⟩
      · have hke : k = ls.length := by omega
        subst hke
        clear hlt hkl
        by_cases hsz : 65536 < s.size
        · have d4 : decide ((65536 : Int) < (s.size : Int)) = true := by simp; omega
          clear hsz
          go_wp2
          go_ret
          exact ⟨rfl, HR.out⟩
        · have d4 : decide ((65536 : Int) < (s.size : Int)) = false := by simp; omega
          by_cases hlen : 1000 < ls.length
          · have d3 : decide ((1000 : Int) < (ls.length : Int)) = true := by simp; omega
            clear hsz hlen
            go_wp2
            go_ret
            exact ⟨rfl, HR.out⟩
          · have d3 : decide ((1000 : Int) < (ls.length : Int)) = false := by simp; omega
            by_cases hN2 : 65536 < N
            · have d5 : decide ((65536 : Int) < (N : Int)) = true := by simp; omega
              clear hsz hlen hN2
              go_wp2
              go_ret
              exact ⟨rfl, HR.out⟩
            · have d5 : decide ((65536 : Int) < (N : Int)) = false := by simp; omega
              have Hsz := Lib.hid hsz
              clear hsz hlen hN2
              go_wp2_with (first
                | (go_at_call 10; refine (Hcopy.out _ HR.out).mono ?_; rintro e w5 ⟨v5, rfl, h5⟩; have hown5 := h5.out.1; have hb5 := h5.out.2.size; clear Hcopy HR)
                | (at_builtin; refine wpList_append_own _ rfl _ _ 22 rfl w.heap.size 9 i0 (.string ⟨#[]⟩) 1 16 under22 hi hz0 hz1 hz2 rfl (by decide) _ _ _ rfl (hown5.alloc _) ⟨_, 0, none⟩ 2 2 [tv [98, 101, 104, 105, 110, 100], tv [105, 116]] rfl rfl (cells_new _ _ _) (by simp [Value.oneCell']) (by unfold maxLen; omega) (by omega) (by simp; omega) ?_; intro v6 w6 hown6 hgrow6 _; have hb6 := (h5.out.2.alloc h5.out.2.size _).grown hgrow6 (by simp; omega) (fun j e => (hown5.lt j e).1); obtain ⟨g, c6, rfl, hc6, ht6⟩ := row_some (l := ls ++ [[98, 101, 104, 105, 110, 100], [105, 116]]) (by simpa using hown6) (by simp) (by omega); have HD := Lib.hid (And.intro ht6 hb6); clear hown5 hown6 hgrow6 hb6 ht6 h5 hb5)
                | (go_at_call 12; refine (Hwords.out _ HD.out.2).mono ?_; rintro e w7 ⟨A, rfl, h7⟩; have HE := Lib.hid (And.intro (HD.out.1.below' h7.out.2.2) h7.out); clear h7 HD Hwords)
                | (go_at_call 13; refine (Hrefw.out (by have := Hsz.out; omega) _ HE.out.2.2.1).mono ?_; rintro e w8 ⟨a8, c8, rfl, h8⟩; have HF := Lib.hid (And.intro (HE.out.1.below' h8.out.2.2) (And.intro (HE.out.2.1.below' h8.out.2.2) h8.out)); clear h8 HE Hrefw)
                | (go_at_call 11; refine (HsW.out _ _ _ _ _ HF.out.2.1 HF.out.2.2.1).mono ?_; rintro e w9 ⟨rfl, h9⟩; have HG := Lib.hid (And.intro (HF.out.1.below' h9.out) (HF.out.2.2.2.1.trans (h9.out.mono HF.out.2.2.2.1.size))); clear h9 HF HsW)
                | (go_at_call 14; refine (Hjoin.out _ _ _ (tat_tail HG.out.1).1 (by omega)).mono ?_; rintro e w10 ⟨rfl, h10⟩; have HI := Lib.hid (And.intro (HG.out.1.below' h10.out) (HG.out.2.trans (h10.out.mono HG.out.2.size))); clear h10 HG Hjoin)
                | (go_at_call 11; refine (HsL.out _ _ _ _ _ (tat_tail HI.out.1).1 (H.out.below' HI.out.2)).mono ?_; rintro e w11 ⟨rfl, h11⟩; have HK := Lib.hid (And.intro (HI.out.1.below' h11.out) (HI.out.2.trans (h11.out.mono HI.out.2.size))); have hcA := (tat_tail HK.out.1).2.1; have hcB := (tat_tail HK.out.1).2.2; clear h11 HI HsL)
                | (go_at_call 15; refine (Hrefj.out _ HK.out.2).mono ?_; rintro e w12 ⟨rfl, h12⟩; have HM := Lib.hid (HK.out.2.trans (h12.out.mono HK.out.2.size)); clear h12 HK Hrefj hcA hcB)
                | (go_at_call 16; refine (Hsil.out _).mono ?_; rintro e w13 ⟨rfl, rfl⟩; clear Hsil)
                | (go_at_call 17; refine (Hrefs.out _).mono ?_; rintro e w14 ⟨rfl, h14⟩; have HO := Lib.hid (HM.out.trans (h14.out.mono HM.out.size)); clear h14 HM Hrefs)
                | fail)
              go_ret
              exact ⟨rfl, HO.out⟩
end Go.Proofs.YtaddpekjmboimaaDoor
