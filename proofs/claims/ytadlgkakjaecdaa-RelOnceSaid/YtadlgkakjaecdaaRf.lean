/- among; the walk of the statement on what fits. -/
import Derived.Test.YtadlgkakjaecdaaFr
namespace Go.Proofs.Ytadlgkakjaecdaa
open Go.RowKit Go.Maps Go.WideMaps Go.WideElems Go.ChangeShapes Go.WideShapes

theorem among_any (a : Option Addr) (c : Nat) (l : List Int) (x : Int) (hn : l.length ≤ 100000) (w : World) (h : SlI w a l) :
    Calls Try.prog 37 #[.slice a l.length c, .int .i64 x] w fun e w' => e = .returned (.bool (decide (x ∈ l))) ∧ w = w' := by
  obtain ⟨n, hnn⟩ : ∃ n, l.length = n := ⟨_, rfl⟩
  rw [hnn] at hn ⊢
  have H := Lib.hid h
  have Hn := Lib.hid hnn
  obtain ⟨res, hres⟩ : ∃ b, decide (x ∈ l) = b := ⟨_, rfl⟩
  rw [hres]
  have Hres := Lib.hid hres
  clear h hnn hres
  go_enter Try.func37, Try.ntmps37
  go_wp2
  go_loop [5] (fun i => ∃ k : Nat, k ≤ n ∧ i = .int .i64 k ∧ Hid (∀ j, j < k → l.getD j 0 ≠ x)) (fun i => n - (intOf i).toNat)
  case atStart => exact ⟨0, Nat.zero_le _, rfl, fun j hj => absurd hj (by omega)⟩
  case round =>
    obtain ⟨k, hk, rfl, HK⟩ := hrel
    by_cases hlt : k < n
    · obtain ⟨b, off, rfl, hc0⟩ := H.out.at (k := k) (by rw [Hn.out]; exact hlt)
      have hmem : l.getD k 0 ∈ l := by
        have h1 : k < l.length := by rw [Hn.out]; exact hlt
        rw [List.getD_eq_getElem?_getD, List.getElem?_eq_getElem h1]
        exact List.getElem_mem h1
      obtain ⟨q, hq⟩ : ∃ q, l.getD k 0 = q := ⟨_, rfl⟩
      rw [hq] at hc0 hmem
      by_cases hx : q = x
      · have hr : Hid (res = true) := by show _ = _; rw [← Hres.out, ← hx]; simpa using hmem
        subst hx
        clear hq hmem
        go_wp2
        go_ret
        exact ⟨by rw [hr.out]; rfl, rfl⟩
      · have HK' : Hid (∀ j, j < k + 1 → l.getD j 0 ≠ x) := by
          intro j hj
          by_cases e : j = k
          · subst e; rw [hq]; exact hx
          · exact HK.out j (by omega)
        have hne : (q == x) = false := by simpa using hx
        clear hx hq hmem
        go_wp2
        go_round
        case rel => exact ⟨k + 1, by omega, by go_num, HK'.out⟩
        case measure => simp [intOf]; omega
    · have hkn : k = n := by omega
      have hr : Hid (res = false) := by
        show _ = _
        rw [← Hres.out, decide_eq_false_iff_not]
        intro hm
        obtain ⟨j, hj, e⟩ := List.getElem_of_mem hm
        refine HK.out j (by rw [hkn, ← Hn.out]; exact hj) ?_
        simp [hj, e]
      clear hkn
      go_wp2
      go_ret
      exact ⟨by rw [hr.out]; rfl, rfl⟩
/-- An order that has all and fits a relation fits its closure. -/
theorem lt_tc {L : List Pr} {zs : List Int} (hin : ∀ p ∈ L, p.1 ∈ zs ∧ p.2 ∈ zs) (hfit : ∀ p ∈ L, ¬ BadAt zs p) {a b : Int} (h : TC L a b) : ∀ i j : Nat, zs[i]? = some b → zs[j]? = some a → j < i := by
  have one : ∀ {a b : Int}, (a, b) ∈ L → ∀ i j : Nat, zs[i]? = some b → zs[j]? = some a → j < i := fun {a b} hab i j hi hj => Classical.byContradiction fun hno => hfit _ hab ⟨i, j, by omega, hi, hj⟩
  induction h with
  | one h1 => exact one h1
  | more h0 h1 ih =>
    intro i j hi hj
    obtain ⟨k, hk⟩ := List.mem_iff_getElem?.1 (hin _ h1).1
    have h2 := ih k j hk hj
    have h3 := one h1 i k hi hk
    omega
theorem fits_tc {L M : List Pr} {zs : List Int} (hM : ∀ p, p ∈ M ↔ TC L p.1 p.2) (hin : ∀ p ∈ L, p.1 ∈ zs ∧ p.2 ∈ zs) : (∀ p ∈ L, ¬ BadAt zs p) ↔ ∀ p ∈ M, ¬ BadAt zs p := by
  constructor
  · rintro h ⟨a, b⟩ hp ⟨i, j, hij, hi, hj⟩
    have := lt_tc hin h ((hM _).1 hp) i j hi hj
    omega
  · intro h p hp
    exact h p ((hM p).2 (.one hp))
theorem fits_nocircle {L : List Pr} {zs : List Int} (hin : ∀ p ∈ L, p.1 ∈ zs ∧ p.2 ∈ zs) (h : ∀ p ∈ L, ¬ BadAt zs p) : ¬ ∃ z, TC L z z := by
  rintro ⟨z, hz⟩
  obtain ⟨c, hc⟩ := hz.head
  obtain ⟨i, hi⟩ := List.mem_iff_getElem?.1 (hin _ hc).1
  have := lt_tc hin h hz i i hi hi
  omega

set_option maxHeartbeats 4000000 in
set_option maxRecDepth 100000 in
theorem relFits_any (a : Option Addr) (c : Nat) (l : List Pr) (o : Option Addr) (co : Nat) (zs : List Int) (hl : ∀ p ∈ l, FitP p) (hz : ∀ x ∈ zs, fit64 x) (w : World) (h : SlP w a l) (ho : SlI w o zs) :
    Calls Try.prog 7 #[.slice a l.length c, .slice o zs.length co] w fun e w' => e = .returned (.bool true) ∧ Hid (Below w.heap.size w w') := by
  have H := Lib.hid h
  have Ho := Lib.hid ho
  have Hf := Lib.hid hl
  have Hz := Lib.hid hz
  obtain ⟨n, hn⟩ : ∃ n, l.length = n := ⟨_, rfl⟩
  obtain ⟨m, hm⟩ : ∃ m, zs.length = m := ⟨_, rfl⟩
  have Hmade : Hid (n ≤ 60 → ∀ W, SlP W a l → Calls Try.prog 21 #[.slice a n c] W fun e w' => ∃ r b L D a' c', e = .returned (.tuple #[.pointer (some ⟨r, 0, none⟩), .slice a' (putAll l).length c']) ∧ Hid (RelAt r b L D w' ∧ (∀ q, q ∈ L ↔ q ∈ l) ∧ SlP w' a' (putAll l) ∧ Below W.heap.size W w' ∧ W.heap.size ≤ r ∧ W.heap.size ≤ b)) := fun h60 W hW => by
    have h1 := made_any a c l (by omega) hl W hW
    rw [hn] at h1
    exact h1
  have Ham : Hid (m ≤ 60 → ∀ x W, SlI W o zs → Calls Try.prog 37 #[.slice o m co, .int .i64 x] W fun e w' => e = .returned (.bool (decide (x ∈ zs))) ∧ W = w') := fun h60 x W hW => by
    have h1 := among_any o co zs x (by omega) W hW
    rw [hm] at h1
    exact h1
  have Hfi : Hid (m ≤ 60 → ∀ r b L D W, L.length ≤ 10000 → RelAt r b L D W → SlI W o zs → Calls Try.prog 24 #[.pointer (some ⟨r, 0, none⟩), .slice o m co] W fun e w' => ∃ c, e = .returned (.bool c) ∧ Hid ((c = true ↔ ∀ p ∈ L, ¬ BadAt zs p) ∧ Below W.heap.size W w')) := fun h60 r b L D W hL hW hS => by
    have h1 := fits_any r b L D hL o co zs (by omega) hz W hW hS
    rw [hm] at h1
    exact h1
  rw [hn, hm]
  have Hn := Lib.hid hn
  have Hm := Lib.hid hm
  clear h ho hl hz hn hm
  have hfst : Hid (Calls Try.prog 9 #[] w fun e w' => e = .returned (.bool true) ∧ Hid (Below w.heap.size w w')) := first_any w
  by_cases h60 : n ≤ 60 ∧ m ≤ 60
  · have hN : decide ((60 : Int) < (n : Int)) = false := by simp; omega
    have hM : decide ((60 : Int) < (m : Int)) = false := by simp; omega
    have HN := Lib.hid h60
    clear h60
    go_enter Try.func7, Try.ntmps7
    go_wp2_with (first
      | (go_at_call 9; refine hfst.out.mono ?_; rintro e w1 ⟨rfl, h1⟩; have H1 := Lib.hid (H.out.below h1.out))
      | (go_at_call 21; refine (Hmade.out HN.out.1 w1 H1.out).mono ?_; rintro e w2 ⟨r, b, L, D, a2, c2, rfl, h2⟩
         have Hr2 := Lib.hid h2.out.1
         have HL := Lib.hid h2.out.2.1
         have Hsl2 := Lib.hid h2.out.2.2.1
         have Hb2 : Hid (Below w.heap.size w w2) := h1.out.trans (h2.out.2.2.2.1.mono h1.out.size)
         have HLn : Hid (L.length ≤ 60) := by
           have h3 := nodup_len h2.out.1.prs.once (fun p hp => (h2.out.2.1 p).1 hp)
           have h4 := Hn.out
           have h5 := HN.out.1
           show _ ≤ _
           omega
         clear h2 h1)
      | go_in)
    obtain ⟨M, hM⟩ : ∃ M, putAll l = M := ⟨_, rfl⟩
    rw [hM] at Hsl2 ⊢
    have HM : Hid (∀ q, q ∈ M ↔ q ∈ L) := fun q => by rw [← hM, mem_putAll, HL.out q]
    have HMl : Hid (M.length ≤ 60) := by
      have h3 := putAll_len l
      have h4 := Hn.out
      have h5 := HN.out.1
      rw [hM] at h3
      show _ ≤ _
      omega
    clear hM
    have Ho2 : Hid (SlI w2 o zs) := Ho.out.below (grown_below (Hb2.out))
    have HLs : Hid (L.length ≤ 10000) := by have := HLn.out; show _ ≤ _; omega
    obtain ⟨d, hd⟩ : ∃ d, M.length = d := ⟨_, rfl⟩
    rw [hd] at HMl ⊢
    have Hd := Lib.hid hd
    clear hd
    go_loop [8] (fun i => ∃ k : Nat, k ≤ d ∧ i = .int .i64 k ∧ Hid (∀ j, j < k → (M.getD j (0, 0)).1 ∈ zs ∧ (M.getD j (0, 0)).2 ∈ zs)) (fun i => d - (intOf i).toNat)
    case atStart => exact ⟨0, Nat.zero_le _, rfl, fun j hj => absurd hj (by omega)⟩
    case round =>
      obtain ⟨k, hk, rfl, HK⟩ := hrel
      have hd60 := HMl.out
      by_cases hlt : k < d
      · obtain ⟨b', off', rfl, hc0, hc1⟩ := Hsl2.out.at (k := k) (by rw [Hd.out]; exact hlt)
        obtain ⟨q, hq⟩ : ∃ q, M.getD k (0, 0) = q := ⟨_, rfl⟩
        obtain ⟨q1, q2⟩ := q
        rw [hq] at hc0 hc1
        simp only at hc0 hc1
        have Hq := Lib.hid hq
        have Hq1 := Lib.hid (Ham.out HN.out.2 q1 w2 Ho2.out)
        have Hq2 := Lib.hid (Ham.out HN.out.2 q2 w2 Ho2.out)
        clear hq
        by_cases h1 : q1 ∈ zs
        · have e1 : decide (q1 ∈ zs) = true := by simpa using h1
          rw [e1] at Hq1
          by_cases h2 : q2 ∈ zs
          · have e2 : decide (q2 ∈ zs) = true := by simpa using h2
            rw [e2] at Hq2
            have HK' : Hid (∀ j, j < k + 1 → (M.getD j (0, 0)).1 ∈ zs ∧ (M.getD j (0, 0)).2 ∈ zs) := by
              intro j hj
              by_cases e : j = k
              · subst e; rw [Hq.out]; exact ⟨h1, h2⟩
              · exact HK.out j (by omega)
            clear h1 h2 e1 e2
            go_wp2_with (first | (go_at_call 37; with_reducible refine Hq1.out.mono ?_; rintro e w4 ⟨rfl, rfl⟩) | (go_at_call 37; with_reducible refine Hq2.out.mono ?_; rintro e w4 ⟨rfl, rfl⟩) | go_in)
            go_round
            case rel => exact ⟨k + 1, by omega, by go_num, HK'.out⟩
            case measure => simp [intOf]; omega
          · have e2 : decide (q2 ∈ zs) = false := by simpa using h2
            rw [e2] at Hq2
            clear h1 h2 e1 e2
            go_wp2_with (first | (go_at_call 37; with_reducible refine Hq1.out.mono ?_; rintro e w4 ⟨rfl, rfl⟩) | (go_at_call 37; with_reducible refine Hq2.out.mono ?_; rintro e w4 ⟨rfl, rfl⟩) | go_in)
            go_ret
            exact ⟨rfl, Hb2.out⟩
        · have e1 : decide (q1 ∈ zs) = false := by simpa using h1
          rw [e1] at Hq1
          clear h1 e1
          go_wp2_with (first | (go_at_call 37; with_reducible refine Hq1.out.mono ?_; rintro e w4 ⟨rfl, rfl⟩) | go_in)
          go_ret
          exact ⟨rfl, Hb2.out⟩
      · have hkd : k = d := by omega
        have Hin : Hid (∀ p ∈ L, p.1 ∈ zs ∧ p.2 ∈ zs) := fun p hp => by
          obtain ⟨j, hj, e⟩ := List.getElem_of_mem ((HM.out p).2 hp)
          have h3 := HK.out j (by rw [hkd, ← Hd.out]; exact hj)
          have e3 : M.getD j (0, 0) = p := by simp [hj, e]
          rwa [e3] at h3
        subst hkd
        clear hlt hk
        by_cases hfit0 : ∀ p ∈ L, ¬ BadAt zs p
        · have hfit := Lib.hid hfit0
          clear hfit0
          go_wp2_with (first
            | (go_at_call 24; with_reducible refine (Hfi.out HN.out.2 r b L D w2 HLs.out Hr2.out Ho2.out).mono ?_; rintro e w4 ⟨c4, rfl, h4⟩
               have hc4 : c4 = true := h4.out.1.2 hfit.out
               subst hc4
               have Hr4 := Lib.hid (Hr2.out.below h4.out.2)
               have Ho4 := Lib.hid (Ho2.out.below (grown_below h4.out.2))
               have Hb4 : Hid (Below w.heap.size w w4) := Hb2.out.trans (h4.out.2.mono Hb2.out.size)
               clear h4)
            | (go_at_call 22; refine (closure_any r b L D HLs.out (tc_bound (by have := HLn.out; omega)) w4 Hr4.out).mono ?_; rintro e w5 ⟨r5, b5, M5, D5, rfl, h5'⟩
               have h5 : Hid ((∀ p, p ∈ M5 ↔ TC L p.1 p.2) ∧ M5.length ≤ 10000) := ⟨h5'.out.2.1, tc_bound (by have := HLn.out; omega) M5 h5'.out.1.prs.once (fun p hp => (h5'.out.2.1 p).1 hp)⟩
               have Hr5 := Lib.hid (Hr4.out.below h5'.out.2.2.1)
               have Hm5 := Lib.hid h5'.out.1
               have Ho5 := Lib.hid (Ho4.out.below (grown_below h5'.out.2.2.1))
               have Hb5 : Hid (Below w.heap.size w w5) := Hb4.out.trans (h5'.out.2.2.1.mono Hb4.out.size)
               clear h5')
            | (go_at_call 24; with_reducible refine (Hfi.out HN.out.2 r5 b5 M5 D5 w5 h5.out.2 Hm5.out Ho5.out).mono ?_; rintro e w6 ⟨c6, rfl, h6⟩
               have hc6 : c6 = true := h6.out.1.2 ((fits_tc h5.out.1 Hin.out).1 hfit.out)
               subst hc6
               have Hr6 := Lib.hid (Hr5.out.below h6.out.2)
               have Hb6 : Hid (Below w.heap.size w w6) := Hb5.out.trans (h6.out.2.mono Hb5.out.size)
               clear h6)
            | (go_at_call 26; refine (circle_any r b L D (by have := HLn.out; omega) w6 Hr6.out).mono ?_; rintro e w7 ⟨c7, rfl, h7⟩
               have hc7 : c7 = false := by cases c7 with | false => rfl | true => exact absurd (h7.out.1.1 rfl) (fits_nocircle Hin.out hfit.out)
               subst hc7
               have Hb7 : Hid (Below w.heap.size w w7) := Hb6.out.trans (h7.out.2.mono Hb6.out.size)
               clear h7)
            | go_in)
          go_ret
          exact ⟨rfl, Hb7.out⟩
        · have hfit := Lib.hid hfit0
          clear hfit0
          go_wp2_with (first
            | (go_at_call 24; with_reducible refine (Hfi.out HN.out.2 r b L D w2 HLs.out Hr2.out Ho2.out).mono ?_; rintro e w4 ⟨c4, rfl, h4⟩
               have hc4 : c4 = false := by cases c4 with | false => rfl | true => exact absurd (h4.out.1.1 rfl) hfit.out
               subst hc4
               have Hr4 := Lib.hid (Hr2.out.below h4.out.2)
               have Ho4 := Lib.hid (Ho2.out.below (grown_below h4.out.2))
               have Hb4 : Hid (Below w.heap.size w w4) := Hb2.out.trans (h4.out.2.mono Hb2.out.size)
               clear h4)
            | (go_at_call 22; refine (closure_any r b L D HLs.out (tc_bound (by have := HLn.out; omega)) w4 Hr4.out).mono ?_; rintro e w5 ⟨r5, b5, M5, D5, rfl, h5'⟩
               have h5 : Hid ((∀ p, p ∈ M5 ↔ TC L p.1 p.2) ∧ M5.length ≤ 10000) := ⟨h5'.out.2.1, tc_bound (by have := HLn.out; omega) M5 h5'.out.1.prs.once (fun p hp => (h5'.out.2.1 p).1 hp)⟩
               have Hr5 := Lib.hid (Hr4.out.below h5'.out.2.2.1)
               have Hm5 := Lib.hid h5'.out.1
               have Ho5 := Lib.hid (Ho4.out.below (grown_below h5'.out.2.2.1))
               have Hb5 : Hid (Below w.heap.size w w5) := Hb4.out.trans (h5'.out.2.2.1.mono Hb4.out.size)
               clear h5')
            | (go_at_call 24; with_reducible refine (Hfi.out HN.out.2 r5 b5 M5 D5 w5 h5.out.2 Hm5.out Ho5.out).mono ?_; rintro e w6 ⟨c6, rfl, h6⟩
               have hc6 : c6 = false := by cases c6 with | false => rfl | true => exact absurd ((fits_tc h5.out.1 Hin.out).2 (h6.out.1.1 rfl)) hfit.out
               subst hc6
               have Hr6 := Lib.hid (Hr5.out.below h6.out.2)
               have Hb6 : Hid (Below w.heap.size w w6) := Hb5.out.trans (h6.out.2.mono Hb5.out.size)
               clear h6)
            | go_in)
          go_ret
          exact ⟨rfl, Hb6.out⟩
  · by_cases hn60 : n ≤ 60
    · have hN : decide ((60 : Int) < (n : Int)) = false := by simp; omega
      have hM : decide ((60 : Int) < (m : Int)) = true := by simp; omega
      clear h60
      go_enter Try.func7, Try.ntmps7
      go_wp2_with (first
        | (go_at_call 9; refine hfst.out.mono ?_; rintro e w1 ⟨rfl, h1⟩)
        | go_in)
      go_ret
      exact ⟨rfl, h1.out⟩
    · have hN : decide ((60 : Int) < (n : Int)) = true := by simp; omega
      clear h60
      go_enter Try.func7, Try.ntmps7
      go_wp2_with (first
        | (go_at_call 9; refine hfst.out.mono ?_; rintro e w1 ⟨rfl, h1⟩)
        | go_in)
      go_ret
      exact ⟨rfl, h1.out⟩
end Go.Proofs.Ytadlgkakjaecdaa
