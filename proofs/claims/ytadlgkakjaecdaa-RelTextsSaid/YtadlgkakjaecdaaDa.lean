/- The document's relations: Has, Put, by contracts. -/
import Derived.Test.YtadlgkakjaecdaaCi
namespace Go.Proofs.Ytadlgkakjaecdaa
open Go.RowKit Go.Maps Go.WideMaps Go.WideElems Go.ChangeShapes Go.WideShapes

/-- A slice of pairs that can be read. -/
def SlP (W : World) (a : Option Addr) (l : List Pr) : Prop := l = [] ∨ ∃ b off, a = some ⟨b, off, none⟩ ∧ (l ≠ [] → b < W.heap.size) ∧ ∀ k p, l[k]? = some p → W.cell? ⟨b, off + k * 2, none⟩ = some (.int .i64 p.1) ∧ W.cell? ⟨b, off + k * 2 + 1, none⟩ = some (.int .i64 p.2)
theorem SlP.below {W W' : World} {a : Option Addr} {l : List Pr} (h : SlP W a l) (hb : Below W.heap.size W W') : SlP W' a l := by
  rcases h with h | ⟨b, off, e, hl, h⟩
  · exact .inl h
  · refine .inr ⟨b, off, e, fun hx => Nat.lt_of_lt_of_le (hl hx) hb.size, fun k p hk => ?_⟩
    have hne : l ≠ [] := by intro e'; rw [e'] at hk; simp at hk
    exact ⟨(hb.cell (p := ⟨b, off + k * 2, none⟩) (hl hne)).trans (h k p hk).1, (hb.cell (p := ⟨b, off + k * 2 + 1, none⟩) (hl hne)).trans (h k p hk).2⟩
theorem SlP.at {W : World} {a : Option Addr} {l : List Pr} (h : SlP W a l) {k : Nat} (hk : k < l.length) : ∃ b off, a = some ⟨b, off, none⟩ ∧ W.cell? ⟨b, off + k * 2, none⟩ = some (.int .i64 (l.getD k (0, 0)).1) ∧ W.cell? ⟨b, off + k * 2 + 1, none⟩ = some (.int .i64 (l.getD k (0, 0)).2) := by
  rcases h with rfl | ⟨b, off, e, _, h⟩
  · simp at hk
  · exact ⟨b, off, e, h k _ (by simp [hk])⟩
theorem row_slP {W : World} {B : Nat} {e : TypeId} {n : Nat} {v : Value} {l : List Pr} (h : W.ownsRow B e 2 v n (flat l)) : ∃ a c, v = .slice a n c ∧ l.length = n ∧ SlP W a l := by
  have hln : l.length = n := by
    have := h.1
    rw [flat_len] at this
    omega
  rcases h.2 with ⟨rfl, h0⟩ | ⟨g, cap, cur, rfl, hb, hg, hn, hm, hs, ht⟩
  · subst h0
    exact ⟨none, 0, rfl, hln, .inl (List.eq_nil_of_length_eq_zero hln)⟩
  · refine ⟨_, cap, rfl, hln, .inr ⟨g, 0, rfl, fun _ => (Array.getElem?_eq_some_iff.1 hg).1, fun k p hk => ?_⟩⟩
    obtain ⟨hk1, rfl⟩ := List.getElem?_eq_some_iff.1 hk
    obtain ⟨g0, g1⟩ := flat_get l k hk1
    have h1 := h.cellAt (k * 2) (by omega)
    have h2 := h.cellAt (k * 2 + 1) (by omega)
    rw [g0] at h1
    rw [g1] at h2
    rw [Nat.zero_add]
    exact ⟨h1, h2⟩

theorem has9_any (a : Option Addr) (c : Nat) (l : List Pr) (x y : Int) (hn : l.length ≤ 100000) (w : World) (h : SlP w a l) :
    Calls Try.prog 11 #[.slice a l.length c, .int .i64 x, .int .i64 y] w fun e w' => e = .returned (.bool (decide ((x, y) ∈ l))) ∧ w = w' := by
  obtain ⟨n, hnn⟩ : ∃ n, l.length = n := ⟨_, rfl⟩
  rw [hnn] at hn ⊢
  have H := Lib.hid h
  have Hn := Lib.hid hnn
  obtain ⟨res, hres⟩ : ∃ b, decide ((x, y) ∈ l) = b := ⟨_, rfl⟩
  rw [hres]
  have Hres := Lib.hid hres
  clear h hnn hres
  go_enter Try.func11, Try.ntmps11
  go_wp2
  go_loop [7] (fun i => ∃ k : Nat, k ≤ n ∧ i = .int .i64 k ∧ Hid (∀ j, j < k → l.getD j (0, 0) ≠ (x, y))) (fun i => n - (intOf i).toNat)
  case atStart => exact ⟨0, Nat.zero_le _, rfl, fun j hj => absurd hj (by omega)⟩
  case round =>
    obtain ⟨k, hk, rfl, HK⟩ := hrel
    by_cases hlt : k < n
    · obtain ⟨b, off, rfl, hc0, hc1⟩ := H.out.at (k := k) (by rw [Hn.out]; exact hlt)
      have hmem : l.getD k (0, 0) ∈ l := by
        have h1 : k < l.length := by rw [Hn.out]; exact hlt
        rw [List.getD_eq_getElem?_getD, List.getElem?_eq_getElem h1]
        exact List.getElem_mem h1
      obtain ⟨q, hq⟩ : ∃ q, l.getD k (0, 0) = q := ⟨_, rfl⟩
      obtain ⟨q1, q2⟩ := q
      rw [hq] at hc0 hc1 hmem
      simp only at hc0 hc1
      by_cases hx : (q1, q2) = (x, y)
      · have hr : Hid (res = true) := by show _ = _; rw [← Hres.out, ← hx]; simpa using hmem
        have e1 : q1 = x := by cases hx; rfl
        have e2 : q2 = y := by cases hx; rfl
        subst e1 e2
        clear hx hq hmem
        go_wp2
        go_ret
        exact ⟨by rw [hr.out]; rfl, rfl⟩
      · have HK' : Hid (∀ j, j < k + 1 → l.getD j (0, 0) ≠ (x, y)) := by
          intro j hj
          by_cases e : j = k
          · subst e; rw [hq]; exact hx
          · exact HK.out j (by omega)
        by_cases e1 : q1 = x
        · subst e1
          have hne : (q2 == y) = false := by
            have : q2 ≠ y := fun e => hx (by rw [e])
            simpa using this
          clear hx hq hmem
          go_wp2
          go_round
          case rel => exact ⟨k + 1, by omega, by go_num, HK'.out⟩
          case measure => simp [intOf]; omega
        · have hne : (q1 == x) = false := by simpa using e1
          clear hx hq hmem e1
          go_wp2
          go_round
          case rel => exact ⟨k + 1, by omega, by go_num, HK'.out⟩
          case measure => simp [intOf]; omega
    · have hkn : k = n := by omega
      have hr : Hid (res = false) := by
        show _ = _
        rw [← Hres.out, decide_eq_false_iff_not]
        intro hm
        obtain ⟨j, hj, e⟩ := List.getElem_of_mem hm
        refine HK.out j (by rw [hkn, ← Hn.out]; exact hj) ?_
        simp [hj, e]
      clear hkn
      go_wp2
      go_ret
      exact ⟨by rw [hr.out]; rfl, rfl⟩
theorem ltP_of_lt {p : Pr} : ∀ {l : List Pr} {k : Nat}, k < aheadN p l → k < l.length ∧ LtP (l.getD k (0, 0)) p
  | [], k, h => by simp [aheadN] at h
  | q :: l, k, h => by
    unfold aheadN at h
    split at h
    · rename_i hq
      cases k with
      | zero => exact ⟨by simp, by simpa using hq⟩
      | succ k =>
        obtain ⟨h1, h2⟩ := ltP_of_lt (p := p) (l := l) (k := k) (by omega)
        exact ⟨by simp; omega, by simpa using h2⟩
    · omega
theorem ltP_stop {p : Pr} : ∀ {l : List Pr}, aheadN p l < l.length → ¬ LtP (l.getD (aheadN p l) (0, 0)) p
  | [], h => by simp at h
  | q :: l, h => by
    by_cases hq : LtP q p
    · have e : aheadN p (q :: l) = aheadN p l + 1 := by simp [aheadN, hq]
      rw [e] at h ⊢
      have := ltP_stop (p := p) (l := l) (by simp at h; omega)
      simpa using this
    · have e : aheadN p (q :: l) = 0 := by simp [aheadN, hq]
      rw [e]
      simpa using hq
theorem ltP_ways {q1 q2 x y : Int} (h : LtP (q1, q2) (x, y)) : decide (q1 < x) = true ∨ (decide (q1 < x) = false ∧ (q1 == x) = true ∧ decide (q2 < y) = true) := by
  unfold LtP at h
  simp at h
  rcases h with h | ⟨h1, h2⟩
  · exact .inl (by simpa using h)
  · exact .inr ⟨by simp; omega, by simpa using h1, by simpa using h2⟩
theorem ltP_no {q1 q2 x y : Int} (h : ¬ LtP (q1, q2) (x, y)) : decide (q1 < x) = false ∧ ((q1 == x) = false ∨ ((q1 == x) = true ∧ decide (q2 < y) = false)) := by
  unfold LtP at h
  simp at h
  refine ⟨by simp; omega, ?_⟩
  by_cases e : q1 = x
  · exact .inr ⟨by simpa using e, by simp; exact h.2 e⟩
  · exact .inl (by simpa using e)
theorem elem53 : (Try.prog.info? 53).map (fun i => (i.zero, i.size, i.bytes)) = some (some (.agg #[.int .i64 0, .int .i64 0]), 2, 16) := by kernel_rfl

set_option maxHeartbeats 4000000 in
set_option maxRecDepth 100000 in
theorem put9_any (a : Option Addr) (c : Nat) (l : List Pr) (x y : Int) (hn : l.length ≤ 100000) (w : World) (h : SlP w a l) :
    Calls Try.prog 14 #[.slice a l.length c, .int .i64 x, .int .i64 y] w fun e w' => ∃ a' c', e = .returned (.slice a' (putP l (x, y)).length c') ∧ Hid (SlP w' a' (putP l (x, y)) ∧ Below w.heap.size w w') := by
  obtain ⟨i0, hi, hz0, hz1, hz2⟩ := info_parts elem53
  have HH := Lib.hid (has9_any a c l x y hn w h)
  by_cases hp : (x, y) ∈ l
  · have e1 : putP l (x, y) = l := by simp [putP, hp]
    have e2 : decide ((x, y) ∈ l) = true := by simpa using hp
    rw [e1]
    rw [e2] at HH
    have H := Lib.hid h
    clear hp e1 e2 h hn
    go_enter Try.func14, Try.ntmps14
    go_wp2_with (first | (go_at_call 11; refine HH.out.mono ?_; rintro e w2 ⟨rfl, rfl⟩) | go_in)
    go_ret
    exact ⟨a, c, rfl, H.out, Below.refl _ _⟩
  · have e1 : putP l (x, y) = l.take (aheadN (x, y) l) ++ (x, y) :: l.drop (aheadN (x, y) l) := by simp [putP, hp]
    have e2 : decide ((x, y) ∈ l) = false := by simpa using hp
    rw [e2] at HH
    obtain ⟨R, hR⟩ : ∃ R, putP l (x, y) = R := ⟨_, rfl⟩
    rw [hR]
    rw [hR] at e1
    have He1 := Lib.hid e1
    obtain ⟨n, hnn⟩ : ∃ n, l.length = n := ⟨_, rfl⟩
    rw [hnn] at HH hn ⊢
    have H := Lib.hid h
    have Hn := Lib.hid hnn
    obtain ⟨m, hm⟩ : ∃ m, aheadN (x, y) l = m := ⟨_, rfl⟩
    have Hm := Lib.hid hm
    have Hmn : Hid (m ≤ n) := by show _ ≤ _; rw [← hm, ← hnn]; exact aheadN_le _ _
    clear hp e1 e2 h hnn hR hm
    go_enter Try.func14, Try.ntmps14
    go_wp2_with (first | (go_at_call 11; refine HH.out.mono ?_; rintro e w2 ⟨rfl, rfl⟩) | go_in)
    go_loop [7] (fun i => ∃ k : Nat, k ≤ m ∧ i = .int .i64 k) (fun i => n - (intOf i).toNat)
    case atStart => exact ⟨0, Nat.zero_le _, rfl⟩
    case round =>
      obtain ⟨k, hk, rfl⟩ := hrel
      have hmn := Hmn.out
      by_cases hlt : k < m
      · obtain ⟨hkl, hlp⟩ := ltP_of_lt (p := (x, y)) (l := l) (k := k) (by rw [Hm.out]; exact hlt)
        obtain ⟨b, off, rfl, hc0, hc1⟩ := H.out.at hkl
        rw [Hn.out] at hkl
        obtain ⟨q, hq⟩ : ∃ q, l.getD k (0, 0) = q := ⟨_, rfl⟩
        obtain ⟨q1, q2⟩ := q
        rw [hq] at hc0 hc1 hlp
        simp only at hc0 hc1
        rcases ltP_ways hlp with e1 | ⟨e1, e2, e3⟩
        · clear hq hlp
          go_wp2
          go_round
          case rel => exact ⟨k + 1, by omega, by go_num⟩
          case measure => simp [intOf]; omega
        · clear hq hlp
          go_wp2
          go_round
          case rel => exact ⟨k + 1, by omega, by go_num⟩
          case measure => simp [intOf]; omega
      · have hkm : k = m := by omega
        subst hkm
        by_cases hkl : k < n
        · have hlp := ltP_stop (p := (x, y)) (l := l) (by rw [Hm.out, Hn.out]; exact hkl)
          rw [Hm.out] at hlp
          obtain ⟨b, off, rfl, hc0, hc1⟩ := H.out.at (k := k) (by rw [Hn.out]; exact hkl)
          obtain ⟨q, hq⟩ : ∃ q, l.getD k (0, 0) = q := ⟨_, rfl⟩
          obtain ⟨q1, q2⟩ := q
          rw [hq] at hc0 hc1 hlp
          simp only at hc0 hc1
          obtain ⟨e1, e2 | ⟨e2, e3⟩⟩ := ltP_no hlp
          · clear hq hlp
            go_wp2
            clear hc0 hc1 e1 e2
            go_loopw [8, 9] (fun v i wr => ∃ j : Nat, i = .int .i64 j ∧ j ≤ k ∧ Hid (wr.ownsRow w.heap.size 53 2 v j (flat (l.take j)) ∧ Below w.heap.size w wr)) (fun _ i _ => k - (intOf i).toNat)
            case atStart => exact ⟨0, rfl, Nat.zero_le _, World.ownsRow_nil _ _ _ _, Below.refl _ _⟩
            case round =>
              obtain ⟨j, rfl, hj, HJ⟩ := hrel
              by_cases hjk : j < k
              · have hjl : j < l.length := by rw [Hn.out]; omega
                obtain ⟨b', off', e, hc0, hc1⟩ := (H.out.below HJ.out.2).at hjl
                cases e
                have htk : l.take (j + 1) = l.take j ++ [l.getD j (0, 0)] := by
                  rw [List.take_add_one, List.getElem?_eq_getElem hjl, List.getD_eq_getElem?_getD, List.getElem?_eq_getElem hjl]
                  rfl
                obtain ⟨q, hq⟩ : ∃ q, l.getD j (0, 0) = q := ⟨_, rfl⟩
                obtain ⟨q1, q2⟩ := q
                rw [hq] at hc0 hc1 htk
                simp only at hc0 hc1
                have Htk := Lib.hid htk
                have hjn : j < n := by omega
                have HA : Hid (w.heap.size ≤ (wr.alloc (.cells #[.int .i64 q1, .int .i64 q2] 53)).heap.size) := by
                  have h1 := HJ.out.2.size
                  show _ ≤ (World.alloc _ _).heap.size
                  simp
                  omega
                clear htk hq hjl
                go_wp2_with (first
                  | (at_builtin; refine wpList_append_own _ rfl _ _ 26 rfl w.heap.size 53 i0 (.agg #[.int .i64 0, .int .i64 0]) 2 16 Try.underlying26 hi hz0 hz1 hz2 rfl (by decide) u8 j (flat (l.take j)) rfl (HJ.out.1.alloc _) ⟨wr.heap.size, 0, none⟩ 1 1 [.int .i64 q1, .int .i64 q2] rfl rfl (news_new wr #[.int .i64 q1, .int .i64 q2] 53) (flat_one [(q1, q2)]) (by unfold maxLen; omega) (by omega) HA.out ?_)
                  | go_in)
                intro v5 w5 hown5 hgrow5 hnil5
                have HJ5 : Hid (w5.ownsRow w.heap.size 53 2 v5 (j + 1) (flat (l.take (j + 1))) ∧ Below w.heap.size w w5) := by
                  refine ⟨?_, (HJ.out.2.alloc HJ.out.2.size _).grown hgrow5 HA.out (fun k hk => (HJ.out.1.lt k hk).1)⟩
                  rw [Htk.out, flat_snoc]
                  exact hown5
                clear hown5 hgrow5 hnil5
                go_wp2
                go_roundw
                case rel => exact ⟨j + 1, by go_num, by omega, HJ5.out⟩
                case measure => simp [intOf]; omega
              · have hjk' : j = k := by omega
                subst hjk'
                have HA : Hid (w.heap.size ≤ (wr.alloc (.cells #[.int .i64 x, .int .i64 y] 53)).heap.size) := by
                  have h1 := HJ.out.2.size
                  show _ ≤ (World.alloc _ _).heap.size
                  simp
                  omega
                clear hj hjk
                go_wp2_with (first
                  | (at_builtin; refine wpList_append_own _ rfl _ _ 26 rfl w.heap.size 53 i0 (.agg #[.int .i64 0, .int .i64 0]) 2 16 Try.underlying26 hi hz0 hz1 hz2 rfl (by decide) u8 j (flat (l.take j)) rfl (HJ.out.1.alloc _) ⟨wr.heap.size, 0, none⟩ 1 1 [.int .i64 x, .int .i64 y] rfl rfl (news_new wr #[.int .i64 x, .int .i64 y] 53) (flat_one [(x, y)]) (by unfold maxLen; omega) (by omega) HA.out ?_)
                  | go_in)
                intro v5 w5 hown5 hgrow5 hnil5
                have HJ5 : Hid (w5.ownsRow w.heap.size 53 2 v5 (j + 1) (flat (l.take j ++ (x, y) :: (l.drop j).take 0)) ∧ Below w.heap.size w w5) := by
                  refine ⟨?_, (HJ.out.2.alloc HJ.out.2.size _).grown hgrow5 HA.out (fun k hk => (HJ.out.1.lt k hk).1)⟩
                  rw [List.take_zero, flat_snoc]
                  exact hown5
                clear hown5 hgrow5 hnil5 HA
                go_wp2
                try go_frame
                go_loopw [8, 10] (fun v i wr => ∃ d : Nat, i = .int .i64 ((j + d : Nat) : Int) ∧ j + d ≤ n ∧ Hid (wr.ownsRow w.heap.size 53 2 v (j + d + 1) (flat (l.take j ++ (x, y) :: (l.drop j).take d)) ∧ Below w.heap.size w wr)) (fun _ i _ => n - (intOf i).toNat)
                case atStart => exact ⟨0, rfl, by omega, HJ5.out⟩
                case round =>
                  obtain ⟨d, rfl, hd, HD⟩ := hrel
                  obtain ⟨i, hi'⟩ : ∃ i, j + d = i := ⟨_, rfl⟩
                  rw [hi'] at HD hd ⊢
                  have Hi := Lib.hid hi'
                  clear hi'
                  by_cases hin : i < n
                  · have hjl : i < l.length := by rw [Hn.out]; omega
                    obtain ⟨b', off', e, hc0, hc1⟩ := (H.out.below HD.out.2).at hjl
                    cases e
                    have htk : (l.drop j).take (d + 1) = (l.drop j).take d ++ [l.getD i (0, 0)] := by
                      rw [List.take_add_one, List.getElem?_drop, Hi.out, List.getElem?_eq_getElem hjl, List.getD_eq_getElem?_getD, List.getElem?_eq_getElem hjl]
                      rfl
                    obtain ⟨q, hq⟩ : ∃ q, l.getD i (0, 0) = q := ⟨_, rfl⟩
                    obtain ⟨q1, q2⟩ := q
                    rw [hq] at hc0 hc1 htk
                    simp only at hc0 hc1
                    have Htk := Lib.hid htk
                    have HA : Hid (w.heap.size ≤ (wr.alloc (.cells #[.int .i64 q1, .int .i64 q2] 53)).heap.size) := by
                      have h1 := HD.out.2.size
                      show _ ≤ (World.alloc _ _).heap.size
                      simp
                      omega
                    clear htk hq hjl
                    go_wp2_with (first
                      | (at_builtin; refine wpList_append_own _ rfl _ _ 26 rfl w.heap.size 53 i0 (.agg #[.int .i64 0, .int .i64 0]) 2 16 Try.underlying26 hi hz0 hz1 hz2 rfl (by decide) u8 (i + 1) (flat (l.take j ++ (x, y) :: (l.drop j).take d)) rfl (HD.out.1.alloc _) ⟨wr.heap.size, 0, none⟩ 1 1 [.int .i64 q1, .int .i64 q2] rfl rfl (news_new wr #[.int .i64 q1, .int .i64 q2] 53) (flat_one [(q1, q2)]) (by unfold maxLen; omega) (by omega) HA.out ?_)
                      | go_in)
                    intro v5 w5 hown5 hgrow5 hnil5
                    have HJ6 : Hid (w5.ownsRow w.heap.size 53 2 v5 (j + (d + 1) + 1) (flat (l.take j ++ (x, y) :: (l.drop j).take (d + 1))) ∧ Below w.heap.size w w5) := by
                      refine ⟨?_, (HD.out.2.alloc HD.out.2.size _).grown hgrow5 HA.out (fun k hk => (HD.out.1.lt k hk).1)⟩
                      have e3 : l.take j ++ (x, y) :: ((l.drop j).take d ++ [(q1, q2)]) = (l.take j ++ (x, y) :: (l.drop j).take d) ++ [(q1, q2)] := by simp
                      rw [Htk.out, e3, flat_snoc, ← Nat.add_assoc, Hi.out]
                      exact hown5
                    clear hown5 hgrow5 hnil5
                    go_wp2
                    go_roundw
                    case rel => exact ⟨d + 1, by rw [← Nat.add_assoc, Hi.out]; go_num, by have := Hi.out; omega, HJ6.out⟩
                    case measure => simp [intOf]; omega
                  · have hin' : i = n := by omega
                    have HR : Hid (wr.ownsRow w.heap.size 53 2 u8 (n + 1) (flat R)) := by
                      have h1 := HD.out.1
                      have h2 : (l.drop j).take d = l.drop j := List.take_of_length_le (by have := Hi.out; have := Hn.out; simp; omega)
                      rw [h2, hin'] at h1
                      have h3 := He1.out
                      rw [Hm.out] at h3
                      show World.ownsRow _ _ _ _ _ _ _
                      rw [h3]
                      exact h1
                    obtain ⟨a', c', rfl, hRl, hsl⟩ := row_slP HR.out
                    have Hsl := Lib.hid hsl
                    have HRl := Lib.hid hRl
                    clear hsl hRl hin hd
                    go_wp2
                    go_ret
                    exact ⟨a', c', by rw [HRl.out]; rfl, Hsl.out, HD.out.2⟩
          · clear hq hlp
            go_wp2
            clear hc0 hc1 e1 e2 e3
            go_loopw [8, 9] (fun v i wr => ∃ j : Nat, i = .int .i64 j ∧ j ≤ k ∧ Hid (wr.ownsRow w.heap.size 53 2 v j (flat (l.take j)) ∧ Below w.heap.size w wr)) (fun _ i _ => k - (intOf i).toNat)
            case atStart => exact ⟨0, rfl, Nat.zero_le _, World.ownsRow_nil _ _ _ _, Below.refl _ _⟩
            case round =>
              obtain ⟨j, rfl, hj, HJ⟩ := hrel
              by_cases hjk : j < k
              · have hjl : j < l.length := by rw [Hn.out]; omega
                obtain ⟨b', off', e, hc0, hc1⟩ := (H.out.below HJ.out.2).at hjl
                cases e
                have htk : l.take (j + 1) = l.take j ++ [l.getD j (0, 0)] := by
                  rw [List.take_add_one, List.getElem?_eq_getElem hjl, List.getD_eq_getElem?_getD, List.getElem?_eq_getElem hjl]
                  rfl
                obtain ⟨q, hq⟩ : ∃ q, l.getD j (0, 0) = q := ⟨_, rfl⟩
                obtain ⟨q1, q2⟩ := q
                rw [hq] at hc0 hc1 htk
                simp only at hc0 hc1
                have Htk := Lib.hid htk
                have hjn : j < n := by omega
                have HA : Hid (w.heap.size ≤ (wr.alloc (.cells #[.int .i64 q1, .int .i64 q2] 53)).heap.size) := by
                  have h1 := HJ.out.2.size
                  show _ ≤ (World.alloc _ _).heap.size
                  simp
                  omega
                clear htk hq hjl
                go_wp2_with (first
                  | (at_builtin; refine wpList_append_own _ rfl _ _ 26 rfl w.heap.size 53 i0 (.agg #[.int .i64 0, .int .i64 0]) 2 16 Try.underlying26 hi hz0 hz1 hz2 rfl (by decide) u8 j (flat (l.take j)) rfl (HJ.out.1.alloc _) ⟨wr.heap.size, 0, none⟩ 1 1 [.int .i64 q1, .int .i64 q2] rfl rfl (news_new wr #[.int .i64 q1, .int .i64 q2] 53) (flat_one [(q1, q2)]) (by unfold maxLen; omega) (by omega) HA.out ?_)
                  | go_in)
                intro v5 w5 hown5 hgrow5 hnil5
                have HJ5 : Hid (w5.ownsRow w.heap.size 53 2 v5 (j + 1) (flat (l.take (j + 1))) ∧ Below w.heap.size w w5) := by
                  refine ⟨?_, (HJ.out.2.alloc HJ.out.2.size _).grown hgrow5 HA.out (fun k hk => (HJ.out.1.lt k hk).1)⟩
                  rw [Htk.out, flat_snoc]
                  exact hown5
                clear hown5 hgrow5 hnil5
                go_wp2
                go_roundw
                case rel => exact ⟨j + 1, by go_num, by omega, HJ5.out⟩
                case measure => simp [intOf]; omega
              · have hjk' : j = k := by omega
                subst hjk'
                have HA : Hid (w.heap.size ≤ (wr.alloc (.cells #[.int .i64 x, .int .i64 y] 53)).heap.size) := by
                  have h1 := HJ.out.2.size
                  show _ ≤ (World.alloc _ _).heap.size
                  simp
                  omega
                clear hj hjk
                go_wp2_with (first
                  | (at_builtin; refine wpList_append_own _ rfl _ _ 26 rfl w.heap.size 53 i0 (.agg #[.int .i64 0, .int .i64 0]) 2 16 Try.underlying26 hi hz0 hz1 hz2 rfl (by decide) u8 j (flat (l.take j)) rfl (HJ.out.1.alloc _) ⟨wr.heap.size, 0, none⟩ 1 1 [.int .i64 x, .int .i64 y] rfl rfl (news_new wr #[.int .i64 x, .int .i64 y] 53) (flat_one [(x, y)]) (by unfold maxLen; omega) (by omega) HA.out ?_)
                  | go_in)
                intro v5 w5 hown5 hgrow5 hnil5
                have HJ5 : Hid (w5.ownsRow w.heap.size 53 2 v5 (j + 1) (flat (l.take j ++ (x, y) :: (l.drop j).take 0)) ∧ Below w.heap.size w w5) := by
                  refine ⟨?_, (HJ.out.2.alloc HJ.out.2.size _).grown hgrow5 HA.out (fun k hk => (HJ.out.1.lt k hk).1)⟩
                  rw [List.take_zero, flat_snoc]
                  exact hown5
                clear hown5 hgrow5 hnil5 HA
                go_wp2
                try go_frame
                go_loopw [8, 10] (fun v i wr => ∃ d : Nat, i = .int .i64 ((j + d : Nat) : Int) ∧ j + d ≤ n ∧ Hid (wr.ownsRow w.heap.size 53 2 v (j + d + 1) (flat (l.take j ++ (x, y) :: (l.drop j).take d)) ∧ Below w.heap.size w wr)) (fun _ i _ => n - (intOf i).toNat)
                case atStart => exact ⟨0, rfl, by omega, HJ5.out⟩
                case round =>
                  obtain ⟨d, rfl, hd, HD⟩ := hrel
                  obtain ⟨i, hi'⟩ : ∃ i, j + d = i := ⟨_, rfl⟩
                  rw [hi'] at HD hd ⊢
                  have Hi := Lib.hid hi'
                  clear hi'
                  by_cases hin : i < n
                  · have hjl : i < l.length := by rw [Hn.out]; omega
                    obtain ⟨b', off', e, hc0, hc1⟩ := (H.out.below HD.out.2).at hjl
                    cases e
                    have htk : (l.drop j).take (d + 1) = (l.drop j).take d ++ [l.getD i (0, 0)] := by
                      rw [List.take_add_one, List.getElem?_drop, Hi.out, List.getElem?_eq_getElem hjl, List.getD_eq_getElem?_getD, List.getElem?_eq_getElem hjl]
                      rfl
                    obtain ⟨q, hq⟩ : ∃ q, l.getD i (0, 0) = q := ⟨_, rfl⟩
                    obtain ⟨q1, q2⟩ := q
                    rw [hq] at hc0 hc1 htk
                    simp only at hc0 hc1
                    have Htk := Lib.hid htk
                    have HA : Hid (w.heap.size ≤ (wr.alloc (.cells #[.int .i64 q1, .int .i64 q2] 53)).heap.size) := by
                      have h1 := HD.out.2.size
                      show _ ≤ (World.alloc _ _).heap.size
                      simp
                      omega
                    clear htk hq hjl
                    go_wp2_with (first
                      | (at_builtin; refine wpList_append_own _ rfl _ _ 26 rfl w.heap.size 53 i0 (.agg #[.int .i64 0, .int .i64 0]) 2 16 Try.underlying26 hi hz0 hz1 hz2 rfl (by decide) u8 (i + 1) (flat (l.take j ++ (x, y) :: (l.drop j).take d)) rfl (HD.out.1.alloc _) ⟨wr.heap.size, 0, none⟩ 1 1 [.int .i64 q1, .int .i64 q2] rfl rfl (news_new wr #[.int .i64 q1, .int .i64 q2] 53) (flat_one [(q1, q2)]) (by unfold maxLen; omega) (by omega) HA.out ?_)
                      | go_in)
                    intro v5 w5 hown5 hgrow5 hnil5
                    have HJ6 : Hid (w5.ownsRow w.heap.size 53 2 v5 (j + (d + 1) + 1) (flat (l.take j ++ (x, y) :: (l.drop j).take (d + 1))) ∧ Below w.heap.size w w5) := by
                      refine ⟨?_, (HD.out.2.alloc HD.out.2.size _).grown hgrow5 HA.out (fun k hk => (HD.out.1.lt k hk).1)⟩
                      have e3 : l.take j ++ (x, y) :: ((l.drop j).take d ++ [(q1, q2)]) = (l.take j ++ (x, y) :: (l.drop j).take d) ++ [(q1, q2)] := by simp
                      rw [Htk.out, e3, flat_snoc, ← Nat.add_assoc, Hi.out]
                      exact hown5
                    clear hown5 hgrow5 hnil5
                    go_wp2
                    go_roundw
                    case rel => exact ⟨d + 1, by rw [← Nat.add_assoc, Hi.out]; go_num, by have := Hi.out; omega, HJ6.out⟩
                    case measure => simp [intOf]; omega
                  · have hin' : i = n := by omega
                    have HR : Hid (wr.ownsRow w.heap.size 53 2 u8 (n + 1) (flat R)) := by
                      have h1 := HD.out.1
                      have h2 : (l.drop j).take d = l.drop j := List.take_of_length_le (by have := Hi.out; have := Hn.out; simp; omega)
                      rw [h2, hin'] at h1
                      have h3 := He1.out
                      rw [Hm.out] at h3
                      show World.ownsRow _ _ _ _ _ _ _
                      rw [h3]
                      exact h1
                    obtain ⟨a', c', rfl, hRl, hsl⟩ := row_slP HR.out
                    have Hsl := Lib.hid hsl
                    have HRl := Lib.hid hRl
                    clear hsl hRl hin hd
                    go_wp2
                    go_ret
                    exact ⟨a', c', by rw [HRl.out]; rfl, Hsl.out, HD.out.2⟩
        · go_wp2
          go_loopw [8, 9] (fun v i wr => ∃ j : Nat, i = .int .i64 j ∧ j ≤ k ∧ Hid (wr.ownsRow w.heap.size 53 2 v j (flat (l.take j)) ∧ Below w.heap.size w wr)) (fun _ i _ => k - (intOf i).toNat)
          case atStart => exact ⟨0, rfl, Nat.zero_le _, World.ownsRow_nil _ _ _ _, Below.refl _ _⟩
          case round =>
            obtain ⟨j, rfl, hj, HJ⟩ := hrel
            by_cases hjk : j < k
            · have hjl : j < l.length := by rw [Hn.out]; omega
              obtain ⟨b', off', e, hc0, hc1⟩ := (H.out.below HJ.out.2).at hjl
              cases e
              have htk : l.take (j + 1) = l.take j ++ [l.getD j (0, 0)] := by
                rw [List.take_add_one, List.getElem?_eq_getElem hjl, List.getD_eq_getElem?_getD, List.getElem?_eq_getElem hjl]
                rfl
              obtain ⟨q, hq⟩ : ∃ q, l.getD j (0, 0) = q := ⟨_, rfl⟩
              obtain ⟨q1, q2⟩ := q
              rw [hq] at hc0 hc1 htk
              simp only at hc0 hc1
              have Htk := Lib.hid htk
              have hjn : j < n := by omega
              have HA : Hid (w.heap.size ≤ (wr.alloc (.cells #[.int .i64 q1, .int .i64 q2] 53)).heap.size) := by
                have h1 := HJ.out.2.size
                show _ ≤ (World.alloc _ _).heap.size
                simp
                omega
              clear htk hq hjl
              go_wp2_with (first
                | (at_builtin; refine wpList_append_own _ rfl _ _ 26 rfl w.heap.size 53 i0 (.agg #[.int .i64 0, .int .i64 0]) 2 16 Try.underlying26 hi hz0 hz1 hz2 rfl (by decide) u8 j (flat (l.take j)) rfl (HJ.out.1.alloc _) ⟨wr.heap.size, 0, none⟩ 1 1 [.int .i64 q1, .int .i64 q2] rfl rfl (news_new wr #[.int .i64 q1, .int .i64 q2] 53) (flat_one [(q1, q2)]) (by unfold maxLen; omega) (by omega) HA.out ?_)
                | go_in)
              intro v5 w5 hown5 hgrow5 hnil5
              have HJ5 : Hid (w5.ownsRow w.heap.size 53 2 v5 (j + 1) (flat (l.take (j + 1))) ∧ Below w.heap.size w w5) := by
                refine ⟨?_, (HJ.out.2.alloc HJ.out.2.size _).grown hgrow5 HA.out (fun k hk => (HJ.out.1.lt k hk).1)⟩
                rw [Htk.out, flat_snoc]
                exact hown5
              clear hown5 hgrow5 hnil5
              go_wp2
              go_roundw
              case rel => exact ⟨j + 1, by go_num, by omega, HJ5.out⟩
              case measure => simp [intOf]; omega
            · have hjk' : j = k := by omega
              subst hjk'
              have HA : Hid (w.heap.size ≤ (wr.alloc (.cells #[.int .i64 x, .int .i64 y] 53)).heap.size) := by
                have h1 := HJ.out.2.size
                show _ ≤ (World.alloc _ _).heap.size
                simp
                omega
              clear hj hjk
              go_wp2_with (first
                | (at_builtin; refine wpList_append_own _ rfl _ _ 26 rfl w.heap.size 53 i0 (.agg #[.int .i64 0, .int .i64 0]) 2 16 Try.underlying26 hi hz0 hz1 hz2 rfl (by decide) u8 j (flat (l.take j)) rfl (HJ.out.1.alloc _) ⟨wr.heap.size, 0, none⟩ 1 1 [.int .i64 x, .int .i64 y] rfl rfl (news_new wr #[.int .i64 x, .int .i64 y] 53) (flat_one [(x, y)]) (by unfold maxLen; omega) (by omega) HA.out ?_)
                | go_in)
              intro v5 w5 hown5 hgrow5 hnil5
              have HJ5 : Hid (w5.ownsRow w.heap.size 53 2 v5 (j + 1) (flat (l.take j ++ (x, y) :: (l.drop j).take 0)) ∧ Below w.heap.size w w5) := by
                refine ⟨?_, (HJ.out.2.alloc HJ.out.2.size _).grown hgrow5 HA.out (fun k hk => (HJ.out.1.lt k hk).1)⟩
                rw [List.take_zero, flat_snoc]
                exact hown5
              clear hown5 hgrow5 hnil5 HA
              go_wp2
              try go_frame
              go_loopw [8, 10] (fun v i wr => ∃ d : Nat, i = .int .i64 ((j + d : Nat) : Int) ∧ j + d ≤ n ∧ Hid (wr.ownsRow w.heap.size 53 2 v (j + d + 1) (flat (l.take j ++ (x, y) :: (l.drop j).take d)) ∧ Below w.heap.size w wr)) (fun _ i _ => n - (intOf i).toNat)
              case atStart => exact ⟨0, rfl, by omega, HJ5.out⟩
              case round =>
                obtain ⟨d, rfl, hd, HD⟩ := hrel
                obtain ⟨i, hi'⟩ : ∃ i, j + d = i := ⟨_, rfl⟩
                rw [hi'] at HD hd ⊢
                have Hi := Lib.hid hi'
                clear hi'
                by_cases hin : i < n
                · have hjl : i < l.length := by rw [Hn.out]; omega
                  obtain ⟨b', off', e, hc0, hc1⟩ := (H.out.below HD.out.2).at hjl
                  cases e
                  have htk : (l.drop j).take (d + 1) = (l.drop j).take d ++ [l.getD i (0, 0)] := by
                    rw [List.take_add_one, List.getElem?_drop, Hi.out, List.getElem?_eq_getElem hjl, List.getD_eq_getElem?_getD, List.getElem?_eq_getElem hjl]
                    rfl
                  obtain ⟨q, hq⟩ : ∃ q, l.getD i (0, 0) = q := ⟨_, rfl⟩
                  obtain ⟨q1, q2⟩ := q
                  rw [hq] at hc0 hc1 htk
                  simp only at hc0 hc1
                  have Htk := Lib.hid htk
                  have HA : Hid (w.heap.size ≤ (wr.alloc (.cells #[.int .i64 q1, .int .i64 q2] 53)).heap.size) := by
                    have h1 := HD.out.2.size
                    show _ ≤ (World.alloc _ _).heap.size
                    simp
                    omega
                  clear htk hq hjl
                  go_wp2_with (first
                    | (at_builtin; refine wpList_append_own _ rfl _ _ 26 rfl w.heap.size 53 i0 (.agg #[.int .i64 0, .int .i64 0]) 2 16 Try.underlying26 hi hz0 hz1 hz2 rfl (by decide) u8 (i + 1) (flat (l.take j ++ (x, y) :: (l.drop j).take d)) rfl (HD.out.1.alloc _) ⟨wr.heap.size, 0, none⟩ 1 1 [.int .i64 q1, .int .i64 q2] rfl rfl (news_new wr #[.int .i64 q1, .int .i64 q2] 53) (flat_one [(q1, q2)]) (by unfold maxLen; omega) (by omega) HA.out ?_)
                    | go_in)
                  intro v5 w5 hown5 hgrow5 hnil5
                  have HJ6 : Hid (w5.ownsRow w.heap.size 53 2 v5 (j + (d + 1) + 1) (flat (l.take j ++ (x, y) :: (l.drop j).take (d + 1))) ∧ Below w.heap.size w w5) := by
                    refine ⟨?_, (HD.out.2.alloc HD.out.2.size _).grown hgrow5 HA.out (fun k hk => (HD.out.1.lt k hk).1)⟩
                    have e3 : l.take j ++ (x, y) :: ((l.drop j).take d ++ [(q1, q2)]) = (l.take j ++ (x, y) :: (l.drop j).take d) ++ [(q1, q2)] := by simp
                    rw [Htk.out, e3, flat_snoc, ← Nat.add_assoc, Hi.out]
                    exact hown5
                  clear hown5 hgrow5 hnil5
                  go_wp2
                  go_roundw
                  case rel => exact ⟨d + 1, by rw [← Nat.add_assoc, Hi.out]; go_num, by have := Hi.out; omega, HJ6.out⟩
                  case measure => simp [intOf]; omega
                · have hin' : i = n := by omega
                  have HR : Hid (wr.ownsRow w.heap.size 53 2 u8 (n + 1) (flat R)) := by
                    have h1 := HD.out.1
                    have h2 : (l.drop j).take d = l.drop j := List.take_of_length_le (by have := Hi.out; have := Hn.out; simp; omega)
                    rw [h2, hin'] at h1
                    have h3 := He1.out
                    rw [Hm.out] at h3
                    show World.ownsRow _ _ _ _ _ _ _
                    rw [h3]
                    exact h1
                  obtain ⟨a', c', rfl, hRl, hsl⟩ := row_slP HR.out
                  have Hsl := Lib.hid hsl
                  have HRl := Lib.hid hRl
                  clear hsl hRl hin hd
                  go_wp2
                  go_ret
                  exact ⟨a', c', by rw [HRl.out]; rfl, Hsl.out, HD.out.2⟩
end Go.Proofs.Ytadlgkakjaecdaa
