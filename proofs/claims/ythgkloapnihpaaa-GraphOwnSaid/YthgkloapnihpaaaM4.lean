/- Helpers, joined: Dc, Dd, Dg, Dn. -/
import Derived.Test.YthgkloapnihpaaaM1
import Derived.Test.YthgkloapnihpaaaM3
import Derived.Deep.AppendLies

/- The document's number laid in, and where what it answers lies. -/
namespace Go.Proofs.Ythgkloapnihpaaa
open Go.RowKit Go.Maps Go.WideMaps Go.WideElems Go.ChangeShapes Go.WideShapes

theorem ownsRow_below {W W' : World} {B e size n : Nat} {v : Value} {xs : List Value} (h : W.ownsRow B e size v n xs) (hb : Below W.heap.size W W') : W'.ownsRow B e size v n xs := row_kept h hb

set_option maxHeartbeats 4000000 in
set_option maxRecDepth 100000 in
theorem puti_at (a : Option Addr) (c : Nat) (l : List Int) (x : Int) (hn : l.length ≤ 100000) (w : World) (h : SlI w a l) :
    Calls Try.prog 42 #[.slice a l.length c, .int .i64 x] w fun e w' => ∃ a' c', e = .returned (.slice a' (putI l x).length c') ∧ Hid (SlI w' a' (putI l x) ∧ Below w.heap.size w w' ∧ (a' = a ∨ ∀ g o, a' = some ⟨g, o, none⟩ → w.heap.size ≤ g)) := by
  obtain ⟨i0, hi, hz0, hz1, hz2⟩ := info_parts elem3
  obtain ⟨n, hnn⟩ : ∃ n, l.length = n := ⟨_, rfl⟩
  obtain ⟨m, hm⟩ : ∃ m, lessN x l = m := ⟨_, rfl⟩
  have Hmn : Hid (m ≤ n) := by show _ ≤ _; rw [← hm, ← hnn]; exact lessN_le _ _
  obtain ⟨R, hR⟩ : ∃ R, putI l x = R := ⟨_, rfl⟩
  have He : Hid (R = if m < n ∧ l.getD m 0 = x then l else l.take m ++ x :: l.drop m) := by
    show _ = _
    rw [← hR, ← hm, ← hnn]; rfl
  rw [hnn] at hn
  rw [hR, hnn]
  have H := Lib.hid h
  have Hn := Lib.hid hnn
  have Hm := Lib.hid hm
  clear h hnn hR hm
  go_enter Try.func42, Try.ntmps42
  go_wp2
  go_loop [5] (fun i => ∃ k : Nat, k ≤ m ∧ i = .int .i64 k) (fun i => n - (intOf i).toNat)
  case atStart => exact ⟨0, Nat.zero_le _, rfl⟩
  case round =>
    obtain ⟨k, hk, rfl⟩ := hrel
    have hmn := Hmn.out
    by_cases hlt : k < m
    · obtain ⟨hkl, hlp⟩ := lessN_lt (x := x) (l := l) (k := k) (by rw [Hm.out]; exact hlt)
      obtain ⟨b, off, rfl, hc0⟩ := H.out.at hkl
      rw [Hn.out] at hkl
      obtain ⟨q, hq⟩ : ∃ q, l.getD k 0 = q := ⟨_, rfl⟩
      rw [hq] at hc0 hlp
      have e1 : decide (q < x) = true := by simpa using hlp
      clear hq hlp
      go_wp2
      go_round
      case rel => exact ⟨k + 1, by omega, by go_num⟩
      case measure => simp [intOf]; omega
    · have hkm : k = m := by omega
      subst hkm
      by_cases hkl : k < n
      · have hlp := lessN_stop (x := x) (l := l) (by rw [Hm.out, Hn.out]; exact hkl)
        rw [Hm.out] at hlp
        obtain ⟨b, off, rfl, hc0⟩ := H.out.at (k := k) (by rw [Hn.out]; exact hkl)
        obtain ⟨q, hq⟩ : ∃ q, l.getD k 0 = q := ⟨_, rfl⟩
        have he := He.out
        rw [hq] at hc0 hlp he
        have e1 : decide (q < x) = false := by simp; omega
        by_cases hqx : q = x
        · rw [if_pos ⟨hkl, hqx⟩] at he
          have HE := Lib.hid he
          have e2 : (q == x) = true := by simpa using hqx
          clear hq hlp he hqx
          go_wp2
          go_ret
          rw [HE.out, Hn.out]
          exact ⟨some ⟨b, off, none⟩, ⟨c, rfl⟩, H.out, Below.refl _ _, .inl rfl⟩
        · rw [if_neg (fun e => hqx e.2)] at he
          have HE := Lib.hid he
          have e2 : (q == x) = false := by simpa using hqx
          clear hq hlp he hqx
          go_wp2
          clear hc0 e1 e2
          go_loopw [6, 7] (fun v i wr => ∃ j : Nat, i = .int .i64 j ∧ j ≤ k ∧ Hid (wr.ownsRow w.heap.size 3 1 v j (intsC (l.take j)) ∧ Below w.heap.size w wr)) (fun _ i _ => k - (intOf i).toNat)
          case atStart => exact ⟨0, rfl, Nat.zero_le _, World.ownsRow_nil _ _ _ _, Below.refl _ _⟩
          case round =>
            obtain ⟨j, rfl, hj, HJ⟩ := hrel
            by_cases hjk : j < k
            · have hjl : j < l.length := by rw [Hn.out]; omega
              obtain ⟨b', off', e, hc0⟩ := (H.out.below (grown_below HJ.out.2)).at hjl
              try cases e
              have htk : l.take (j + 1) = l.take j ++ [l.getD j 0] := by
                rw [List.take_add_one, List.getElem?_eq_getElem hjl, List.getD_eq_getElem?_getD, List.getElem?_eq_getElem hjl]
                rfl
              obtain ⟨q, hq⟩ : ∃ q, l.getD j 0 = q := ⟨_, rfl⟩
              rw [hq] at hc0 htk
              have Htk := Lib.hid htk
              have hjn : j < n := by omega
              have HA : Hid (w.heap.size ≤ (wr.alloc (.cells #[.int .i64 q] 3)).heap.size) := by
                have h1 := HJ.out.2.size
                show _ ≤ (World.alloc _ _).heap.size
                simp
                omega
              clear htk hq hjl
              go_wp2_with (first
                | (at_builtin; refine wpList_append_own _ rfl _ _ 23 rfl w.heap.size 3 i0 (.int .i64 0) 1 8 Try.underlying23 hi hz0 hz1 hz2 rfl (by decide) u6 j (intsC (l.take j)) rfl (HJ.out.1.alloc _) ⟨wr.heap.size, 0, none⟩ 1 1 [.int .i64 q] rfl rfl (news_new wr #[.int .i64 q] 3) (intsC_one [q]) (by unfold maxLen; omega) (by omega) HA.out ?_)
                | go_in)
              intro v5 w5 hown5 hgrow5 hnil5
              have HJ5 : Hid (w5.ownsRow w.heap.size 3 1 v5 (j + 1) (intsC (l.take (j + 1))) ∧ Below w.heap.size w w5) := by
                refine ⟨?_, (HJ.out.2.alloc HJ.out.2.size _).grown hgrow5 HA.out (fun k hk => (HJ.out.1.lt k hk).1)⟩
                rw [Htk.out, intsC_snoc]
                exact hown5
              clear hown5 hgrow5 hnil5
              go_wp2
              go_roundw
              case rel => exact ⟨j + 1, by go_num, by omega, HJ5.out⟩
              case measure => simp [intOf]; omega
            · have hjk' : j = k := by omega
              subst hjk'
              have HA : Hid (w.heap.size ≤ (wr.alloc (.cells #[.int .i64 x] 3)).heap.size) := by
                have h1 := HJ.out.2.size
                show _ ≤ (World.alloc _ _).heap.size
                simp
                omega
              clear hj hjk
              go_wp2_with (first
                | (at_builtin; refine wpList_append_own _ rfl _ _ 23 rfl w.heap.size 3 i0 (.int .i64 0) 1 8 Try.underlying23 hi hz0 hz1 hz2 rfl (by decide) u6 j (intsC (l.take j)) rfl (HJ.out.1.alloc _) ⟨wr.heap.size, 0, none⟩ 1 1 [.int .i64 x] rfl rfl (news_new wr #[.int .i64 x] 3) (intsC_one [x]) (by unfold maxLen; omega) (by omega) HA.out ?_)
                | go_in)
              intro v5 w5 hown5 hgrow5 hnil5
              have HJ5 : Hid (w5.ownsRow w.heap.size 3 1 v5 (j + 1) (intsC (l.take j ++ x :: (l.drop j).take 0)) ∧ Below w.heap.size w w5) := by
                refine ⟨?_, (HJ.out.2.alloc HJ.out.2.size _).grown hgrow5 HA.out (fun k hk => (HJ.out.1.lt k hk).1)⟩
                rw [List.take_zero, intsC_snoc]
                exact hown5
              clear hown5 hgrow5 hnil5 HA
              go_wp2
              try go_frame
              go_loopw [6, 8] (fun v i wr => ∃ d : Nat, i = .int .i64 ((j + d : Nat) : Int) ∧ j + d ≤ n ∧ Hid (wr.ownsRow w.heap.size 3 1 v (j + d + 1) (intsC (l.take j ++ x :: (l.drop j).take d)) ∧ Below w.heap.size w wr)) (fun _ i _ => n - (intOf i).toNat)
              case atStart => exact ⟨0, rfl, by omega, HJ5.out⟩
              case round =>
                obtain ⟨d, rfl, hd, HD⟩ := hrel
                obtain ⟨i, hi'⟩ : ∃ i, j + d = i := ⟨_, rfl⟩
                rw [hi'] at HD hd ⊢
                have Hi := Lib.hid hi'
                clear hi'
                by_cases hin : i < n
                · have hjl : i < l.length := by rw [Hn.out]; omega
                  obtain ⟨b', off', e, hc0⟩ := (H.out.below (grown_below HD.out.2)).at hjl
                  try cases e
                  have htk : (l.drop j).take (d + 1) = (l.drop j).take d ++ [l.getD i 0] := by
                    rw [List.take_add_one, List.getElem?_drop, Hi.out, List.getElem?_eq_getElem hjl, List.getD_eq_getElem?_getD, List.getElem?_eq_getElem hjl]
                    rfl
                  obtain ⟨q, hq⟩ : ∃ q, l.getD i 0 = q := ⟨_, rfl⟩
                  rw [hq] at hc0 htk
                  have Htk := Lib.hid htk
                  have HA : Hid (w.heap.size ≤ (wr.alloc (.cells #[.int .i64 q] 3)).heap.size) := by
                    have h1 := HD.out.2.size
                    show _ ≤ (World.alloc _ _).heap.size
                    simp
                    omega
                  clear htk hq hjl
                  go_wp2_with (first
                    | (at_builtin; refine wpList_append_own _ rfl _ _ 23 rfl w.heap.size 3 i0 (.int .i64 0) 1 8 Try.underlying23 hi hz0 hz1 hz2 rfl (by decide) u6 (i + 1) (intsC (l.take j ++ x :: (l.drop j).take d)) rfl (HD.out.1.alloc _) ⟨wr.heap.size, 0, none⟩ 1 1 [.int .i64 q] rfl rfl (news_new wr #[.int .i64 q] 3) (intsC_one [q]) (by unfold maxLen; omega) (by omega) HA.out ?_)
                    | go_in)
                  intro v5 w5 hown5 hgrow5 hnil5
                  have HJ6 : Hid (w5.ownsRow w.heap.size 3 1 v5 (j + (d + 1) + 1) (intsC (l.take j ++ x :: (l.drop j).take (d + 1))) ∧ Below w.heap.size w w5) := by
                    refine ⟨?_, (HD.out.2.alloc HD.out.2.size _).grown hgrow5 HA.out (fun k hk => (HD.out.1.lt k hk).1)⟩
                    have e3 : l.take j ++ x :: ((l.drop j).take d ++ [q]) = (l.take j ++ x :: (l.drop j).take d) ++ [q] := by simp
                    rw [Htk.out, e3, intsC_snoc, ← Nat.add_assoc, Hi.out]
                    exact hown5
                  clear hown5 hgrow5 hnil5
                  go_wp2
                  go_roundw
                  case rel => exact ⟨d + 1, by rw [← Nat.add_assoc, Hi.out]; go_num, by have := Hi.out; omega, HJ6.out⟩
                  case measure => simp [intOf]; omega
                · have hin' : i = n := by omega
                  have HR : Hid (wr.ownsRow w.heap.size 3 1 u6 (n + 1) (intsC R)) := by
                    have h1 := HD.out.1
                    have h2 : (l.drop j).take d = l.drop j := List.take_of_length_le (by have := Hi.out; have := Hn.out; simp; omega)
                    rw [h2, hin'] at h1
                    show World.ownsRow _ _ _ _ _ _ _
                    rw [HE.out]
                    exact h1
                  obtain ⟨a', c', rfl, hRl, hsl⟩ := row_slI HR.out
                  have HN : Hid (∀ g o, a' = some ⟨g, o, none⟩ → w.heap.size ≤ g) := fun g o e => (HR.out.lt g (by rw [e]; rfl)).1
                  have Hsl := Lib.hid hsl
                  have HRl := Lib.hid hRl
                  clear hsl hRl hin hd
                  go_wp2
                  go_ret
                  exact ⟨a', c', by rw [HRl.out]; rfl, Hsl.out, HD.out.2, .inr HN.out⟩
      · have he := He.out
        rw [if_neg (fun e => hkl e.1)] at he
        have HE := Lib.hid he
        clear he
        go_wp2
        go_loopw [6, 7] (fun v i wr => ∃ j : Nat, i = .int .i64 j ∧ j ≤ k ∧ Hid (wr.ownsRow w.heap.size 3 1 v j (intsC (l.take j)) ∧ Below w.heap.size w wr)) (fun _ i _ => k - (intOf i).toNat)
        case atStart => exact ⟨0, rfl, Nat.zero_le _, World.ownsRow_nil _ _ _ _, Below.refl _ _⟩
        case round =>
          obtain ⟨j, rfl, hj, HJ⟩ := hrel
          by_cases hjk : j < k
          · have hjl : j < l.length := by rw [Hn.out]; omega
            obtain ⟨b', off', e, hc0⟩ := (H.out.below (grown_below HJ.out.2)).at hjl
            try cases e
            have htk : l.take (j + 1) = l.take j ++ [l.getD j 0] := by
              rw [List.take_add_one, List.getElem?_eq_getElem hjl, List.getD_eq_getElem?_getD, List.getElem?_eq_getElem hjl]
              rfl
            obtain ⟨q, hq⟩ : ∃ q, l.getD j 0 = q := ⟨_, rfl⟩
            rw [hq] at hc0 htk
            have Htk := Lib.hid htk
            have hjn : j < n := by omega
            have HA : Hid (w.heap.size ≤ (wr.alloc (.cells #[.int .i64 q] 3)).heap.size) := by
              have h1 := HJ.out.2.size
              show _ ≤ (World.alloc _ _).heap.size
              simp
              omega
            clear htk hq hjl
            go_wp2_with (first
              | (at_builtin; refine wpList_append_own _ rfl _ _ 23 rfl w.heap.size 3 i0 (.int .i64 0) 1 8 Try.underlying23 hi hz0 hz1 hz2 rfl (by decide) u6 j (intsC (l.take j)) rfl (HJ.out.1.alloc _) ⟨wr.heap.size, 0, none⟩ 1 1 [.int .i64 q] rfl rfl (news_new wr #[.int .i64 q] 3) (intsC_one [q]) (by unfold maxLen; omega) (by omega) HA.out ?_)
              | go_in)
            intro v5 w5 hown5 hgrow5 hnil5
            have HJ5 : Hid (w5.ownsRow w.heap.size 3 1 v5 (j + 1) (intsC (l.take (j + 1))) ∧ Below w.heap.size w w5) := by
              refine ⟨?_, (HJ.out.2.alloc HJ.out.2.size _).grown hgrow5 HA.out (fun k hk => (HJ.out.1.lt k hk).1)⟩
              rw [Htk.out, intsC_snoc]
              exact hown5
            clear hown5 hgrow5 hnil5
            go_wp2
            go_roundw
            case rel => exact ⟨j + 1, by go_num, by omega, HJ5.out⟩
            case measure => simp [intOf]; omega
          · have hjk' : j = k := by omega
            subst hjk'
            have HA : Hid (w.heap.size ≤ (wr.alloc (.cells #[.int .i64 x] 3)).heap.size) := by
              have h1 := HJ.out.2.size
              show _ ≤ (World.alloc _ _).heap.size
              simp
              omega
            clear hj hjk
            go_wp2_with (first
              | (at_builtin; refine wpList_append_own _ rfl _ _ 23 rfl w.heap.size 3 i0 (.int .i64 0) 1 8 Try.underlying23 hi hz0 hz1 hz2 rfl (by decide) u6 j (intsC (l.take j)) rfl (HJ.out.1.alloc _) ⟨wr.heap.size, 0, none⟩ 1 1 [.int .i64 x] rfl rfl (news_new wr #[.int .i64 x] 3) (intsC_one [x]) (by unfold maxLen; omega) (by omega) HA.out ?_)
              | go_in)
            intro v5 w5 hown5 hgrow5 hnil5
            have HJ5 : Hid (w5.ownsRow w.heap.size 3 1 v5 (j + 1) (intsC (l.take j ++ x :: (l.drop j).take 0)) ∧ Below w.heap.size w w5) := by
              refine ⟨?_, (HJ.out.2.alloc HJ.out.2.size _).grown hgrow5 HA.out (fun k hk => (HJ.out.1.lt k hk).1)⟩
              rw [List.take_zero, intsC_snoc]
              exact hown5
            clear hown5 hgrow5 hnil5 HA
            go_wp2
            try go_frame
            go_loopw [6, 8] (fun v i wr => ∃ d : Nat, i = .int .i64 ((j + d : Nat) : Int) ∧ j + d ≤ n ∧ Hid (wr.ownsRow w.heap.size 3 1 v (j + d + 1) (intsC (l.take j ++ x :: (l.drop j).take d)) ∧ Below w.heap.size w wr)) (fun _ i _ => n - (intOf i).toNat)
            case atStart => exact ⟨0, rfl, by omega, HJ5.out⟩
            case round =>
              obtain ⟨d, rfl, hd, HD⟩ := hrel
              obtain ⟨i, hi'⟩ : ∃ i, j + d = i := ⟨_, rfl⟩
              rw [hi'] at HD hd ⊢
              have Hi := Lib.hid hi'
              clear hi'
              by_cases hin : i < n
              · have hjl : i < l.length := by rw [Hn.out]; omega
                obtain ⟨b', off', e, hc0⟩ := (H.out.below (grown_below HD.out.2)).at hjl
                try cases e
                have htk : (l.drop j).take (d + 1) = (l.drop j).take d ++ [l.getD i 0] := by
                  rw [List.take_add_one, List.getElem?_drop, Hi.out, List.getElem?_eq_getElem hjl, List.getD_eq_getElem?_getD, List.getElem?_eq_getElem hjl]
                  rfl
                obtain ⟨q, hq⟩ : ∃ q, l.getD i 0 = q := ⟨_, rfl⟩
                rw [hq] at hc0 htk
                have Htk := Lib.hid htk
                have HA : Hid (w.heap.size ≤ (wr.alloc (.cells #[.int .i64 q] 3)).heap.size) := by
                  have h1 := HD.out.2.size
                  show _ ≤ (World.alloc _ _).heap.size
                  simp
                  omega
                clear htk hq hjl
                go_wp2_with (first
                  | (at_builtin; refine wpList_append_own _ rfl _ _ 23 rfl w.heap.size 3 i0 (.int .i64 0) 1 8 Try.underlying23 hi hz0 hz1 hz2 rfl (by decide) u6 (i + 1) (intsC (l.take j ++ x :: (l.drop j).take d)) rfl (HD.out.1.alloc _) ⟨wr.heap.size, 0, none⟩ 1 1 [.int .i64 q] rfl rfl (news_new wr #[.int .i64 q] 3) (intsC_one [q]) (by unfold maxLen; omega) (by omega) HA.out ?_)
                  | go_in)
                intro v5 w5 hown5 hgrow5 hnil5
                have HJ6 : Hid (w5.ownsRow w.heap.size 3 1 v5 (j + (d + 1) + 1) (intsC (l.take j ++ x :: (l.drop j).take (d + 1))) ∧ Below w.heap.size w w5) := by
                  refine ⟨?_, (HD.out.2.alloc HD.out.2.size _).grown hgrow5 HA.out (fun k hk => (HD.out.1.lt k hk).1)⟩
                  have e3 : l.take j ++ x :: ((l.drop j).take d ++ [q]) = (l.take j ++ x :: (l.drop j).take d) ++ [q] := by simp
                  rw [Htk.out, e3, intsC_snoc, ← Nat.add_assoc, Hi.out]
                  exact hown5
                clear hown5 hgrow5 hnil5
                go_wp2
                go_roundw
                case rel => exact ⟨d + 1, by rw [← Nat.add_assoc, Hi.out]; go_num, by have := Hi.out; omega, HJ6.out⟩
                case measure => simp [intOf]; omega
              · have hin' : i = n := by omega
                have HR : Hid (wr.ownsRow w.heap.size 3 1 u6 (n + 1) (intsC R)) := by
                  have h1 := HD.out.1
                  have h2 : (l.drop j).take d = l.drop j := List.take_of_length_le (by have := Hi.out; have := Hn.out; simp; omega)
                  rw [h2, hin'] at h1
                  show World.ownsRow _ _ _ _ _ _ _
                  rw [HE.out]
                  exact h1
                obtain ⟨a', c', rfl, hRl, hsl⟩ := row_slI HR.out
                have HN : Hid (∀ g o, a' = some ⟨g, o, none⟩ → w.heap.size ≤ g) := fun g o e => (HR.out.lt g (by rw [e]; rfl)).1
                have Hsl := Lib.hid hsl
                have HRl := Lib.hid hRl
                clear hsl hRl hin hd
                go_wp2
                go_ret
                exact ⟨a', c', by rw [HRl.out]; rfl, Hsl.out, HD.out.2, .inr HN.out⟩

/-- A slice of numbers stays where another block is written. -/
theorem SlI.keep {W W' : World} {a : Option Addr} {l : List Int} {row : Option Nat} (h : SlI W a l) (hg : W.grownBy W' row) (hr : ∀ g o k, a = some ⟨g, o, none⟩ → row = some k → g ≠ k) : SlI W' a l := by
  rcases h with h | ⟨b, off, e, hl, h⟩
  · exact .inl h
  · refine .inr ⟨b, off, e, fun hx => Nat.lt_of_lt_of_le (hl hx) hg.size, fun k x hk => ?_⟩
    exact hg.cell (h k x hk) (fun e2 => hr b off b e e2.symm rfl)
/-- A list of numbers, not empty or of unknown place, lies below the heap's end. -/
theorem SlI.lt {W : World} {g o : Nat} {l : List Int} (h : SlI W (some ⟨g, o, none⟩) l) (hl : l ≠ []) : g < W.heap.size := by
  rcases h with h | ⟨b, off, e, hb, _⟩
  · exact absurd h hl
  · cases e; exact hb hl
end Go.Proofs.Ythgkloapnihpaaa

/- The document's search, by a contract. -/
namespace Go.Proofs.Ythgkloapnihpaaa
open Go.RowKit Go.Maps Go.WideMaps Go.WideElems Go.ChangeShapes Go.WideShapes

structure R1 (w : World) (l : List Pr) (x : Int) (k : Nat) (out D : List Int) (a5 : Option Addr) (m g nt ct : Nat) (W : World) : Prop where
  rch : Rch l x k out D
  hm : out.length = m
  hnt : D.length + 1 = nt
  sl : SlI W a5 out
  row : W.ownsRow w.heap.size 3 1 (.slice (some ⟨g, 0, none⟩) nt ct) nt (intsC (x :: D))
  apart : ∀ o, a5 ≠ some ⟨g, o, none⟩
  below : Below w.heap.size w W
  new : ∀ g o, a5 = some ⟨g, o, none⟩ → w.heap.size ≤ g

set_option maxHeartbeats 4000000 in
set_option maxRecDepth 100000 in
theorem reach_any (a : Option Addr) (c : Nat) (l : List Pr) (x : Int) (hn : l.length ≤ 10000) (w : World) (h : SlP w a l) :
    Calls Try.prog 49 #[.slice a l.length c, .int .i64 x] w fun e w' => ∃ a' c' n' out, e = .returned (.slice a' n' c') ∧ Hid (out.length = n' ∧ RiseI out ∧ (∀ z, z ∈ out ↔ TC l x z) ∧ SlI w' a' out ∧ Below w.heap.size w w' ∧ ∀ g o, a' = some ⟨g, o, none⟩ → w.heap.size ≤ g) := by
  obtain ⟨i3, hi3, hz0, hz1, hz2⟩ := info_parts elem3
  obtain ⟨n, hnn⟩ : ∃ n, l.length = n := ⟨_, rfl⟩
  rw [hnn] at hn ⊢
  have H := Lib.hid h
  have Hn := Lib.hid hnn
  obtain ⟨W1, hW1⟩ : ∃ W, w.alloc (.cells #[.int .i64 x] 3) = W := ⟨_, rfl⟩
  have HT : Hid (W1.ownsRow w.heap.size 3 1 (.slice (some ⟨w.heap.size, 0, none⟩) 1 1) 1 (intsC [x]) ∧ Below w.heap.size w W1) := by
    rw [← hW1]
    exact ⟨⟨rfl, .inr ⟨w.heap.size, 1, #[.int .i64 x], rfl, Nat.le_refl _, World.alloc_heap_new w _, Nat.le_refl _, by decide, rfl, rfl⟩⟩, (Below.refl _ _).alloc (Nat.le_refl _) _⟩
  clear h hnn
  go_enter Try.func49, Try.ntmps49
  go_wp2
  go_loopw [5, 6, 7] (fun o t i wr => ∃ (k : Nat) (a5 : Option Addr) (m c5 g nt ct : Nat) (out D : List Int), i = .int .i64 k ∧ o = .slice a5 m c5 ∧ t = .slice (some ⟨g, 0, none⟩) nt ct ∧ k ≤ nt ∧ nt ≤ n + 1 ∧ Hid (R1 w l x k out D a5 m g nt ct wr)) (fun _ _ i _ => n + 1 - (intOf i).toNat)
  case atStart => exact ⟨0, none, 0, 0, w.heap.size, 1, 1, [], [], rfl, rfl, rfl, by omega, by omega, Rch.start l x, rfl, rfl, .inl rfl, HT.out.1, by simp, HT.out.2, by simp⟩
  case round =>
    obtain ⟨k, a5, m, c5, g, nt, ct, out, D, rfl, rfl, rfl, hk, hnt, HR⟩ := hrel
    by_cases hlt : k < nt
    · obtain ⟨t, ht⟩ : ∃ t, (x :: D).getD k 0 = t := ⟨_, rfl⟩
      have Ht := Lib.hid ht
      clear ht
      go_wp2
      try go_frame
      go_loopw [5, 6, 8] (fun o t' i wr => ∃ (j : Nat) (a5 : Option Addr) (m c5 g nt ct : Nat) (out D : List Int), i = .int .i64 j ∧ o = .slice a5 m c5 ∧ t' = .slice (some ⟨g, 0, none⟩) nt ct ∧ k < nt ∧ nt ≤ n + 1 ∧ j ≤ n ∧ Hid (R1 w l x k out D a5 m g nt ct wr ∧ (x :: D).getD k 0 = t ∧ ∀ p ∈ l.take j, p.1 = t → p.2 ∈ out)) (fun _ _ i _ => n - (intOf i).toNat)
      case atStart => exact ⟨0, a5, m, c5, g, nt, ct, out, D, rfl, rfl, rfl, hlt, hnt, Nat.zero_le _, HR.out, Ht.out, by simp⟩
      case round =>
        clear HR Ht hk hlt hnt
        obtain ⟨j, a5, m, c5, g, nt, ct, out, D, rfl, rfl, rfl, hlt, hnt, hj, HR⟩ := hrel
        by_cases hjn : j < n
        · have hjl : j < l.length := by rw [Hn.out]; exact hjn
          obtain ⟨b', off', rfl, hc0, hc1⟩ := (H.out.below HR.out.1.below).at hjl
          have HC : Hid (∀ W, Below w.heap.size w W → W.cell? ⟨b', off' + j * 2, none⟩ = some (.int .i64 (l.getD j (0, 0)).1) ∧ W.cell? ⟨b', off' + j * 2 + 1, none⟩ = some (.int .i64 (l.getD j (0, 0)).2)) := fun W hW => by
            obtain ⟨b1, off1, e, d0, d1⟩ := (H.out.below hW).at hjl
            cases e
            exact ⟨d0, d1⟩
          have Htk := Lib.hid (take_one hjl)
          have hmem : l.getD j (0, 0) ∈ l := by
            rw [List.getD_eq_getElem?_getD, List.getElem?_eq_getElem hjl]
            exact List.getElem_mem hjl
          obtain ⟨q, hq⟩ : ∃ q, l.getD j (0, 0) = q := ⟨_, rfl⟩
          obtain ⟨q1, q2⟩ := q
          rw [hq] at hc0 hc1 HC Htk hmem
          simp only at hc0 hc1 HC
          have Hmem := Lib.hid hmem
          have hkD : k < (x :: D).length := by rw [List.length_cons, HR.out.1.hnt]; exact hlt
          have hxk : (x :: D)[k] = t := by
            have h1 := HR.out.2.1
            rw [List.getD_eq_getElem?_getD, List.getElem?_eq_getElem hkD] at h1
            exact h1
          have d0 : wr.cell? ⟨g, k, none⟩ = some (.int .i64 t) := by
            rw [HR.out.1.row.cellAt k (by omega), intsC_get _ k hkD, hxk]
          have Htm : Hid (t ∈ x :: D) := by show _ ∈ _; rw [← hxk]; exact List.getElem_mem hkD
          clear hq hmem hjl hkD hxk
          go_wp2
          go_region_held3 (fun w' => w'.cell? ⟨b', off' + j * 2, none⟩ = some (.int .i64 q1) ∧ w'.cell? ⟨b', off' + j * 2 + 1, none⟩ = some (.int .i64 q2) ∧ w'.cell? ⟨g, k, none⟩ = some (.int .i64 t)) (go_keep) (fail)
          try clear hHeld
          clear hc0 hc1 d0
          by_cases hqt : q1 = t
          · have e1 : (q1 == t) = true := by simpa using hqt
            have Hqt := Lib.hid hqt
            obtain ⟨s0, s1⟩ := HC.out wr.drew HR.out.1.below.drew
            have hsl : SlI wr.drew a5 out := HR.out.1.sl
            have hmb : m ≤ n := by rw [← HR.out.1.hm, ← Hn.out]; exact HR.out.1.rch.bound
            have Hput := Lib.hid (puti_at a5 c5 out q2 (by rw [HR.out.1.hm]; omega) wr.drew hsl)
            rw [HR.out.1.hm] at Hput
            by_cases hin : q2 ∈ out
            · rw [putI_in HR.out.1.rch.rise hin, HR.out.1.hm] at Hput
              have Hin := Lib.hid hin
              clear hin hsl hmb hqt
              go_wp2_with (first
                | (go_at_call 42; refine Hput.out.mono ?_; rintro e w5 ⟨a7, c7, rfl, h5⟩)
                | go_in)
              have HR5 : Hid (R1 w l x k out D a7 m g nt ct w5) := by
                have hB : Below wr.heap.size wr w5 := (Below.refl _ wr).drew.trans h5.out.2.1
                refine ⟨HR.out.1.rch, HR.out.1.hm, HR.out.1.hnt, h5.out.1, ownsRow_below HR.out.1.row hB, fun o e => ?_, HR.out.1.below.trans (hB.mono HR.out.1.below.size), fun g o e => h5.out.2.2.elim (fun h6 => HR.out.1.new g o (h6 ▸ e)) (fun h6 => Nat.le_trans HR.out.1.below.size (h6 g o e))⟩
                rcases h5.out.2.2 with h6 | h6
                · exact HR.out.1.apart o (h6 ▸ e)
                · have h7 := h6 g o e
                  have h8 := (HR.out.1.row.lt g rfl).2
                  have h9 : wr.heap.size ≤ g := h7
                  omega
              go_wp2
              go_roundw
              case rel =>
                refine ⟨j + 1, a7, m, c7, g, nt, ct, out, D, by go_num, rfl, rfl, hlt, hnt, by omega, HR5.out, HR.out.2.1, fun p hp e => ?_⟩
                rw [Htk.out] at hp
                rcases List.mem_append.1 hp with h1 | h1
                · exact HR.out.2.2 p h1 e
                · rw [List.mem_singleton] at h1
                  subst h1
                  exact Hin.out
              case measure => simp [intOf]; omega
            · rw [putI_out hin, HR.out.1.hm] at Hput
              have Hin := Lib.hid hin
              have hmm : m < m + 1 := by omega
              obtain ⟨m1, hm1⟩ : ∃ m1, m + 1 = m1 := ⟨_, rfl⟩
              rw [hm1] at Hput hmm
              have Hm1 := Lib.hid hm1
              clear hin hsl hqt hm1
              go_wp2_with (first
                | (go_at_call 42; refine Hput.out.mono ?_; rintro e w5 ⟨a7, c7, rfl, h5⟩
                   have hB : Below wr.heap.size wr w5 := (Below.refl _ wr).drew.trans h5.out.2.1
                   have HB5 : Hid (Below wr.heap.size wr w5) := hB
                   have HW5 : Hid (Below w.heap.size w w5) := HR.out.1.below.trans (hB.mono HR.out.1.below.size)
                   obtain ⟨z0, z1⟩ := HC.out w5 HW5.out
                   clear s0 s1 hB)
                | (at_builtin; refine wpList_append_lies _ rfl _ _ 23 rfl w.heap.size 3 i3 (.int .i64 0) 1 8 Try.underlying23 hi3 hz0 hz1 hz2 rfl (by decide) (.slice (some ⟨g, 0, none⟩) nt ct) nt (intsC (x :: D)) rfl ((ownsRow_below HR.out.1.row HB5.out).alloc _) ⟨w5.heap.size, 0, none⟩ 1 1 [.int .i64 q2] rfl rfl (news_new w5 #[.int .i64 q2] 3) (intsC_one [q2]) (by decide) (by unfold maxLen; omega) (by omega) (by have := HW5.out.size; simp; omega) _ rfl ?_)
                | go_in)
              intro g6 cap6 w6 hown6 hgrow6 hat6 hlt6
              have hg5 : g < w5.heap.size := Nat.lt_of_lt_of_le (HR.out.1.row.lt g rfl).2 HB5.out.size
              have hgw : w.heap.size ≤ g := (HR.out.1.row.lt g rfl).1
              have hgA : w5.grownBy w6 (some g) := ((World.grownBy_alloc w5 (.cells #[.int .i64 q2] 3) none).but (some g)).trans hgrow6
              have hne : putI out q2 ≠ [] := by
                intro e
                have h1 := putI_out Hin.out
                rw [e] at h1
                simp at h1
              have hga : ∀ o, a7 ≠ some ⟨g, o, none⟩ := fun o e => by
                rcases h5.out.2.2 with h6 | h6
                · exact HR.out.1.apart o (h6 ▸ e)
                · have h7 : wr.heap.size ≤ g := h6 g o e
                  have h8 := (HR.out.1.row.lt g rfl).2
                  omega
              have HR6 : Hid (R1 w l x k (putI out q2) (D ++ [q2]) a7 m1 g6 (nt + 1) cap6 w6) := by
                refine ⟨HR.out.1.rch.put (by rw [List.length_cons, HR.out.1.hnt]; omega) Htm.out (Hqt.out ▸ Hmem.out) Hin.out, by rw [putI_out Hin.out, HR.out.1.hm, Hm1.out], by rw [List.length_append, ← HR.out.1.hnt]; rfl, ?_, ?_, ?_, HW5.out.grown hgA HW5.out.size (fun k e => by cases e; exact hgw), fun g o e => h5.out.2.2.elim (fun h6 => HR.out.1.new g o (h6 ▸ e)) (fun h6 => Nat.le_trans HR.out.1.below.size (h6 g o e))⟩
                · exact h5.out.1.keep hgA (fun g' o k e e2 => by cases e2; intro e3; subst e3; exact hga o e)
                · have e2 : intsC (x :: (D ++ [q2])) = intsC (x :: D) ++ [.int .i64 q2] := by rw [← List.cons_append, intsC_snoc]
                  rw [e2]
                  exact hown6
                · intro o e
                  rcases hat6 with h6 | h6
                  · have h7 : g = g6 := by simpa [Value.ownBlock] using h6
                    exact hga o (h7 ▸ e)
                  · have h7 : g6 = w5.heap.size + 1 := by simpa using h6
                    have h8 := h5.out.1
                    rw [e] at h8
                    have h9 := h8.lt hne
                    omega
              have hnt1 : nt + 1 ≤ n + 1 := by
                have h1 := HR6.out.rch.bound
                rw [HR6.out.hm, Hn.out] at h1
                have h2 := HR6.out.rch.len
                have h3 := HR6.out.hnt
                have h4 := HR6.out.hm
                omega
              clear hown6 hgrow6 hat6 hlt6 hg5 hgw hgA hne hga
              go_wp2
              go_roundw
              case rel =>
                refine ⟨j + 1, a7, m1, c7, g6, nt + 1, cap6, _, _, by go_num, rfl, rfl, by omega, hnt1, by omega, HR6.out, ?_, fun p hp e => ?_⟩
                · have h1 := HR.out.2.1
                  have h2 : k < (x :: D).length := by rw [List.length_cons, HR.out.1.hnt]; exact hlt
                  rw [← List.cons_append, List.getD_eq_getElem?_getD, List.getElem?_append_left h2, ← List.getD_eq_getElem?_getD]
                  exact h1
                rw [Htk.out] at hp
                rcases List.mem_append.1 hp with h1 | h1
                · exact mem_putI.2 (.inr (HR.out.2.2 p h1 e))
                · rw [List.mem_singleton] at h1
                  subst h1
                  exact mem_putI.2 (.inl rfl)
              case measure => simp [intOf]; omega
          · have e1 : (q1 == t) = false := by simpa using hqt
            have Hqt := Lib.hid hqt
            clear hqt
            go_wp2
            go_roundw
            case rel =>
              refine ⟨j + 1, a5, m, c5, g, nt, ct, out, D, by go_num, rfl, rfl, hlt, hnt, by omega, ⟨HR.out.1.rch, HR.out.1.hm, HR.out.1.hnt, HR.out.1.sl, HR.out.1.row, HR.out.1.apart, HR.out.1.below.drew, HR.out.1.new⟩, HR.out.2.1, fun p hp e => ?_⟩
              rw [Htk.out] at hp
              rcases List.mem_append.1 hp with h1 | h1
              · exact HR.out.2.2 p h1 e
              · rw [List.mem_singleton] at h1
                subst h1
                exact absurd e Hqt.out
            case measure => simp [intOf]; omega
        · have hjn' : n = j := by omega
          have HN : Hid (Rch l x (k + 1) out D) := by
            have h1 := HR.out.2.2
            rw [← hjn', ← Hn.out, List.take_length] at h1
            refine HR.out.1.rch.next (by rw [List.length_cons, HR.out.1.hnt]; exact hlt) (fun z hz => ?_)
            rw [HR.out.2.1] at hz
            exact h1 _ hz rfl
          subst hjn'
          clear hj hjn
          go_wp2
          go_roundw
          case rel => exact ⟨k + 1, a5, m, c5, g, nt, ct, out, D, by go_num, rfl, rfl, by omega, hnt, HN.out, HR.out.1.hm, HR.out.1.hnt, HR.out.1.sl, HR.out.1.row, HR.out.1.apart, HR.out.1.below, HR.out.1.new⟩
          case measure => simp [intOf]; omega
    · have hkn : nt = k := by omega
      have HS : Hid (∀ z, z ∈ out ↔ TC l x z) := HR.out.rch.stop (by rw [List.length_cons, HR.out.hnt]; omega)
      subst hkn
      clear hk hlt
      go_wp2
      go_ret
      exact ⟨a5, c5, m, out, rfl, HR.out.hm, HR.out.rch.rise, HS.out, HR.out.sl, HR.out.below, HR.out.new⟩
end Go.Proofs.Ythgkloapnihpaaa

/- The document's graphs in memory; whether a number is in a list, an edge, a node; the order of edges. -/
namespace Go.Proofs.Ythgkloapnihpaaa
open Go.RowKit Go.Maps Go.WideMaps Go.WideElems Go.ChangeShapes Go.WideShapes

theorem new_c0 (w : World) (x y : Value) (t : TypeId) : (w.alloc (.cells #[x, y] t)).cell? ⟨w.heap.size, 0, none⟩ = some x := by
  rw [cell_of_row _ w.heap.size 0 #[x, y] t _ (World.alloc_heap_new w _)]; rfl
theorem new_c1 (w : World) (x y : Value) (t : TypeId) : (w.alloc (.cells #[x, y] t)).cell? ⟨w.heap.size, 1, none⟩ = some y := by
  rw [cell_of_row _ w.heap.size 1 #[x, y] t _ (World.alloc_heap_new w _)]; rfl
theorem two_new (w : World) (x y : Value) (t : TypeId) : ∃ W, w.alloc (.cells #[x, y] t) = W ∧ Hid (Below w.heap.size w W) ∧ Hid (w.heap.size < W.heap.size) ∧ W.cell? ⟨w.heap.size, 0, none⟩ = some x ∧ W.cell? ⟨w.heap.size, 1, none⟩ = some y :=
  ⟨_, rfl, (Below.refl _ _).alloc (Nat.le_refl _) _, by show _ < _; simp, new_c0 w x y t, new_c1 w x y t⟩
theorem two_cells {W : World} {b : Nat} {x y : Value} {t : TypeId} (h : W.heap[b]? = some (.cells #[x, y] t)) : W.cell? ⟨b, 0, none⟩ = some x ∧ W.cell? ⟨b, 1, none⟩ = some y := by
  constructor
  · rw [cell_of_row _ b 0 #[x, y] t _ h]; rfl
  · rw [cell_of_row _ b 1 #[x, y] t _ h]; rfl
theorem new_3c (w : World) (x y z : Value) (t : TypeId) : (w.alloc (.cells #[x, y, z] t)).cell? ⟨w.heap.size, 0, none⟩ = some x ∧ (w.alloc (.cells #[x, y, z] t)).cell? ⟨w.heap.size, 1, none⟩ = some y ∧ (w.alloc (.cells #[x, y, z] t)).cell? ⟨w.heap.size, 2, none⟩ = some z := by
  refine ⟨?_, ?_, ?_⟩
  · rw [cell_of_row _ w.heap.size 0 #[x, y, z] t _ (World.alloc_heap_new w _)]; rfl
  · rw [cell_of_row _ w.heap.size 1 #[x, y, z] t _ (World.alloc_heap_new w _)]; rfl
  · rw [cell_of_row _ w.heap.size 2 #[x, y, z] t _ (World.alloc_heap_new w _)]; rfl

/-- A slice of edges that can be read. -/
def SlE (W : World) (a : Option Addr) (l : List Ed) : Prop := l = [] ∨ ∃ b off, a = some ⟨b, off, none⟩ ∧ (l ≠ [] → b < W.heap.size) ∧ ∀ (k : Nat) (p : Ed), l[k]? = some p → W.cell? ⟨b, off + k * 3, none⟩ = some (iv p.1) ∧ W.cell? ⟨b, off + k * 3 + 1, none⟩ = some (iv p.2.1) ∧ W.cell? ⟨b, off + k * 3 + 2, none⟩ = some (iv p.2.2)
theorem SlE.below {W W' : World} {a : Option Addr} {l : List Ed} (h : SlE W a l) (hb : Below W.heap.size W W') : SlE W' a l := by
  rcases h with h | ⟨b, off, e, hl, h⟩
  · exact .inl h
  · refine .inr ⟨b, off, e, fun hx => Nat.lt_of_lt_of_le (hl hx) hb.size, fun k p hk => ?_⟩
    have hne : l ≠ [] := by intro e'; rw [e'] at hk; simp at hk
    obtain ⟨h1, h2, h3⟩ := h k p hk
    exact ⟨(hb.cell (p := ⟨b, off + k * 3, none⟩) (hl hne)).trans h1, (hb.cell (p := ⟨b, off + k * 3 + 1, none⟩) (hl hne)).trans h2, (hb.cell (p := ⟨b, off + k * 3 + 2, none⟩) (hl hne)).trans h3⟩
abbrev e0 : Ed := (0, 0, 0)
theorem SlE.at {W : World} {a : Option Addr} {l : List Ed} (h : SlE W a l) {k : Nat} (hk : k < l.length) : ∃ b off, a = some ⟨b, off, none⟩ ∧ W.cell? ⟨b, off + k * 3, none⟩ = some (iv (l.getD k e0).1) ∧ W.cell? ⟨b, off + k * 3 + 1, none⟩ = some (iv (l.getD k e0).2.1) ∧ W.cell? ⟨b, off + k * 3 + 2, none⟩ = some (iv (l.getD k e0).2.2) := by
  rcases h with rfl | ⟨b, off, e, _, h⟩
  · simp at hk
  · exact ⟨b, off, e, h k _ (by simp [hk])⟩
theorem edRow_len (l : List Ed) : (edRow l).length = l.length * 3 := by
  induction l with
  | nil => rfl
  | cons p l ih => show (_ :: _ :: _ :: edRow l).length = _; simp [ih]; omega
theorem edRow_get : ∀ (l : List Ed) (k : Nat) (h : k < l.length), (edRow l)[k * 3]? = some (iv l[k].1) ∧ (edRow l)[k * 3 + 1]? = some (iv l[k].2.1) ∧ (edRow l)[k * 3 + 2]? = some (iv l[k].2.2)
  | p :: l, 0, _ => ⟨rfl, rfl, rfl⟩
  | p :: l, k + 1, h => by
    obtain ⟨h0, h1, h2⟩ := edRow_get l k (by simpa using h)
    have e : ∀ j, (edRow (p :: l))[(k + 1) * 3 + j]? = (edRow l)[k * 3 + j]? := fun j => by
      show (_ :: _ :: _ :: edRow l)[_]? = _
      rw [show (k + 1) * 3 + j = (k * 3 + j) + 1 + 1 + 1 by omega, List.getElem?_cons_succ, List.getElem?_cons_succ, List.getElem?_cons_succ]
    exact ⟨(e 0).trans h0, (e 1).trans h1, (e 2).trans h2⟩
theorem row_slE {W : World} {B : Nat} {e : TypeId} {n : Nat} {v : Value} {l : List Ed} (h : W.ownsRow B e 3 v n (edRow l)) : ∃ a c, v = .slice a n c ∧ l.length = n ∧ SlE W a l := by
  have hln : l.length = n := by
    have := h.1
    rw [edRow_len] at this
    omega
  rcases h.2 with ⟨rfl, h0⟩ | ⟨g, cap, cur, rfl, hb, hg, hn, hm, hs, ht⟩
  · subst h0
    exact ⟨none, 0, rfl, hln, .inl (List.eq_nil_of_length_eq_zero hln)⟩
  · refine ⟨_, cap, rfl, hln, .inr ⟨g, 0, rfl, fun _ => (Array.getElem?_eq_some_iff.1 hg).1, fun k p hk => ?_⟩⟩
    obtain ⟨hk1, rfl⟩ := List.getElem?_eq_some_iff.1 hk
    obtain ⟨g0, g1, g2⟩ := edRow_get l k hk1
    have h1 := h.cellAt (k * 3) (by omega)
    have h2 := h.cellAt (k * 3 + 1) (by omega)
    have h3 := h.cellAt (k * 3 + 2) (by omega)
    rw [g0] at h1
    rw [g1] at h2
    rw [g2] at h3
    rw [Nat.zero_add]
    exact ⟨h1, h2, h3⟩
theorem edRow_one (l : List Ed) : ∀ u ∈ edRow l, u.oneCell' = true := by
  intro u hu
  obtain ⟨p, _, hp⟩ := List.mem_flatMap.1 hu
  simp at hp
  rcases hp with rfl | rfl | rfl <;> rfl
theorem getD_in {α : Type} {l : List α} {k : Nat} {d : α} (hk : k < l.length) : l.getD k d ∈ l := by
  rw [List.getD_eq_getElem?_getD, List.getElem?_eq_getElem hk]
  exact List.getElem_mem hk
theorem not_found {α : Type} {l : List α} {d x : α} (h : ∀ j, j < l.length → l.getD j d ≠ x) : x ∉ l := by
  intro hm
  obtain ⟨j, hj, e⟩ := List.getElem_of_mem hm
  refine h j hj ?_
  simp [hj, e]

set_option maxHeartbeats 1000000 in
theorem in_any (a : Option Addr) (c : Nat) (l : List Int) (x : Int) (hn : l.length ≤ 100000) (w : World) (h : SlI w a l) :
    Calls Try.prog 55 #[.slice a l.length c, iv x] w fun e w' => e = .returned (.bool (decide (x ∈ l))) ∧ w = w' := by
  obtain ⟨n, hnn⟩ : ∃ n, l.length = n := ⟨_, rfl⟩
  rw [hnn] at hn ⊢
  have H := Lib.hid h
  have Hn := Lib.hid hnn
  obtain ⟨res, hres⟩ : ∃ b, decide (x ∈ l) = b := ⟨_, rfl⟩
  rw [hres]
  have Hres := Lib.hid hres
  clear h hnn hres
  go_enter Try.func55, Try.ntmps55
  go_wp2
  go_loop [5] (fun i => ∃ k : Nat, k ≤ n ∧ i = .int .i64 k ∧ Hid (∀ j, j < k → l.getD j 0 ≠ x)) (fun i => n - (intOf i).toNat)
  case atStart => exact ⟨0, Nat.zero_le _, rfl, fun j hj => absurd hj (by omega)⟩
  case round =>
    obtain ⟨k, hk, rfl, HK⟩ := hrel
    by_cases hlt : k < n
    · obtain ⟨b, off, rfl, hc0⟩ := H.out.at (k := k) (by rw [Hn.out]; exact hlt)
      have hmem := getD_in (d := 0) (show k < l.length by rw [Hn.out]; exact hlt)
      obtain ⟨q, hq⟩ : ∃ q, l.getD k 0 = q := ⟨_, rfl⟩
      rw [hq] at hc0 hmem
      by_cases hx : q = x
      · have hr : Hid (res = true) := by show _ = _; rw [← Hres.out, ← hx]; simpa using hmem
        subst hx
        clear hq hmem
        go_wp2
        go_ret
        exact ⟨by rw [hr.out]; rfl, rfl⟩
      · have HK' : Hid (∀ j, j < k + 1 → l.getD j 0 ≠ x) := by
          intro j hj
          by_cases e : j = k
          · subst e; rw [hq]; exact hx
          · exact HK.out j (by omega)
        have hne : (q == x) = false := by simpa using hx
        clear hx hq hmem
        go_wp2
        go_round
        case rel => exact ⟨k + 1, by omega, by go_num, HK'.out⟩
        case measure => simp [intOf]; omega
    · have hkn : k = n := by omega
      have hr : Hid (res = false) := by
        show _ = _
        rw [← Hres.out, decide_eq_false_iff_not]
        exact not_found (d := 0) fun j hj => HK.out j (by rw [hkn, ← Hn.out]; exact hj)
      clear hkn
      go_wp2
      go_ret
      exact ⟨by rw [hr.out]; rfl, rfl⟩

/-- A graph of the document's, as a value. -/
abbrev gval (a : Option Addr) (n c : Nat) (a' : Option Addr) (m c' : Nat) : Value := .agg #[.slice a n c, .slice a' m c']
set_option maxHeartbeats 2000000 in
theorem dhas_any (a a' : Option Addr) (n c c' : Nat) (E : List Ed) (x y z : Int) (hn : E.length ≤ 100000) (w : World) (h : SlE w a' E) :
    Calls Try.prog 10 #[gval a n c a' E.length c', iv x, iv y, iv z] w fun e w' => e = .returned (.bool (decide ((x, y, z) ∈ E))) ∧ Hid (Below w.heap.size w w') := by
  obtain ⟨m, hmm⟩ : ∃ n, E.length = n := ⟨_, rfl⟩
  rw [hmm] at hn ⊢
  obtain ⟨W, hW, hB, hS, d0, d1⟩ := two_new w (.slice a n c) (.slice a' m c') 29
  have H := Lib.hid (h.below (hB.out))
  have Hm := Lib.hid hmm
  obtain ⟨res, hres⟩ : ∃ b, decide ((x, y, z) ∈ E) = b := ⟨_, rfl⟩
  rw [hres]
  have Hres := Lib.hid hres
  clear h hmm hres
  go_enter Try.func10, Try.ntmps10
  go_wp2
  go_loop [9] (fun i => ∃ k : Nat, k ≤ m ∧ i = .int .i64 k ∧ Hid (∀ j, j < k → E.getD j e0 ≠ (x, y, z))) (fun i => m - (intOf i).toNat)
  case atStart => exact ⟨0, Nat.zero_le _, rfl, fun j hj => absurd hj (by omega)⟩
  case round =>
    obtain ⟨k, hk, rfl, HK⟩ := hrel
    by_cases hlt : k < m
    · obtain ⟨b, off, rfl, hc0, hc1, hc2⟩ := H.out.at (k := k) (by rw [Hm.out]; exact hlt)
      have hmem := getD_in (d := e0) (show k < E.length by rw [Hm.out]; exact hlt)
      obtain ⟨⟨q1, q2, q3⟩, hq⟩ : ∃ q, E.getD k e0 = q := ⟨_, rfl⟩
      rw [hq] at hc0 hc1 hc2 hmem
      simp only at hc0 hc1 hc2
      by_cases hx : (q1, q2, q3) = (x, y, z)
      · have hr : Hid (res = true) := by show _ = _; rw [← Hres.out, ← hx]; simpa using hmem
        have e1 : q1 = x := by cases hx; rfl
        have e2 : q2 = y := by cases hx; rfl
        have e3 : q3 = z := by cases hx; rfl
        subst e1 e2 e3
        clear hx hq hmem
        go_wp2
        go_ret
        exact ⟨by rw [hr.out]; rfl, hB.out⟩
      · have HK' : Hid (∀ j, j < k + 1 → E.getD j e0 ≠ (x, y, z)) := by
          intro j hj
          by_cases e : j = k
          · subst e; rw [hq]; exact hx
          · exact HK.out j (by omega)
        by_cases e1 : q1 = x
        · subst e1
          by_cases e2 : q2 = y
          · subst e2
            have hne : (q3 == z) = false := by
              have : q3 ≠ z := fun e => hx (by rw [e])
              simpa using this
            clear hx hq hmem
            go_wp2
            go_round
            case rel => exact ⟨k + 1, by omega, by go_num, HK'.out⟩
            case measure => simp [intOf]; omega
          · have hne : (q2 == y) = false := by simpa using e2
            clear hx hq hmem e2
            go_wp2
            go_round
            case rel => exact ⟨k + 1, by omega, by go_num, HK'.out⟩
            case measure => simp [intOf]; omega
        · have hne : (q1 == x) = false := by simpa using e1
          clear hx hq hmem e1
          go_wp2
          go_round
          case rel => exact ⟨k + 1, by omega, by go_num, HK'.out⟩
          case measure => simp [intOf]; omega
    · have hkn : k = m := by omega
      have hr : Hid (res = false) := by
        show _ = _
        rw [← Hres.out, decide_eq_false_iff_not]
        exact not_found (d := e0) fun j hj => HK.out j (by rw [hkn, ← Hm.out]; exact hj)
      clear hkn
      go_wp2
      go_ret
      exact ⟨by rw [hr.out]; rfl, hB.out⟩
set_option maxHeartbeats 2000000 in
theorem dhasnode_any (a a' : Option Addr) (m c c' : Nat) (N : List Int) (x : Int) (hn : N.length ≤ 100000) (w : World) (h : SlI w a N) :
    Calls Try.prog 14 #[gval a N.length c a' m c', iv x] w fun e w' => e = .returned (.bool (decide (x ∈ N))) ∧ Hid (Below w.heap.size w w') := by
  obtain ⟨n, hnn⟩ : ∃ n, N.length = n := ⟨_, rfl⟩
  rw [hnn] at hn ⊢
  obtain ⟨W, hW, hB, hS, d0, d1⟩ := two_new w (.slice a n c) (.slice a' m c') 29
  have H := Lib.hid (h.below (grown_below hB.out))
  have Hn := Lib.hid hnn
  obtain ⟨res, hres⟩ : ∃ b, decide (x ∈ N) = b := ⟨_, rfl⟩
  rw [hres]
  have Hres := Lib.hid hres
  clear h hnn hres
  go_enter Try.func14, Try.ntmps14
  go_wp2
  go_loop [5] (fun i => ∃ k : Nat, k ≤ n ∧ i = .int .i64 k ∧ Hid (∀ j, j < k → N.getD j 0 ≠ x)) (fun i => n - (intOf i).toNat)
  case atStart => exact ⟨0, Nat.zero_le _, rfl, fun j hj => absurd hj (by omega)⟩
  case round =>
    obtain ⟨k, hk, rfl, HK⟩ := hrel
    by_cases hlt : k < n
    · obtain ⟨b, off, rfl, hc0⟩ := H.out.at (k := k) (by rw [Hn.out]; exact hlt)
      have hmem := getD_in (d := 0) (show k < N.length by rw [Hn.out]; exact hlt)
      obtain ⟨q, hq⟩ : ∃ q, N.getD k 0 = q := ⟨_, rfl⟩
      rw [hq] at hc0 hmem
      by_cases hx : q = x
      · have hr : Hid (res = true) := by show _ = _; rw [← Hres.out, ← hx]; simpa using hmem
        subst hx
        clear hq hmem
        go_wp2
        go_ret
        exact ⟨by rw [hr.out]; rfl, hB.out⟩
      · have HK' : Hid (∀ j, j < k + 1 → N.getD j 0 ≠ x) := by
          intro j hj
          by_cases e : j = k
          · subst e; rw [hq]; exact hx
          · exact HK.out j (by omega)
        have hne : (q == x) = false := by simpa using hx
        clear hx hq hmem
        go_wp2
        go_round
        case rel => exact ⟨k + 1, by omega, by go_num, HK'.out⟩
        case measure => simp [intOf]; omega
    · have hkn : k = n := by omega
      have hr : Hid (res = false) := by
        show _ = _
        rw [← Hres.out, decide_eq_false_iff_not]
        exact not_found (d := 0) fun j hj => HK.out j (by rw [hkn, ← Hn.out]; exact hj)
      clear hkn
      go_wp2
      go_ret
      exact ⟨by rw [hr.out]; rfl, hB.out⟩
/-- An edge, as a value. -/
abbrev edv (p : Ed) : Value := .agg #[iv p.1, iv p.2.1, iv p.2.2]
set_option maxHeartbeats 2000000 in
theorem less_any (p q : Ed) (w : World) : Calls Try.prog 41 #[edv p, edv q] w fun e w' => e = .returned (.bool (decide (LtE p q))) ∧ Hid (Below w.heap.size w w') := by
  obtain ⟨p1, p2, p3⟩ := p
  obtain ⟨q1, q2, q3⟩ := q
  obtain ⟨W1, hW1⟩ : ∃ W, w.alloc (.cells #[iv p1, iv p2, iv p3] 62) = W := ⟨_, rfl⟩
  obtain ⟨W, hW⟩ : ∃ W, W1.alloc (.cells #[iv q1, iv q2, iv q3] 62) = W := ⟨_, rfl⟩
  have hB : Hid (Below w.heap.size w W) := by rw [← hW, ← hW1]; exact ((Below.refl _ _).alloc (Nat.le_refl _) _).alloc (by simp) _
  have c1 : W1.cell? ⟨w.heap.size, 0, none⟩ = some (iv p1) ∧ W1.cell? ⟨w.heap.size, 1, none⟩ = some (iv p2) ∧ W1.cell? ⟨w.heap.size, 2, none⟩ = some (iv p3) := by rw [← hW1]; exact new_3c w _ _ _ 62
  have c2 : W.cell? ⟨W1.heap.size, 0, none⟩ = some (iv q1) ∧ W.cell? ⟨W1.heap.size, 1, none⟩ = some (iv q2) ∧ W.cell? ⟨W1.heap.size, 2, none⟩ = some (iv q3) := by rw [← hW]; exact new_3c W1 _ _ _ 62
  have hlt : w.heap.size < W1.heap.size := by rw [← hW1]; simp
  have hb1 : Below W1.heap.size W1 W := by rw [← hW]; exact (Below.refl _ _).alloc (Nat.le_refl _) _
  obtain ⟨x0, x1, x2⟩ := c1
  obtain ⟨y0, y1, y2⟩ := c2
  replace x0 := (hb1.cell (p := ⟨w.heap.size, 0, none⟩) hlt).trans x0
  replace x1 := (hb1.cell (p := ⟨w.heap.size, 1, none⟩) hlt).trans x1
  replace x2 := (hb1.cell (p := ⟨w.heap.size, 2, none⟩) hlt).trans x2
  clear hb1 hlt
  obtain ⟨B, hBe⟩ : ∃ B, w.heap.size = B := ⟨_, rfl⟩
  obtain ⟨C, hC⟩ : ∃ C, W1.heap.size = C := ⟨_, rfl⟩
  rw [hBe] at x0 x1 x2
  rw [hC] at y0 y1 y2
  obtain ⟨R, hR⟩ : ∃ R, decide (LtE (p1, p2, p3) (q1, q2, q3)) = R := ⟨_, rfl⟩
  rw [hR]
  have HR := Lib.hid hR
  clear hR
  by_cases h1 : p1 = q1
  · by_cases h2 : p2 = q2
    · have e1 : (p1 != q1) = false := by simpa using h1
      have e2 : (p2 != q2) = false := by simpa using h2
      have H : Hid (R = decide (p3 < q3)) := by
        show _ = _
        rw [← HR.out, decide_eq_decide]
        unfold LtE
        simp only
        omega
      subst h1 h2
      go_enter Try.func41, Try.ntmps41
      go_wp2
      go_ret
      exact ⟨by rw [H.out]; rfl, hB.out⟩
    · have e1 : (p1 != q1) = false := by simpa using h1
      have e2 : (p2 != q2) = true := by simpa using h2
      have e3 : (p2 == q2) = false := by simpa using h2
      have H : Hid (R = decide (p2 < q2)) := by
        show _ = _
        rw [← HR.out, decide_eq_decide]
        unfold LtE
        simp only
        omega
      subst h1
      clear h2
      go_enter Try.func41, Try.ntmps41
      go_wp2
      go_ret
      exact ⟨by rw [H.out]; rfl, hB.out⟩
  · have e2 : (p1 != q1) = true := by simpa using h1
    have e3 : (p1 == q1) = false := by simpa using h1
    have H : Hid (R = decide (p1 < q1)) := by
      show _ = _
      rw [← HR.out, decide_eq_decide]
      unfold LtE
      simp only
      omega
    clear h1
    go_enter Try.func41, Try.ntmps41
    go_wp2
    go_ret
    exact ⟨by rw [H.out]; rfl, hB.out⟩
end Go.Proofs.Ythgkloapnihpaaa

/- The document's Node, by a contract; boxes of two, written. -/
namespace Go.Proofs.Ythgkloapnihpaaa
open Go.RowKit Go.Maps Go.WideMaps Go.WideElems Go.ChangeShapes Go.WideShapes

theorem results_row1 {P : Program} {fn : Func} {p : Tmp} {ty : TypeId} (h : fn.results = #[.cell p ty]) (tmps : Array Value) (w : World) (g : Nat) (t : TypeId) (cs : Array Value) (fr : Nat × Nat) (d : TypeDesc)
    (hp : tmps.getD p undef = .pointer (some ⟨g, 0, none⟩)) (hg : w.heap[g]? = some (.cells cs t fr))
    (hu : P.underlying ty = some d) (hd : (match d with | .struct _ | .array _ _ => true | _ => false) = true) (hi : (P.info? ty).map (·.size) = some cs.size) :
    (results fn tmps).run P w = .ok (.agg cs) w := by
  have hp' : tmps[p]?.getD undef = .pointer (some ⟨g, 0, none⟩) := by simpa using hp
  simp only [results, h]
  simp [hp', asAddr, run_loadVar_row w g t ty cs fr d hg hu hd hi]
theorem two_at {W : World} {b : Nat} {x y : Value} {t : TypeId} (h : W.heap[b]? = some (.cells #[x, y] t)) : W.cell? ⟨b, 0, none⟩ = some x ∧ W.cell? ⟨b, 1, none⟩ = some y := two_cells h
theorem setCell_far {W : World} {rb o k : Nat} {p : Value} (h : k ≠ rb) : (W.setCell ⟨rb, o, none⟩ p).heap[k]? = W.heap[k]? := Below.heap_setCell _ _ _ _ (fun e => h e)
theorem setCell_size (W : World) (a : Addr) (p : Value) : (W.setCell a p).heap.size = W.heap.size := by simp [World.setCell]
theorem setCell_below {w W : World} {rb o : Nat} {p : Value} (h : w.heap.size ≤ rb) : Below w.heap.size W (W.setCell ⟨rb, o, none⟩ p) := ⟨rfl, rfl, rfl, by simp [World.setCell], fun k hk => setCell_far (by omega)⟩
theorem SlI.set {W : World} {a : Option Addr} {l : List Int} {rb o : Nat} {p : Value} (h : SlI W a l) (hb : ∀ b o, a = some ⟨b, o, none⟩ → l ≠ [] → b ≠ rb) : SlI (W.setCell ⟨rb, o, none⟩ p) a l := by
  rcases h with h | ⟨b, off, e, hl, h⟩
  · exact .inl h
  · by_cases hz : l = []
    · exact .inl hz
    · refine .inr ⟨b, off, e, fun hx => by rw [setCell_size]; exact hl hx, fun k x hk => ?_⟩
      exact (World.cell?_of_block (setCell_far (hb b off e hz))).trans (h k x hk)
theorem SlE.set {W : World} {a : Option Addr} {l : List Ed} {rb o : Nat} {p : Value} (h : SlE W a l) (hb : ∀ b o, a = some ⟨b, o, none⟩ → l ≠ [] → b ≠ rb) : SlE (W.setCell ⟨rb, o, none⟩ p) a l := by
  rcases h with h | ⟨b, off, e, hl, h⟩
  · exact .inl h
  · by_cases hz : l = []
    · exact .inl hz
    · refine .inr ⟨b, off, e, fun hx => by rw [setCell_size]; exact hl hx, fun k x hk => ?_⟩
      obtain ⟨h1, h2, h3⟩ := h k x hk
      exact ⟨(World.cell?_of_block (setCell_far (hb b off e hz))).trans h1, (World.cell?_of_block (setCell_far (hb b off e hz))).trans h2, (World.cell?_of_block (setCell_far (hb b off e hz))).trans h3⟩
theorem SlE.lt {W : World} {g o : Nat} {l : List Ed} (h : SlE W (some ⟨g, o, none⟩) l) (hl : l ≠ []) : g < W.heap.size := by
  rcases h with h | ⟨b, off, e, h1, -⟩
  · exact absurd h hl
  · have h2 : g = b := by simpa using congrArg (fun x => x.map Addr.block) e
    rw [h2]
    exact h1 hl
/-- A box of two, written: the first, the second, both. -/
theorem set_first {V : World} {rb : Nat} {x y : Value} {t : TypeId} (p : Value) (hM : V.heap[rb]? = some (.cells #[x, y] t)) : (V.setCell ⟨rb, 0, none⟩ p).heap[rb]? = some (.cells #[p, y] t) := heap_setCell_same V rb 0 _ t p hM
theorem set_second {V : World} {rb : Nat} {x y : Value} {t : TypeId} (p : Value) (hM : V.heap[rb]? = some (.cells #[x, y] t)) : (V.setCell ⟨rb, 1, none⟩ p).heap[rb]? = some (.cells #[x, p] t) := heap_setCell_same V rb 1 _ t p hM
theorem two_thaw {V : World} {rb j : Nat} {x y : Value} {t : TypeId} (hM : V.heap[rb]? = some (.cells #[x, y] t)) : V.frozen? ⟨rb, j, none⟩ = false := by simp [World.frozen?, hM]
theorem two_any (w : World) (x y : Value) (t : TypeId) : ∃ W, w.alloc (.cells #[x, y] t) = W ∧ Hid (Below w.heap.size w W) ∧ Hid (w.heap.size < W.heap.size) ∧ Hid (W.heap[w.heap.size]? = some (.cells #[x, y] t)) :=
  ⟨_, rfl, (Below.refl _ _).alloc (Nat.le_refl _) _, by show _ < _; simp, World.alloc_heap_new w _⟩
/-- Where a list that is answered lies: where the one that was given lies, or in new memory. -/
def NewAt (B : Nat) (a0 a : Option Addr) : Prop := a = a0 ∨ ∀ g o, a = some ⟨g, o, none⟩ → B ≤ g
/-- A graph of the document's in memory. -/
structure DgAt (W : World) (a a' : Option Addr) (N : List Int) (E : List Ed) : Prop where
  nodes : SlI W a N
  edges : SlE W a' E
  n0 : N = [] → a = none
  e0 : E = [] → a' = none
theorem DgAt.below {W W' : World} {a a' : Option Addr} {N : List Int} {E : List Ed} (h : DgAt W a a' N E) (hb : Below W.heap.size W W') : DgAt W' a a' N E := ⟨h.nodes.below (grown_below hb), h.edges.below hb, h.n0, h.e0⟩
theorem DgAt.ltN {W : World} {a a' : Option Addr} {N : List Int} {E : List Ed} (h : DgAt W a a' N E) {b o : Nat} (e : a = some ⟨b, o, none⟩) : b < W.heap.size := by
  by_cases hN : N = []
  · rw [h.n0 hN] at e
    cases e
  · have h1 := h.nodes
    rw [e] at h1
    exact SlI.lt h1 hN
theorem DgAt.ltE {W : World} {a a' : Option Addr} {N : List Int} {E : List Ed} (h : DgAt W a a' N E) {b o : Nat} (e : a' = some ⟨b, o, none⟩) : b < W.heap.size := by
  by_cases hN : E = []
  · rw [h.e0 hN] at e
    cases e
  · have h1 := h.edges
    rw [e] at h1
    exact SlE.lt h1 hN
theorem DgAt.set {W : World} {a a' : Option Addr} {N : List Int} {E : List Ed} {rb o : Nat} {p : Value} (h : DgAt W a a' N E) (h1 : ∀ b o, a = some ⟨b, o, none⟩ → b ≠ rb) (h2 : ∀ b o, a' = some ⟨b, o, none⟩ → b ≠ rb) : DgAt (W.setCell ⟨rb, o, none⟩ p) a a' N E :=
  ⟨h.nodes.set fun b o e _ => h1 b o e, h.edges.set fun b o e _ => h2 b o e, h.n0, h.e0⟩
theorem putI_ne (l : List Int) (x : Int) : putI l x ≠ [] := fun e => by
  have : x ∈ putI l x := mem_putI.2 (.inl rfl)
  rw [e] at this
  simp at this
set_option maxHeartbeats 4000000 in
set_option maxRecDepth 100000 in
theorem dnode_any (a a' : Option Addr) (c c' : Nat) (N : List Int) (E : List Ed) (k : Int) (hn : N.length ≤ 100000) (w : World) (h : DgAt w a a' N E) :
    Calls Try.prog 16 #[gval a N.length c a' E.length c', iv k] w fun e w' => ∃ a2 c2, e = .returned (gval a2 (putI N k).length c2 a' E.length c') ∧ Hid (DgAt w' a2 a' (putI N k) E ∧ Below w.heap.size w w' ∧ NewAt w.heap.size a a2) := by
  obtain ⟨n, hnn⟩ : ∃ n, N.length = n := ⟨_, rfl⟩
  obtain ⟨m, hmm⟩ : ∃ m, E.length = m := ⟨_, rfl⟩
  obtain ⟨W1, hW1, Hb1, hs1, Hx1⟩ := two_any w (.slice a N.length c) (.slice a' E.length c') 29
  obtain ⟨W2, hW2, Hb2, hs2, Hx2⟩ := two_any W1 (.slice none 0 0) (.slice none 0 0) 29
  have hB12 : Below w.heap.size w W2 := Hb1.out.trans (Hb2.out.mono Hb1.out.size)
  have HB12 := Lib.hid hB12
  have HX1 : Hid (W2.heap[w.heap.size]? = some (.cells #[.slice a N.length c, .slice a' E.length c'] 29)) := (Hb2.out.block _ hs1.out).trans Hx1.out
  have HP := Lib.hid (puti_at a c N k hn W2 (h.nodes.below (grown_below hB12)))
  have H := Lib.hid h
  obtain ⟨x0, x1⟩ := two_at HX1.out
  rw [hnn, hmm] at *
  clear hB12 h
  go_enter Try.func16, Try.ntmps16
  go_wp2_with (first
    | (go_at_call 42; (with_reducible refine HP.out.mono ?_); rintro e w3 ⟨a2, c2, rfl, K3⟩
       have hX3 : w3.heap[w.heap.size]? = some (.cells #[.slice a n c, .slice a' m c'] 29) := (K3.out.2.1.block _ (by have := hs1.out; have := hs2.out; omega)).trans HX1.out
       have hY3 : w3.heap[W1.heap.size]? = some (.cells #[.slice none 0 0, .slice none 0 0] 29) := (K3.out.2.1.block _ hs2.out).trans Hx2.out
       obtain ⟨y0, y1⟩ := two_at hX3
       have fz := two_thaw (j := 0) hX3
       obtain ⟨W4, hW4⟩ : ∃ W, w3.setCell ⟨w.heap.size, 0, none⟩ (.slice a2 (putI N k).length c2) = W := ⟨_, rfl⟩
       have hX4 : W4.heap[w.heap.size]? = some (.cells #[.slice a2 (putI N k).length c2, .slice a' m c'] 29) := by rw [← hW4]; exact set_first _ hX3
       have hY4 : W4.heap[W1.heap.size]? = some (.cells #[.slice none 0 0, .slice none 0 0] 29) := by rw [← hW4]; exact (setCell_far (by have := hs1.out; omega)).trans hY3
       obtain ⟨z0, z1⟩ := two_at hX4
       obtain ⟨u0, u1⟩ := two_at hY4
       have fz2 := two_thaw (j := 0) hY4
       obtain ⟨W5, hW5⟩ : ∃ W, W4.setCell ⟨W1.heap.size, 0, none⟩ (.slice a2 (putI N k).length c2) = W := ⟨_, rfl⟩
       have hY5 : W5.heap[W1.heap.size]? = some (.cells #[.slice a2 (putI N k).length c2, .slice none 0 0] 29) := by rw [← hW5]; exact set_first _ hY4
       obtain ⟨v0, v1⟩ := two_at hY5
       have fz3 := two_thaw (j := 1) hY5
       have HY5 := Lib.hid hY5)
    | go_in)
  have HY6 : Hid ((W5.setCell ⟨W1.heap.size, 1, none⟩ (.slice a' m c')).heap[W1.heap.size]? = some (.cells #[.slice a2 (putI N k).length c2, .slice a' m c'] 29)) := set_second _ HY5.out
  refine bodyPost_ret (results_row1 rfl _ _ W1.heap.size 29 _ (0, 0) _ rfl HY6.out Try.underlying29 rfl (by kernel_rfl)) rfl ?_
  have hlt := hs1.out
  have hlt2 := hs2.out
  have hb3 : Below w.heap.size w w3 := HB12.out.trans (K3.out.2.1.mono HB12.out.size)
  have hbE : Below w.heap.size w (W5.setCell ⟨W1.heap.size, 1, none⟩ (.slice a' m c')) := by
    rw [← hW5, ← hW4]
    exact ((hb3.trans (setCell_below (Nat.le_refl _))).trans (setCell_below (by omega))).trans (setCell_below (by omega))
  have hne : ∀ b o, a2 = some ⟨b, o, none⟩ → b ≠ w.heap.size ∧ b ≠ W1.heap.size := fun b o e => by
    rcases K3.out.2.2 with g | g
    · have := H.out.ltN (g ▸ e)
      omega
    · have := g b o e
      omega
  refine ⟨a2, c2, rfl, ⟨?_, H.out.edges.below hbE, fun e => absurd e (putI_ne N k), H.out.e0⟩, hbE, ?_⟩
  · rw [← hW5, ← hW4]
    exact ((K3.out.1.set (fun b o e _ => (hne b o e).1)).set (fun b o e _ => (hne b o e).2)).set (fun b o e _ => (hne b o e).2)
  · rcases K3.out.2.2 with g | g
    · exact .inl g
    · exact .inr fun b o e => Nat.le_trans HB12.out.size (g b o e)
end Go.Proofs.Ythgkloapnihpaaa
