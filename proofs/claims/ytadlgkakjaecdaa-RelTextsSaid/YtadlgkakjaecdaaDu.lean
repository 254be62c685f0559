/- The document's lists of numbers: a number laid in, the same list, what stands ahead and behind; by contracts. -/
import Derived.Test.YtadlgkakjaecdaaRi
import Derived.Test.YtadlgkakjaecdaaFi
namespace Go.Proofs.Ytadlgkakjaecdaa
open Go.RowKit Go.Maps Go.WideMaps Go.WideElems Go.ChangeShapes Go.WideShapes

theorem elem3 : (Try.prog.info? 3).map (fun i => (i.zero, i.size, i.bytes)) = some (some (.int .i64 0), 1, 8) := by kernel_rfl

set_option maxHeartbeats 4000000 in
set_option maxRecDepth 100000 in
theorem puti_any (a : Option Addr) (c : Nat) (l : List Int) (x : Int) (hn : l.length ≤ 100000) (w : World) (h : SlI w a l) :
    Calls Try.prog 39 #[.slice a l.length c, .int .i64 x] w fun e w' => ∃ a' c', e = .returned (.slice a' (putI l x).length c') ∧ Hid (SlI w' a' (putI l x) ∧ Below w.heap.size w w') := by
  obtain ⟨i0, hi, hz0, hz1, hz2⟩ := info_parts elem3
  obtain ⟨n, hnn⟩ : ∃ n, l.length = n := ⟨_, rfl⟩
  obtain ⟨m, hm⟩ : ∃ m, lessN x l = m := ⟨_, rfl⟩
  have Hmn : Hid (m ≤ n) := by show _ ≤ _; rw [← hm, ← hnn]; exact lessN_le _ _
  obtain ⟨R, hR⟩ : ∃ R, putI l x = R := ⟨_, rfl⟩
  have He : Hid (R = if m < n ∧ l.getD m 0 = x then l else l.take m ++ x :: l.drop m) := by
    show _ = _
    rw [← hR, ← hm, ← hnn]; rfl
  rw [hnn] at hn
  rw [hR, hnn]
  have H := Lib.hid h
  have Hn := Lib.hid hnn
  have Hm := Lib.hid hm
  clear h hnn hR hm
  go_enter Try.func39, Try.ntmps39
  go_wp2
  go_loop [5] (fun i => ∃ k : Nat, k ≤ m ∧ i = .int .i64 k) (fun i => n - (intOf i).toNat)
  case atStart => exact ⟨0, Nat.zero_le _, rfl⟩
  case round =>
    obtain ⟨k, hk, rfl⟩ := hrel
    have hmn := Hmn.out
    by_cases hlt : k < m
    · obtain ⟨hkl, hlp⟩ := lessN_lt (x := x) (l := l) (k := k) (by rw [Hm.out]; exact hlt)
      obtain ⟨b, off, rfl, hc0⟩ := H.out.at hkl
      rw [Hn.out] at hkl
      obtain ⟨q, hq⟩ : ∃ q, l.getD k 0 = q := ⟨_, rfl⟩
      rw [hq] at hc0 hlp
      have e1 : decide (q < x) = true := by simpa using hlp
      clear hq hlp
      go_wp2
      go_round
      case rel => exact ⟨k + 1, by omega, by go_num⟩
      case measure => simp [intOf]; omega
    · have hkm : k = m := by omega
      subst hkm
      by_cases hkl : k < n
      · have hlp := lessN_stop (x := x) (l := l) (by rw [Hm.out, Hn.out]; exact hkl)
        rw [Hm.out] at hlp
        obtain ⟨b, off, rfl, hc0⟩ := H.out.at (k := k) (by rw [Hn.out]; exact hkl)
        obtain ⟨q, hq⟩ : ∃ q, l.getD k 0 = q := ⟨_, rfl⟩
        have he := He.out
        rw [hq] at hc0 hlp he
        have e1 : decide (q < x) = false := by simp; omega
        by_cases hqx : q = x
        · rw [if_pos ⟨hkl, hqx⟩] at he
          have HE := Lib.hid he
          have e2 : (q == x) = true := by simpa using hqx
          clear hq hlp he hqx
          go_wp2
          go_ret
          rw [HE.out, Hn.out]
          exact ⟨some ⟨b, off, none⟩, ⟨c, rfl⟩, H.out, Below.refl _ _⟩
        · rw [if_neg (fun e => hqx e.2)] at he
          have HE := Lib.hid he
          have e2 : (q == x) = false := by simpa using hqx
          clear hq hlp he hqx
          go_wp2
          clear hc0 e1 e2
          go_loopw [6, 7] (fun v i wr => ∃ j : Nat, i = .int .i64 j ∧ j ≤ k ∧ Hid (wr.ownsRow w.heap.size 3 1 v j (intsC (l.take j)) ∧ Below w.heap.size w wr)) (fun _ i _ => k - (intOf i).toNat)
          case atStart => exact ⟨0, rfl, Nat.zero_le _, World.ownsRow_nil _ _ _ _, Below.refl _ _⟩
          case round =>
            obtain ⟨j, rfl, hj, HJ⟩ := hrel
            by_cases hjk : j < k
            · have hjl : j < l.length := by rw [Hn.out]; omega
              obtain ⟨b', off', e, hc0⟩ := (H.out.below (grown_below HJ.out.2)).at hjl
              try cases e
              have htk : l.take (j + 1) = l.take j ++ [l.getD j 0] := by
                rw [List.take_add_one, List.getElem?_eq_getElem hjl, List.getD_eq_getElem?_getD, List.getElem?_eq_getElem hjl]
                rfl
              obtain ⟨q, hq⟩ : ∃ q, l.getD j 0 = q := ⟨_, rfl⟩
              rw [hq] at hc0 htk
              have Htk := Lib.hid htk
              have hjn : j < n := by omega
              have HA : Hid (w.heap.size ≤ (wr.alloc (.cells #[.int .i64 q] 3)).heap.size) := by
                have h1 := HJ.out.2.size
                show _ ≤ (World.alloc _ _).heap.size
                simp
                omega
              clear htk hq hjl
              go_wp2_with (first
                | (at_builtin; refine wpList_append_own _ rfl _ _ 33 rfl w.heap.size 3 i0 (.int .i64 0) 1 8 Try.underlying33 hi hz0 hz1 hz2 rfl (by decide) u6 j (intsC (l.take j)) rfl (HJ.out.1.alloc _) ⟨wr.heap.size, 0, none⟩ 1 1 [.int .i64 q] rfl rfl (news_new wr #[.int .i64 q] 3) (intsC_one [q]) (by unfold maxLen; omega) (by omega) HA.out ?_)
                | go_in)
              intro v5 w5 hown5 hgrow5 hnil5
              have HJ5 : Hid (w5.ownsRow w.heap.size 3 1 v5 (j + 1) (intsC (l.take (j + 1))) ∧ Below w.heap.size w w5) := by
                refine ⟨?_, (HJ.out.2.alloc HJ.out.2.size _).grown hgrow5 HA.out (fun k hk => (HJ.out.1.lt k hk).1)⟩
                rw [Htk.out, intsC_snoc]
                exact hown5
              clear hown5 hgrow5 hnil5
              go_wp2
              go_roundw
              case rel => exact ⟨j + 1, by go_num, by omega, HJ5.out⟩
              case measure => simp [intOf]; omega
            · have hjk' : j = k := by omega
              subst hjk'
              have HA : Hid (w.heap.size ≤ (wr.alloc (.cells #[.int .i64 x] 3)).heap.size) := by
                have h1 := HJ.out.2.size
                show _ ≤ (World.alloc _ _).heap.size
                simp
                omega
              clear hj hjk
              go_wp2_with (first
                | (at_builtin; refine wpList_append_own _ rfl _ _ 33 rfl w.heap.size 3 i0 (.int .i64 0) 1 8 Try.underlying33 hi hz0 hz1 hz2 rfl (by decide) u6 j (intsC (l.take j)) rfl (HJ.out.1.alloc _) ⟨wr.heap.size, 0, none⟩ 1 1 [.int .i64 x] rfl rfl (news_new wr #[.int .i64 x] 3) (intsC_one [x]) (by unfold maxLen; omega) (by omega) HA.out ?_)
                | go_in)
              intro v5 w5 hown5 hgrow5 hnil5
              have HJ5 : Hid (w5.ownsRow w.heap.size 3 1 v5 (j + 1) (intsC (l.take j ++ x :: (l.drop j).take 0)) ∧ Below w.heap.size w w5) := by
                refine ⟨?_, (HJ.out.2.alloc HJ.out.2.size _).grown hgrow5 HA.out (fun k hk => (HJ.out.1.lt k hk).1)⟩
                rw [List.take_zero, intsC_snoc]
                exact hown5
              clear hown5 hgrow5 hnil5 HA
              go_wp2
              try go_frame
              go_loopw [6, 8] (fun v i wr => ∃ d : Nat, i = .int .i64 ((j + d : Nat) : Int) ∧ j + d ≤ n ∧ Hid (wr.ownsRow w.heap.size 3 1 v (j + d + 1) (intsC (l.take j ++ x :: (l.drop j).take d)) ∧ Below w.heap.size w wr)) (fun _ i _ => n - (intOf i).toNat)
              case atStart => exact ⟨0, rfl, by omega, HJ5.out⟩
              case round =>
                obtain ⟨d, rfl, hd, HD⟩ := hrel
                obtain ⟨i, hi'⟩ : ∃ i, j + d = i := ⟨_, rfl⟩
                rw [hi'] at HD hd ⊢
                have Hi := Lib.hid hi'
                clear hi'
                by_cases hin : i < n
                · have hjl : i < l.length := by rw [Hn.out]; omega
                  obtain ⟨b', off', e, hc0⟩ := (H.out.below (grown_below HD.out.2)).at hjl
                  try cases e
                  have htk : (l.drop j).take (d + 1) = (l.drop j).take d ++ [l.getD i 0] := by
                    rw [List.take_add_one, List.getElem?_drop, Hi.out, List.getElem?_eq_getElem hjl, List.getD_eq_getElem?_getD, List.getElem?_eq_getElem hjl]
                    rfl
                  obtain ⟨q, hq⟩ : ∃ q, l.getD i 0 = q := ⟨_, rfl⟩
                  rw [hq] at hc0 htk
                  have Htk := Lib.hid htk
                  have HA : Hid (w.heap.size ≤ (wr.alloc (.cells #[.int .i64 q] 3)).heap.size) := by
                    have h1 := HD.out.2.size
                    show _ ≤ (World.alloc _ _).heap.size
                    simp
                    omega
                  clear htk hq hjl
                  go_wp2_with (first
                    | (at_builtin; refine wpList_append_own _ rfl _ _ 33 rfl w.heap.size 3 i0 (.int .i64 0) 1 8 Try.underlying33 hi hz0 hz1 hz2 rfl (by decide) u6 (i + 1) (intsC (l.take j ++ x :: (l.drop j).take d)) rfl (HD.out.1.alloc _) ⟨wr.heap.size, 0, none⟩ 1 1 [.int .i64 q] rfl rfl (news_new wr #[.int .i64 q] 3) (intsC_one [q]) (by unfold maxLen; omega) (by omega) HA.out ?_)
                    | go_in)
                  intro v5 w5 hown5 hgrow5 hnil5
                  have HJ6 : Hid (w5.ownsRow w.heap.size 3 1 v5 (j + (d + 1) + 1) (intsC (l.take j ++ x :: (l.drop j).take (d + 1))) ∧ Below w.heap.size w w5) := by
                    refine ⟨?_, (HD.out.2.alloc HD.out.2.size _).grown hgrow5 HA.out (fun k hk => (HD.out.1.lt k hk).1)⟩
                    have e3 : l.take j ++ x :: ((l.drop j).take d ++ [q]) = (l.take j ++ x :: (l.drop j).take d) ++ [q] := by simp
                    rw [Htk.out, e3, intsC_snoc, ← Nat.add_assoc, Hi.out]
                    exact hown5
                  clear hown5 hgrow5 hnil5
                  go_wp2
                  go_roundw
                  case rel => exact ⟨d + 1, by rw [← Nat.add_assoc, Hi.out]; go_num, by have := Hi.out; omega, HJ6.out⟩
                  case measure => simp [intOf]; omega
                · have hin' : i = n := by omega
                  have HR : Hid (wr.ownsRow w.heap.size 3 1 u6 (n + 1) (intsC R)) := by
                    have h1 := HD.out.1
                    have h2 : (l.drop j).take d = l.drop j := List.take_of_length_le (by have := Hi.out; have := Hn.out; simp; omega)
                    rw [h2, hin'] at h1
                    show World.ownsRow _ _ _ _ _ _ _
                    rw [HE.out]
                    exact h1
                  obtain ⟨a', c', rfl, hRl, hsl⟩ := row_slI HR.out
                  have Hsl := Lib.hid hsl
                  have HRl := Lib.hid hRl
                  clear hsl hRl hin hd
                  go_wp2
                  go_ret
                  exact ⟨a', c', by rw [HRl.out]; rfl, Hsl.out, HD.out.2⟩
      · have he := He.out
        rw [if_neg (fun e => hkl e.1)] at he
        have HE := Lib.hid he
        clear he
        go_wp2
        go_loopw [6, 7] (fun v i wr => ∃ j : Nat, i = .int .i64 j ∧ j ≤ k ∧ Hid (wr.ownsRow w.heap.size 3 1 v j (intsC (l.take j)) ∧ Below w.heap.size w wr)) (fun _ i _ => k - (intOf i).toNat)
        case atStart => exact ⟨0, rfl, Nat.zero_le _, World.ownsRow_nil _ _ _ _, Below.refl _ _⟩
        case round =>
          obtain ⟨j, rfl, hj, HJ⟩ := hrel
          by_cases hjk : j < k
          · have hjl : j < l.length := by rw [Hn.out]; omega
            obtain ⟨b', off', e, hc0⟩ := (H.out.below (grown_below HJ.out.2)).at hjl
            try cases e
            have htk : l.take (j + 1) = l.take j ++ [l.getD j 0] := by
              rw [List.take_add_one, List.getElem?_eq_getElem hjl, List.getD_eq_getElem?_getD, List.getElem?_eq_getElem hjl]
              rfl
            obtain ⟨q, hq⟩ : ∃ q, l.getD j 0 = q := ⟨_, rfl⟩
            rw [hq] at hc0 htk
            have Htk := Lib.hid htk
            have hjn : j < n := by omega
            have HA : Hid (w.heap.size ≤ (wr.alloc (.cells #[.int .i64 q] 3)).heap.size) := by
              have h1 := HJ.out.2.size
              show _ ≤ (World.alloc _ _).heap.size
              simp
              omega
            clear htk hq hjl
            go_wp2_with (first
              | (at_builtin; refine wpList_append_own _ rfl _ _ 33 rfl w.heap.size 3 i0 (.int .i64 0) 1 8 Try.underlying33 hi hz0 hz1 hz2 rfl (by decide) u6 j (intsC (l.take j)) rfl (HJ.out.1.alloc _) ⟨wr.heap.size, 0, none⟩ 1 1 [.int .i64 q] rfl rfl (news_new wr #[.int .i64 q] 3) (intsC_one [q]) (by unfold maxLen; omega) (by omega) HA.out ?_)
              | go_in)
            intro v5 w5 hown5 hgrow5 hnil5
            have HJ5 : Hid (w5.ownsRow w.heap.size 3 1 v5 (j + 1) (intsC (l.take (j + 1))) ∧ Below w.heap.size w w5) := by
              refine ⟨?_, (HJ.out.2.alloc HJ.out.2.size _).grown hgrow5 HA.out (fun k hk => (HJ.out.1.lt k hk).1)⟩
              rw [Htk.out, intsC_snoc]
              exact hown5
            clear hown5 hgrow5 hnil5
            go_wp2
            go_roundw
            case rel => exact ⟨j + 1, by go_num, by omega, HJ5.out⟩
            case measure => simp [intOf]; omega
          · have hjk' : j = k := by omega
            subst hjk'
            have HA : Hid (w.heap.size ≤ (wr.alloc (.cells #[.int .i64 x] 3)).heap.size) := by
              have h1 := HJ.out.2.size
              show _ ≤ (World.alloc _ _).heap.size
              simp
              omega
            clear hj hjk
            go_wp2_with (first
              | (at_builtin; refine wpList_append_own _ rfl _ _ 33 rfl w.heap.size 3 i0 (.int .i64 0) 1 8 Try.underlying33 hi hz0 hz1 hz2 rfl (by decide) u6 j (intsC (l.take j)) rfl (HJ.out.1.alloc _) ⟨wr.heap.size, 0, none⟩ 1 1 [.int .i64 x] rfl rfl (news_new wr #[.int .i64 x] 3) (intsC_one [x]) (by unfold maxLen; omega) (by omega) HA.out ?_)
              | go_in)
            intro v5 w5 hown5 hgrow5 hnil5
            have HJ5 : Hid (w5.ownsRow w.heap.size 3 1 v5 (j + 1) (intsC (l.take j ++ x :: (l.drop j).take 0)) ∧ Below w.heap.size w w5) := by
              refine ⟨?_, (HJ.out.2.alloc HJ.out.2.size _).grown hgrow5 HA.out (fun k hk => (HJ.out.1.lt k hk).1)⟩
              rw [List.take_zero, intsC_snoc]
              exact hown5
            clear hown5 hgrow5 hnil5 HA
            go_wp2
            try go_frame
            go_loopw [6, 8] (fun v i wr => ∃ d : Nat, i = .int .i64 ((j + d : Nat) : Int) ∧ j + d ≤ n ∧ Hid (wr.ownsRow w.heap.size 3 1 v (j + d + 1) (intsC (l.take j ++ x :: (l.drop j).take d)) ∧ Below w.heap.size w wr)) (fun _ i _ => n - (intOf i).toNat)
            case atStart => exact ⟨0, rfl, by omega, HJ5.out⟩
            case round =>
              obtain ⟨d, rfl, hd, HD⟩ := hrel
              obtain ⟨i, hi'⟩ : ∃ i, j + d = i := ⟨_, rfl⟩
              rw [hi'] at HD hd ⊢
              have Hi := Lib.hid hi'
              clear hi'
              by_cases hin : i < n
              · have hjl : i < l.length := by rw [Hn.out]; omega
                obtain ⟨b', off', e, hc0⟩ := (H.out.below (grown_below HD.out.2)).at hjl
                try cases e
                have htk : (l.drop j).take (d + 1) = (l.drop j).take d ++ [l.getD i 0] := by
                  rw [List.take_add_one, List.getElem?_drop, Hi.out, List.getElem?_eq_getElem hjl, List.getD_eq_getElem?_getD, List.getElem?_eq_getElem hjl]
                  rfl
                obtain ⟨q, hq⟩ : ∃ q, l.getD i 0 = q := ⟨_, rfl⟩
                rw [hq] at hc0 htk
                have Htk := Lib.hid htk
                have HA : Hid (w.heap.size ≤ (wr.alloc (.cells #[.int .i64 q] 3)).heap.size) := by
                  have h1 := HD.out.2.size
                  show _ ≤ (World.alloc _ _).heap.size
                  simp
                  omega
                clear htk hq hjl
                go_wp2_with (first
                  | (at_builtin; refine wpList_append_own _ rfl _ _ 33 rfl w.heap.size 3 i0 (.int .i64 0) 1 8 Try.underlying33 hi hz0 hz1 hz2 rfl (by decide) u6 (i + 1) (intsC (l.take j ++ x :: (l.drop j).take d)) rfl (HD.out.1.alloc _) ⟨wr.heap.size, 0, none⟩ 1 1 [.int .i64 q] rfl rfl (news_new wr #[.int .i64 q] 3) (intsC_one [q]) (by unfold maxLen; omega) (by omega) HA.out ?_)
                  | go_in)
                intro v5 w5 hown5 hgrow5 hnil5
                have HJ6 : Hid (w5.ownsRow w.heap.size 3 1 v5 (j + (d + 1) + 1) (intsC (l.take j ++ x :: (l.drop j).take (d + 1))) ∧ Below w.heap.size w w5) := by
                  refine ⟨?_, (HD.out.2.alloc HD.out.2.size _).grown hgrow5 HA.out (fun k hk => (HD.out.1.lt k hk).1)⟩
                  have e3 : l.take j ++ x :: ((l.drop j).take d ++ [q]) = (l.take j ++ x :: (l.drop j).take d) ++ [q] := by simp
                  rw [Htk.out, e3, intsC_snoc, ← Nat.add_assoc, Hi.out]
                  exact hown5
                clear hown5 hgrow5 hnil5
                go_wp2
                go_roundw
                case rel => exact ⟨d + 1, by rw [← Nat.add_assoc, Hi.out]; go_num, by have := Hi.out; omega, HJ6.out⟩
                case measure => simp [intOf]; omega
              · have hin' : i = n := by omega
                have HR : Hid (wr.ownsRow w.heap.size 3 1 u6 (n + 1) (intsC R)) := by
                  have h1 := HD.out.1
                  have h2 : (l.drop j).take d = l.drop j := List.take_of_length_le (by have := Hi.out; have := Hn.out; simp; omega)
                  rw [h2, hin'] at h1
                  show World.ownsRow _ _ _ _ _ _ _
                  rw [HE.out]
                  exact h1
                obtain ⟨a', c', rfl, hRl, hsl⟩ := row_slI HR.out
                have Hsl := Lib.hid hsl
                have HRl := Lib.hid hRl
                clear hsl hRl hin hd
                go_wp2
                go_ret
                exact ⟨a', c', by rw [HRl.out]; rfl, Hsl.out, HD.out.2⟩

set_option maxHeartbeats 1000000 in
theorem same_ints (a1 a2 : Option Addr) (c1 c2 : Nat) (l : List Int) (hn : l.length ≤ 100000) (w : World) (h1 : SlI w a1 l) (h2 : SlI w a2 l) :
    Calls Try.prog 15 #[.slice a1 l.length c1, .slice a2 l.length c2] w fun e w' => e = .returned (.bool true) ∧ Hid (Below w.heap.size w w') := by
  obtain ⟨n, hnn⟩ : ∃ n, l.length = n := ⟨_, rfl⟩
  rw [hnn] at hn ⊢
  have H1 := Lib.hid h1
  have H2 := Lib.hid h2
  have Hn := Lib.hid hnn
  clear h1 h2 hnn
  go_enter Try.func15, Try.ntmps15
  go_wp2
  go_loopw [5] (fun i wr => ∃ k : Nat, i = .int .i64 k ∧ k ≤ n ∧ Hid (SlI wr a1 l ∧ SlI wr a2 l ∧ Below w.heap.size w wr)) (fun i _ => n - (intOf i).toNat)
  case atStart => exact ⟨0, rfl, Nat.zero_le _, H1.out, H2.out, Below.refl _ _⟩
  case round =>
    obtain ⟨k, rfl, hk, HR⟩ := hrel
    by_cases hlt : k < n
    · obtain ⟨b1, off1, e1, p0⟩ := HR.out.1.at (k := k) (by rw [Hn.out]; exact hlt)
      obtain ⟨b2, off2, e2, r0⟩ := HR.out.2.1.at (k := k) (by rw [Hn.out]; exact hlt)
      cases e1
      cases e2
      obtain ⟨q, hq⟩ : ∃ q, l.getD k 0 = q := ⟨_, rfl⟩
      rw [hq] at p0 r0
      clear hq
      go_wp2
      go_region_held3 (fun w' => w'.cell? ⟨b1, off1 + k, none⟩ = some (.int .i64 q) ∧ w'.cell? ⟨b2, off2 + k, none⟩ = some (.int .i64 q)) (go_keep) (fail)
      try clear hHeld
      go_wp2
      go_roundw
      case rel => exact ⟨k + 1, by go_num, by omega, HR.out.1, HR.out.2.1, HR.out.2.2.drew⟩
      case measure => simp [intOf]; omega
    · have hkn : k = n := by omega
      subst hkn
      clear hlt hk
      go_wp2
      go_ret
      exact ⟨rfl, HR.out.2.2⟩

set_option maxHeartbeats 2000000 in
set_option maxRecDepth 100000 in
theorem ahead9_any (a : Option Addr) (c : Nat) (l : List Pr) (x : Int) (hn : l.length ≤ 100000) (w : World) (h : SlP w a l) :
    Calls Try.prog 17 #[.slice a l.length c, .int .i64 x] w fun e w' => ∃ a' c', e = .returned (.slice a' (aheadI l x).length c') ∧ Hid (SlI w' a' (aheadI l x) ∧ Below w.heap.size w w') := by
  obtain ⟨n, hnn⟩ : ∃ n, l.length = n := ⟨_, rfl⟩
  rw [hnn] at hn ⊢
  have H := Lib.hid h
  have Hn := Lib.hid hnn
  clear h hnn
  go_enter Try.func17, Try.ntmps17
  go_wp2
  go_loopw [5, 6] (fun v i wr => ∃ (k : Nat) (a5 : Option Addr) (c5 : Nat) (O : List Int), i = .int .i64 k ∧ v = .slice a5 O.length c5 ∧ k ≤ n ∧ Hid (O = aheadI (l.take k) x ∧ SlI wr a5 O ∧ Below w.heap.size w wr)) (fun _ i _ => n - (intOf i).toNat)
  case atStart => exact ⟨0, none, 0, [], rfl, rfl, Nat.zero_le _, rfl, .inl rfl, Below.refl _ _⟩
  case round =>
    obtain ⟨k, a5, c5, O, rfl, rfl, hk, HR⟩ := hrel
    by_cases hlt : k < n
    · have hkl : k < l.length := by rw [Hn.out]; exact hlt
      obtain ⟨b', off', rfl, hc0, hc1⟩ := (H.out.below HR.out.2.2).at hkl
      have htk : l.take (k + 1) = l.take k ++ [l.getD k (0, 0)] := by
        rw [List.take_add_one, List.getElem?_eq_getElem hkl, List.getD_eq_getElem?_getD, List.getElem?_eq_getElem hkl]
        rfl
      have hol : O.length ≤ 100000 := by
        rw [HR.out.1]
        have h1 := aheadI_len (l.take k) x
        rw [List.length_take] at h1
        omega
      have Hput := Lib.hid (puti_any a5 c5 O (l.getD k (0, 0)).1 hol wr HR.out.2.1)
      obtain ⟨q, hq⟩ : ∃ q, l.getD k (0, 0) = q := ⟨_, rfl⟩
      obtain ⟨q1, q2⟩ := q
      rw [hq] at hc0 hc1 htk Hput
      simp only at hc0 hc1 Hput
      have Htk := Lib.hid htk
      by_cases hqx : q2 = x
      · have e1 : (q2 == x) = true := by simpa using hqx
        have HO : Hid (aheadI (l.take (k + 1)) x = putI O q1) := by
          show _ = _
          rw [Htk.out, aheadI_snoc, HR.out.1]
          simp [hqx]
        clear htk hkl hq hol hqx
        go_wp2_with (first
          | (go_at_call 39; refine Hput.out.mono ?_; rintro e w5 ⟨a7, c7, rfl, h5⟩)
          | go_in)
        have HB : Hid (Below w.heap.size w w5) := HR.out.2.2.trans (h5.out.2.mono HR.out.2.2.size)
        go_wp2
        go_roundw
        case rel => exact ⟨k + 1, a7, c7, _, by go_num, rfl, by omega, HO.out.symm, h5.out.1, HB.out⟩
        case measure => simp [intOf]; omega
      · have e1 : (q2 == x) = false := by simpa using hqx
        have HO : Hid (aheadI (l.take (k + 1)) x = O) := by
          show _ = _
          rw [Htk.out, aheadI_snoc, HR.out.1]
          simp [hqx]
        clear htk hkl hq hol hqx Hput
        go_wp2
        go_roundw
        case rel => exact ⟨k + 1, a5, c5, _, by go_num, rfl, by omega, HO.out.symm, HR.out.2.1, HR.out.2.2⟩
        case measure => simp [intOf]; omega
    · have hkn : k = n := by omega
      have HO : Hid (O = aheadI l x) := by
        have h2 := HR.out.1
        rw [hkn, ← Hn.out, List.take_length] at h2
        exact h2
      subst hkn
      clear hlt hk
      go_wp2
      go_ret
      exact ⟨a5, c5, by rw [← HO.out]; rfl, HO.out ▸ HR.out.2.1, HR.out.2.2⟩

set_option maxHeartbeats 2000000 in
set_option maxRecDepth 100000 in
theorem behind9_any (a : Option Addr) (c : Nat) (l : List Pr) (x : Int) (hn : l.length ≤ 100000) (w : World) (h : SlP w a l) :
    Calls Try.prog 19 #[.slice a l.length c, .int .i64 x] w fun e w' => ∃ a' c', e = .returned (.slice a' (behindI l x).length c') ∧ Hid (SlI w' a' (behindI l x) ∧ Below w.heap.size w w') := by
  obtain ⟨n, hnn⟩ : ∃ n, l.length = n := ⟨_, rfl⟩
  rw [hnn] at hn ⊢
  have H := Lib.hid h
  have Hn := Lib.hid hnn
  clear h hnn
  go_enter Try.func19, Try.ntmps19
  go_wp2
  go_loopw [5, 6] (fun v i wr => ∃ (k : Nat) (a5 : Option Addr) (c5 : Nat) (O : List Int), i = .int .i64 k ∧ v = .slice a5 O.length c5 ∧ k ≤ n ∧ Hid (O = behindI (l.take k) x ∧ SlI wr a5 O ∧ Below w.heap.size w wr)) (fun _ i _ => n - (intOf i).toNat)
  case atStart => exact ⟨0, none, 0, [], rfl, rfl, Nat.zero_le _, rfl, .inl rfl, Below.refl _ _⟩
  case round =>
    obtain ⟨k, a5, c5, O, rfl, rfl, hk, HR⟩ := hrel
    by_cases hlt : k < n
    · have hkl : k < l.length := by rw [Hn.out]; exact hlt
      obtain ⟨b', off', rfl, hc0, hc1⟩ := (H.out.below HR.out.2.2).at hkl
      have htk : l.take (k + 1) = l.take k ++ [l.getD k (0, 0)] := by
        rw [List.take_add_one, List.getElem?_eq_getElem hkl, List.getD_eq_getElem?_getD, List.getElem?_eq_getElem hkl]
        rfl
      have hol : O.length ≤ 100000 := by
        rw [HR.out.1]
        have h1 := behindI_len (l.take k) x
        rw [List.length_take] at h1
        omega
      have Hput := Lib.hid (puti_any a5 c5 O (l.getD k (0, 0)).2 hol wr HR.out.2.1)
      obtain ⟨q, hq⟩ : ∃ q, l.getD k (0, 0) = q := ⟨_, rfl⟩
      obtain ⟨q1, q2⟩ := q
      rw [hq] at hc0 hc1 htk Hput
      simp only at hc0 hc1 Hput
      have Htk := Lib.hid htk
      by_cases hqx : q1 = x
      · have e1 : (q1 == x) = true := by simpa using hqx
        have HO : Hid (behindI (l.take (k + 1)) x = putI O q2) := by
          show _ = _
          rw [Htk.out, behindI_snoc, HR.out.1]
          simp [hqx]
        clear htk hkl hq hol hqx
        go_wp2_with (first
          | (go_at_call 39; refine Hput.out.mono ?_; rintro e w5 ⟨a7, c7, rfl, h5⟩)
          | go_in)
        have HB : Hid (Below w.heap.size w w5) := HR.out.2.2.trans (h5.out.2.mono HR.out.2.2.size)
        go_wp2
        go_roundw
        case rel => exact ⟨k + 1, a7, c7, _, by go_num, rfl, by omega, HO.out.symm, h5.out.1, HB.out⟩
        case measure => simp [intOf]; omega
      · have e1 : (q1 == x) = false := by simpa using hqx
        have HO : Hid (behindI (l.take (k + 1)) x = O) := by
          show _ = _
          rw [Htk.out, behindI_snoc, HR.out.1]
          simp [hqx]
        clear htk hkl hq hol hqx Hput
        go_wp2
        go_roundw
        case rel => exact ⟨k + 1, a5, c5, _, by go_num, rfl, by omega, HO.out.symm, HR.out.2.1, HR.out.2.2⟩
        case measure => simp [intOf]; omega
    · have hkn : k = n := by omega
      have HO : Hid (O = behindI l x) := by
        have h2 := HR.out.1
        rw [hkn, ← Hn.out, List.take_length] at h2
        exact h2
      subst hkn
      clear hlt hk
      go_wp2
      go_ret
      exact ⟨a5, c5, by rw [← HO.out]; rfl, HO.out ▸ HR.out.2.1, HR.out.2.2⟩
end Go.Proofs.Ytadlgkakjaecdaa
