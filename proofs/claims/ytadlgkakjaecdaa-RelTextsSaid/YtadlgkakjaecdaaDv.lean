/- The document's number laid in, and where what it answers lies. -/
import Derived.Test.YtadlgkakjaecdaaDu
import Derived.Test.YtadlgkakjaecdaaPc
import Derived.Deep.AppendLies
namespace Go.Proofs.Ytadlgkakjaecdaa
open Go.RowKit Go.Maps Go.WideMaps Go.WideElems Go.ChangeShapes Go.WideShapes

set_option maxHeartbeats 4000000 in
set_option maxRecDepth 100000 in
theorem puti_at (a : Option Addr) (c : Nat) (l : List Int) (x : Int) (hn : l.length ≤ 100000) (w : World) (h : SlI w a l) :
    Calls Try.prog 39 #[.slice a l.length c, .int .i64 x] w fun e w' => ∃ a' c', e = .returned (.slice a' (putI l x).length c') ∧ Hid (SlI w' a' (putI l x) ∧ Below w.heap.size w w' ∧ (a' = a ∨ ∀ g o, a' = some ⟨g, o, none⟩ → w.heap.size ≤ g)) := by
  obtain ⟨i0, hi, hz0, hz1, hz2⟩ := info_parts elem3
  obtain ⟨n, hnn⟩ : ∃ n, l.length = n := ⟨_, rfl⟩
  obtain ⟨m, hm⟩ : ∃ m, lessN x l = m := ⟨_, rfl⟩
  have Hmn : Hid (m ≤ n) := by show _ ≤ _; rw [← hm, ← hnn]; exact lessN_le _ _
  obtain ⟨R, hR⟩ : ∃ R, putI l x = R := ⟨_, rfl⟩
  have He : Hid (R = if m < n ∧ l.getD m 0 = x then l else l.take m ++ x :: l.drop m) := by
    show _ = _
    rw [← hR, ← hm, ← hnn]; rfl
  rw [hnn] at hn
  rw [hR, hnn]
  have H := Lib.hid h
  have Hn := Lib.hid hnn
  have Hm := Lib.hid hm
  clear h hnn hR hm
  go_enter Try.func39, Try.ntmps39
  go_wp2
  go_loop [5] (fun i => ∃ k : Nat, k ≤ m ∧ i = .int .i64 k) (fun i => n - (intOf i).toNat)
  case atStart => exact ⟨0, Nat.zero_le _, rfl⟩
  case round =>
    obtain ⟨k, hk, rfl⟩ := hrel
    have hmn := Hmn.out
    by_cases hlt : k < m
    · obtain ⟨hkl, hlp⟩ := lessN_lt (x := x) (l := l) (k := k) (by rw [Hm.out]; exact hlt)
      obtain ⟨b, off, rfl, hc0⟩ := H.out.at hkl
      rw [Hn.out] at hkl
      obtain ⟨q, hq⟩ : ∃ q, l.getD k 0 = q := ⟨_, rfl⟩
      rw [hq] at hc0 hlp
      have e1 : decide (q < x) = true := by simpa using hlp
      clear hq hlp
      go_wp2
      go_round
      case rel => exact ⟨k + 1, by omega, by go_num⟩
      case measure => simp [intOf]; omega
    · have hkm : k = m := by omega
      subst hkm
      by_cases hkl : k < n
      · have hlp := lessN_stop (x := x) (l := l) (by rw [Hm.out, Hn.out]; exact hkl)
        rw [Hm.out] at hlp
        obtain ⟨b, off, rfl, hc0⟩ := H.out.at (k := k) (by rw [Hn.out]; exact hkl)
        obtain ⟨q, hq⟩ : ∃ q, l.getD k 0 = q := ⟨_, rfl⟩
        have he := He.out
        rw [hq] at hc0 hlp he
        have e1 : decide (q < x) = false := by simp; omega
        by_cases hqx : q = x
        · rw [if_pos ⟨hkl, hqx⟩] at he
          have HE := Lib.hid he
          have e2 : (q == x) = true := by simpa using hqx
          clear hq hlp he hqx
          go_wp2
          go_ret
          rw [HE.out, Hn.out]
          exact ⟨some ⟨b, off, none⟩, ⟨c, rfl⟩, H.out, Below.refl _ _, .inl rfl⟩
        · rw [if_neg (fun e => hqx e.2)] at he
          have HE := Lib.hid he
          have e2 : (q == x) = false := by simpa using hqx
          clear hq hlp he hqx
          go_wp2
          clear hc0 e1 e2
          go_loopw [6, 7] (fun v i wr => ∃ j : Nat, i = .int .i64 j ∧ j ≤ k ∧ Hid (wr.ownsRow w.heap.size 3 1 v j (intsC (l.take j)) ∧ Below w.heap.size w wr)) (fun _ i _ => k - (intOf i).toNat)
          case atStart => exact ⟨0, rfl, Nat.zero_le _, World.ownsRow_nil _ _ _ _, Below.refl _ _⟩
          case round =>
            obtain ⟨j, rfl, hj, HJ⟩ := hrel
            by_cases hjk : j < k
            · have hjl : j < l.length := by rw [Hn.out]; omega
              obtain ⟨b', off', e, hc0⟩ := (H.out.below (grown_below HJ.out.2)).at hjl
              try cases e
              have htk : l.take (j + 1) = l.take j ++ [l.getD j 0] := by
                rw [List.take_add_one, List.getElem?_eq_getElem hjl, List.getD_eq_getElem?_getD, List.getElem?_eq_getElem hjl]
                rfl
              obtain ⟨q, hq⟩ : ∃ q, l.getD j 0 = q := ⟨_, rfl⟩
              rw [hq] at hc0 htk
              have Htk := Lib.hid htk
              have hjn : j < n := by omega
              have HA : Hid (w.heap.size ≤ (wr.alloc (.cells #[.int .i64 q] 3)).heap.size) := by
                have h1 := HJ.out.2.size
                show _ ≤ (World.alloc _ _).heap.size
                simp
                omega
              clear htk hq hjl
              go_wp2_with (first
                | (at_builtin; refine wpList_append_own _ rfl _ _ 33 rfl w.heap.size 3 i0 (.int .i64 0) 1 8 Try.underlying33 hi hz0 hz1 hz2 rfl (by decide) u6 j (intsC (l.take j)) rfl (HJ.out.1.alloc _) ⟨wr.heap.size, 0, none⟩ 1 1 [.int .i64 q] rfl rfl (news_new wr #[.int .i64 q] 3) (intsC_one [q]) (by unfold maxLen; omega) (by omega) HA.out ?_)
                | go_in)
              intro v5 w5 hown5 hgrow5 hnil5
              have HJ5 : Hid (w5.ownsRow w.heap.size 3 1 v5 (j + 1) (intsC (l.take (j + 1))) ∧ Below w.heap.size w w5) := by
                refine ⟨?_, (HJ.out.2.alloc HJ.out.2.size _).grown hgrow5 HA.out (fun k hk => (HJ.out.1.lt k hk).1)⟩
                rw [Htk.out, intsC_snoc]
                exact hown5
              clear hown5 hgrow5 hnil5
              go_wp2
              go_roundw
              case rel => exact ⟨j + 1, by go_num, by omega, HJ5.out⟩
              case measure => simp [intOf]; omega
            · have hjk' : j = k := by omega
              subst hjk'
              have HA : Hid (w.heap.size ≤ (wr.alloc (.cells #[.int .i64 x] 3)).heap.size) := by
                have h1 := HJ.out.2.size
                show _ ≤ (World.alloc _ _).heap.size
                simp
                omega
              clear hj hjk
              go_wp2_with (first
                | (at_builtin; refine wpList_append_own _ rfl _ _ 33 rfl w.heap.size 3 i0 (.int .i64 0) 1 8 Try.underlying33 hi hz0 hz1 hz2 rfl (by decide) u6 j (intsC (l.take j)) rfl (HJ.out.1.alloc _) ⟨wr.heap.size, 0, none⟩ 1 1 [.int .i64 x] rfl rfl (news_new wr #[.int .i64 x] 3) (intsC_one [x]) (by unfold maxLen; omega) (by omega) HA.out ?_)
                | go_in)
              intro v5 w5 hown5 hgrow5 hnil5
              have HJ5 : Hid (w5.ownsRow w.heap.size 3 1 v5 (j + 1) (intsC (l.take j ++ x :: (l.drop j).take 0)) ∧ Below w.heap.size w w5) := by
                refine ⟨?_, (HJ.out.2.alloc HJ.out.2.size _).grown hgrow5 HA.out (fun k hk => (HJ.out.1.lt k hk).1)⟩
                rw [List.take_zero, intsC_snoc]
                exact hown5
              clear hown5 hgrow5 hnil5 HA
              go_wp2
              try go_frame
              go_loopw [6, 8] (fun v i wr => ∃ d : Nat, i = .int .i64 ((j + d : Nat) : Int) ∧ j + d ≤ n ∧ Hid (wr.ownsRow w.heap.size 3 1 v (j + d + 1) (intsC (l.take j ++ x :: (l.drop j).take d)) ∧ Below w.heap.size w wr)) (fun _ i _ => n - (intOf i).toNat)
              case atStart => exact ⟨0, rfl, by omega, HJ5.out⟩
              case round =>
                obtain ⟨d, rfl, hd, HD⟩ := hrel
                obtain ⟨i, hi'⟩ : ∃ i, j + d = i := ⟨_, rfl⟩
                rw [hi'] at HD hd ⊢
                have Hi := Lib.hid hi'
                clear hi'
                by_cases hin : i < n
                · have hjl : i < l.length := by rw [Hn.out]; omega
                  obtain ⟨b', off', e, hc0⟩ := (H.out.below (grown_below HD.out.2)).at hjl
                  try cases e
                  have htk : (l.drop j).take (d + 1) = (l.drop j).take d ++ [l.getD i 0] := by
                    rw [List.take_add_one, List.getElem?_drop, Hi.out, List.getElem?_eq_getElem hjl, List.getD_eq_getElem?_getD, List.getElem?_eq_getElem hjl]
                    rfl
                  obtain ⟨q, hq⟩ : ∃ q, l.getD i 0 = q := ⟨_, rfl⟩
                  rw [hq] at hc0 htk
                  have Htk := Lib.hid htk
                  have HA : Hid (w.heap.size ≤ (wr.alloc (.cells #[.int .i64 q] 3)).heap.size) := by
                    have h1 := HD.out.2.size
                    show _ ≤ (World.alloc _ _).heap.size
                    simp
                    omega
                  clear htk hq hjl
                  go_wp2_with (first
                    | (at_builtin; refine wpList_append_own _ rfl _ _ 33 rfl w.heap.size 3 i0 (.int .i64 0) 1 8 Try.underlying33 hi hz0 hz1 hz2 rfl (by decide) u6 (i + 1) (intsC (l.take j ++ x :: (l.drop j).take d)) rfl (HD.out.1.alloc _) ⟨wr.heap.size, 0, none⟩ 1 1 [.int .i64 q] rfl rfl (news_new wr #[.int .i64 q] 3) (intsC_one [q]) (by unfold maxLen; omega) (by omega) HA.out ?_)
                    | go_in)
                  intro v5 w5 hown5 hgrow5 hnil5
                  have HJ6 : Hid (w5.ownsRow w.heap.size 3 1 v5 (j + (d + 1) + 1) (intsC (l.take j ++ x :: (l.drop j).take (d + 1))) ∧ Below w.heap.size w w5) := by
                    refine ⟨?_, (HD.out.2.alloc HD.out.2.size _).grown hgrow5 HA.out (fun k hk => (HD.out.1.lt k hk).1)⟩
                    have e3 : l.take j ++ x :: ((l.drop j).take d ++ [q]) = (l.take j ++ x :: (l.drop j).take d) ++ [q] := by simp
                    rw [Htk.out, e3, intsC_snoc, ← Nat.add_assoc, Hi.out]
                    exact hown5
                  clear hown5 hgrow5 hnil5
                  go_wp2
                  go_roundw
                  case rel => exact ⟨d + 1, by rw [← Nat.add_assoc, Hi.out]; go_num, by have := Hi.out; omega, HJ6.out⟩
                  case measure => simp [intOf]; omega
                · have hin' : i = n := by omega
                  have HR : Hid (wr.ownsRow w.heap.size 3 1 u6 (n + 1) (intsC R)) := by
                    have h1 := HD.out.1
                    have h2 : (l.drop j).take d = l.drop j := List.take_of_length_le (by have := Hi.out; have := Hn.out; simp; omega)
                    rw [h2, hin'] at h1
                    show World.ownsRow _ _ _ _ _ _ _
                    rw [HE.out]
                    exact h1
                  obtain ⟨a', c', rfl, hRl, hsl⟩ := row_slI HR.out
                  have HN : Hid (∀ g o, a' = some ⟨g, o, none⟩ → w.heap.size ≤ g) := fun g o e => (HR.out.lt g (by rw [e]; rfl)).1
                  have Hsl := Lib.hid hsl
                  have HRl := Lib.hid hRl
                  clear hsl hRl hin hd
                  go_wp2
                  go_ret
                  exact ⟨a', c', by rw [HRl.out]; rfl, Hsl.out, HD.out.2, .inr HN.out⟩
      · have he := He.out
        rw [if_neg (fun e => hkl e.1)] at he
        have HE := Lib.hid he
        clear he
        go_wp2
        go_loopw [6, 7] (fun v i wr => ∃ j : Nat, i = .int .i64 j ∧ j ≤ k ∧ Hid (wr.ownsRow w.heap.size 3 1 v j (intsC (l.take j)) ∧ Below w.heap.size w wr)) (fun _ i _ => k - (intOf i).toNat)
        case atStart => exact ⟨0, rfl, Nat.zero_le _, World.ownsRow_nil _ _ _ _, Below.refl _ _⟩
        case round =>
          obtain ⟨j, rfl, hj, HJ⟩ := hrel
          by_cases hjk : j < k
          · have hjl : j < l.length := by rw [Hn.out]; omega
            obtain ⟨b', off', e, hc0⟩ := (H.out.below (grown_below HJ.out.2)).at hjl
            try cases e
            have htk : l.take (j + 1) = l.take j ++ [l.getD j 0] := by
              rw [List.take_add_one, List.getElem?_eq_getElem hjl, List.getD_eq_getElem?_getD, List.getElem?_eq_getElem hjl]
              rfl
            obtain ⟨q, hq⟩ : ∃ q, l.getD j 0 = q := ⟨_, rfl⟩
            rw [hq] at hc0 htk
            have Htk := Lib.hid htk
            have hjn : j < n := by omega
            have HA : Hid (w.heap.size ≤ (wr.alloc (.cells #[.int .i64 q] 3)).heap.size) := by
              have h1 := HJ.out.2.size
              show _ ≤ (World.alloc _ _).heap.size
              simp
              omega
            clear htk hq hjl
            go_wp2_with (first
              | (at_builtin; refine wpList_append_own _ rfl _ _ 33 rfl w.heap.size 3 i0 (.int .i64 0) 1 8 Try.underlying33 hi hz0 hz1 hz2 rfl (by decide) u6 j (intsC (l.take j)) rfl (HJ.out.1.alloc _) ⟨wr.heap.size, 0, none⟩ 1 1 [.int .i64 q] rfl rfl (news_new wr #[.int .i64 q] 3) (intsC_one [q]) (by unfold maxLen; omega) (by omega) HA.out ?_)
              | go_in)
            intro v5 w5 hown5 hgrow5 hnil5
            have HJ5 : Hid (w5.ownsRow w.heap.size 3 1 v5 (j + 1) (intsC (l.take (j + 1))) ∧ Below w.heap.size w w5) := by
              refine ⟨?_, (HJ.out.2.alloc HJ.out.2.size _).grown hgrow5 HA.out (fun k hk => (HJ.out.1.lt k hk).1)⟩
              rw [Htk.out, intsC_snoc]
              exact hown5
            clear hown5 hgrow5 hnil5
            go_wp2
            go_roundw
            case rel => exact ⟨j + 1, by go_num, by omega, HJ5.out⟩
            case measure => simp [intOf]; omega
          · have hjk' : j = k := by omega
            subst hjk'
            have HA : Hid (w.heap.size ≤ (wr.alloc (.cells #[.int .i64 x] 3)).heap.size) := by
              have h1 := HJ.out.2.size
              show _ ≤ (World.alloc _ _).heap.size
              simp
              omega
            clear hj hjk
            go_wp2_with (first
              | (at_builtin; refine wpList_append_own _ rfl _ _ 33 rfl w.heap.size 3 i0 (.int .i64 0) 1 8 Try.underlying33 hi hz0 hz1 hz2 rfl (by decide) u6 j (intsC (l.take j)) rfl (HJ.out.1.alloc _) ⟨wr.heap.size, 0, none⟩ 1 1 [.int .i64 x] rfl rfl (news_new wr #[.int .i64 x] 3) (intsC_one [x]) (by unfold maxLen; omega) (by omega) HA.out ?_)
              | go_in)
            intro v5 w5 hown5 hgrow5 hnil5
            have HJ5 : Hid (w5.ownsRow w.heap.size 3 1 v5 (j + 1) (intsC (l.take j ++ x :: (l.drop j).take 0)) ∧ Below w.heap.size w w5) := by
              refine ⟨?_, (HJ.out.2.alloc HJ.out.2.size _).grown hgrow5 HA.out (fun k hk => (HJ.out.1.lt k hk).1)⟩
              rw [List.take_zero, intsC_snoc]
              exact hown5
            clear hown5 hgrow5 hnil5 HA
            go_wp2
            try go_frame
            go_loopw [6, 8] (fun v i wr => ∃ d : Nat, i = .int .i64 ((j + d : Nat) : Int) ∧ j + d ≤ n ∧ Hid (wr.ownsRow w.heap.size 3 1 v (j + d + 1) (intsC (l.take j ++ x :: (l.drop j).take d)) ∧ Below w.heap.size w wr)) (fun _ i _ => n - (intOf i).toNat)
            case atStart => exact ⟨0, rfl, by omega, HJ5.out⟩
            case round =>
              obtain ⟨d, rfl, hd, HD⟩ := hrel
              obtain ⟨i, hi'⟩ : ∃ i, j + d = i := ⟨_, rfl⟩
              rw [hi'] at HD hd ⊢
              have Hi := Lib.hid hi'
              clear hi'
              by_cases hin : i < n
              · have hjl : i < l.length := by rw [Hn.out]; omega
                obtain ⟨b', off', e, hc0⟩ := (H.out.below (grown_below HD.out.2)).at hjl
                try cases e
                have htk : (l.drop j).take (d + 1) = (l.drop j).take d ++ [l.getD i 0] := by
                  rw [List.take_add_one, List.getElem?_drop, Hi.out, List.getElem?_eq_getElem hjl, List.getD_eq_getElem?_getD, List.getElem?_eq_getElem hjl]
                  rfl
                obtain ⟨q, hq⟩ : ∃ q, l.getD i 0 = q := ⟨_, rfl⟩
                rw [hq] at hc0 htk
                have Htk := Lib.hid htk
                have HA : Hid (w.heap.size ≤ (wr.alloc (.cells #[.int .i64 q] 3)).heap.size) := by
                  have h1 := HD.out.2.size
                  show _ ≤ (World.alloc _ _).heap.size
                  simp
                  omega
                clear htk hq hjl
                go_wp2_with (first
                  | (at_builtin; refine wpList_append_own _ rfl _ _ 33 rfl w.heap.size 3 i0 (.int .i64 0) 1 8 Try.underlying33 hi hz0 hz1 hz2 rfl (by decide) u6 (i + 1) (intsC (l.take j ++ x :: (l.drop j).take d)) rfl (HD.out.1.alloc _) ⟨wr.heap.size, 0, none⟩ 1 1 [.int .i64 q] rfl rfl (news_new wr #[.int .i64 q] 3) (intsC_one [q]) (by unfold maxLen; omega) (by omega) HA.out ?_)
                  | go_in)
                intro v5 w5 hown5 hgrow5 hnil5
                have HJ6 : Hid (w5.ownsRow w.heap.size 3 1 v5 (j + (d + 1) + 1) (intsC (l.take j ++ x :: (l.drop j).take (d + 1))) ∧ Below w.heap.size w w5) := by
                  refine ⟨?_, (HD.out.2.alloc HD.out.2.size _).grown hgrow5 HA.out (fun k hk => (HD.out.1.lt k hk).1)⟩
                  have e3 : l.take j ++ x :: ((l.drop j).take d ++ [q]) = (l.take j ++ x :: (l.drop j).take d) ++ [q] := by simp
                  rw [Htk.out, e3, intsC_snoc, ← Nat.add_assoc, Hi.out]
                  exact hown5
                clear hown5 hgrow5 hnil5
                go_wp2
                go_roundw
                case rel => exact ⟨d + 1, by rw [← Nat.add_assoc, Hi.out]; go_num, by have := Hi.out; omega, HJ6.out⟩
                case measure => simp [intOf]; omega
              · have hin' : i = n := by omega
                have HR : Hid (wr.ownsRow w.heap.size 3 1 u6 (n + 1) (intsC R)) := by
                  have h1 := HD.out.1
                  have h2 : (l.drop j).take d = l.drop j := List.take_of_length_le (by have := Hi.out; have := Hn.out; simp; omega)
                  rw [h2, hin'] at h1
                  show World.ownsRow _ _ _ _ _ _ _
                  rw [HE.out]
                  exact h1
                obtain ⟨a', c', rfl, hRl, hsl⟩ := row_slI HR.out
                have HN : Hid (∀ g o, a' = some ⟨g, o, none⟩ → w.heap.size ≤ g) := fun g o e => (HR.out.lt g (by rw [e]; rfl)).1
                have Hsl := Lib.hid hsl
                have HRl := Lib.hid hRl
                clear hsl hRl hin hd
                go_wp2
                go_ret
                exact ⟨a', c', by rw [HRl.out]; rfl, Hsl.out, HD.out.2, .inr HN.out⟩

/-- A slice of numbers stays where another block is written. -/
theorem SlI.keep {W W' : World} {a : Option Addr} {l : List Int} {row : Option Nat} (h : SlI W a l) (hg : W.grownBy W' row) (hr : ∀ g o k, a = some ⟨g, o, none⟩ → row = some k → g ≠ k) : SlI W' a l := by
  rcases h with h | ⟨b, off, e, hl, h⟩
  · exact .inl h
  · refine .inr ⟨b, off, e, fun hx => Nat.lt_of_lt_of_le (hl hx) hg.size, fun k x hk => ?_⟩
    exact hg.cell (h k x hk) (fun e2 => hr b off b e e2.symm rfl)
/-- A list of numbers, not empty or of unknown place, lies below the heap's end. -/
theorem SlI.lt {W : World} {g o : Nat} {l : List Int} (h : SlI W (some ⟨g, o, none⟩) l) (hl : l ≠ []) : g < W.heap.size := by
  rcases h with h | ⟨b, off, e, hb, _⟩
  · exact absurd h hl
  · cases e; exact hb hl
end Go.Proofs.Ytadlgkakjaecdaa
