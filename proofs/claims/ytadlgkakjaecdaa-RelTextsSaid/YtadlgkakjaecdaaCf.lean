/- The document's Circle, Fits and Ints, by contracts. -/
import Derived.Test.YtadlgkakjaecdaaCd
namespace Go.Proofs.Ytadlgkakjaecdaa
open Go.RowKit Go.Maps Go.WideMaps Go.WideElems Go.ChangeShapes Go.WideShapes

set_option maxHeartbeats 2000000 in
set_option maxRecDepth 100000 in
theorem circle9_any (a : Option Addr) (c : Nat) (l : List Pr) (hn : l.length ≤ 100) (hr : RiseP l) (w : World) (h : SlP w a l) :
    Calls Try.prog 27 #[.slice a l.length c] w fun e w' => ∃ b, e = .returned (.bool b) ∧ Hid ((b = true ↔ ∃ z, TC l z z) ∧ Below w.heap.size w w') := by
  have Hclo := Lib.hid (closure9_any a c l hn hr w h)
  obtain ⟨n, hnn⟩ : ∃ n, l.length = n := ⟨_, rfl⟩
  rw [hnn] at Hclo ⊢
  have Hln : Hid (l.length ≤ 100) := hn
  clear h hn hr hnn
  go_enter Try.func27, Try.ntmps27
  go_wp2_with (first
    | (go_at_call 25; refine Hclo.out.mono ?_; rintro e w1 ⟨a1, c1, m, out, rfl, h1⟩
       have hm : m ≤ 10000 := by
         rw [← h1.out.1]
         exact tc_bound Hln.out out (rise_nodup h1.out.2.1) (fun p hp => (h1.out.2.2.1 p).1 hp))
    | go_in)
  try go_frame
  go_loopw [4] (fun i wr => ∃ k : Nat, i = .int .i64 k ∧ k ≤ m ∧ Hid (SlP wr a1 out ∧ Below w.heap.size w wr ∧ ∀ p ∈ out.take k, p.1 ≠ p.2)) (fun i _ => m - (intOf i).toNat)
  case atStart => exact ⟨0, rfl, Nat.zero_le _, h1.out.2.2.2.1, h1.out.2.2.2.2, by simp⟩
  case round =>
    obtain ⟨k, rfl, hk, HR⟩ := hrel
    by_cases hlt : k < m
    · have hkl : k < out.length := by rw [h1.out.1]; exact hlt
      obtain ⟨b', off', rfl, p0, p1⟩ := HR.out.1.at hkl
      have Htk := Lib.hid (take_one hkl)
      have hmem : out.getD k (0, 0) ∈ out := by
        rw [List.getD_eq_getElem?_getD, List.getElem?_eq_getElem hkl]
        exact List.getElem_mem hkl
      obtain ⟨q, hq⟩ : ∃ q, out.getD k (0, 0) = q := ⟨_, rfl⟩
      obtain ⟨q1, q2⟩ := q
      rw [hq] at p0 p1 Htk hmem
      simp only at p0 p1
      have Hmem := Lib.hid hmem
      clear hq hmem hkl
      go_wp2
      go_region_held3 (fun w' => w'.cell? ⟨b', off' + k * 2, none⟩ = some (.int .i64 q1) ∧ w'.cell? ⟨b', off' + k * 2 + 1, none⟩ = some (.int .i64 q2)) (go_keep) (fail)
      try clear hHeld
      clear p0 p1
      by_cases hq : q1 = q2
      · have e1 : (q1 == q2) = true := by simpa using hq
        have HT : Hid (∃ z, TC l z z) := ⟨q1, by have h2 := (h1.out.2.2.1 _).1 Hmem.out; rw [← hq] at h2; exact h2⟩
        clear hq
        go_wp2
        go_ret
        exact ⟨_, rfl, ⟨fun _ => HT.out, fun _ => rfl⟩, HR.out.2.1.drew⟩
      · have e1 : (q1 == q2) = false := by simpa using hq
        have HN : Hid (∀ p ∈ out.take (k + 1), p.1 ≠ p.2) := fun p hp => by
          rw [Htk.out] at hp
          rcases List.mem_append.1 hp with h2 | h2
          · exact HR.out.2.2 p h2
          · rw [List.mem_singleton] at h2
            subst h2
            exact hq
        clear hq
        go_wp2
        go_roundw
        case rel => exact ⟨k + 1, by go_num, by omega, HR.out.1, HR.out.2.1.drew, HN.out⟩
        case measure => simp [intOf]; omega
    · have hkm : m = k := by omega
      have HN : Hid (¬ ∃ z, TC l z z) := by
        rintro ⟨z, hz⟩
        have h2 := HR.out.2.2
        rw [← hkm, ← h1.out.1, List.take_length] at h2
        exact h2 (z, z) ((h1.out.2.2.1 (z, z)).2 hz) rfl
      subst hkm
      clear hlt hk
      go_wp2
      go_ret
      exact ⟨_, rfl, ⟨fun h => Bool.noConfusion h, fun h => absurd h HN.out⟩, HR.out.2.1⟩

set_option maxHeartbeats 2000000 in
set_option maxRecDepth 100000 in
theorem fits9_any (a : Option Addr) (c : Nat) (l : List Pr) (hn : l.length ≤ 10000) (a2 : Option Addr) (c2 : Nat) (zs : List Int) (hz : zs.length ≤ 10000) (w : World) (h : SlP w a l) (hs : SlI w a2 zs) :
    Calls Try.prog 28 #[.slice a l.length c, .slice a2 zs.length c2] w fun e w' => ∃ b, e = .returned (.bool b) ∧ Hid ((b = true ↔ ∀ p ∈ l, ¬ BadAt zs p) ∧ Below w.heap.size w w') := by
  obtain ⟨n, hnn⟩ : ∃ n, l.length = n := ⟨_, rfl⟩
  obtain ⟨m, hmm⟩ : ∃ m, zs.length = m := ⟨_, rfl⟩
  have Hhas : Hid (∀ x y W, SlP W a l → Calls Try.prog 11 #[.slice a n c, .int .i64 x, .int .i64 y] W fun e w' => e = .returned (.bool (decide ((x, y) ∈ l))) ∧ W = w') := fun x y W hW => by
    have h1 := has9_any a c l x y (by omega) W hW
    rw [hnn] at h1
    exact h1
  rw [hmm] at hz
  rw [hnn, hmm]
  have H := Lib.hid h
  have Hs := Lib.hid hs
  have Hm := Lib.hid hmm
  clear h hs hnn hmm
  go_enter Try.func28, Try.ntmps28
  go_wp2
  go_loopw [5] (fun i wr => ∃ k : Nat, i = .int .i64 k ∧ k ≤ m ∧ Hid (Below w.heap.size w wr ∧ ∀ i' < k, ∀ j' ≤ i', (zs.getD i' 0, zs.getD j' 0) ∉ l)) (fun i _ => m - (intOf i).toNat)
  case atStart => exact ⟨0, rfl, Nat.zero_le _, Below.refl _ _, by simp⟩
  case round =>
    obtain ⟨k, rfl, hk, HR⟩ := hrel
    by_cases hlt : k < m
    · go_wp2
      go_loopw [6] (fun i wr => ∃ j : Nat, i = .int .i64 j ∧ j ≤ k + 1 ∧ Hid (Below w.heap.size w wr ∧ ∀ j' < j, (zs.getD k 0, zs.getD j' 0) ∉ l)) (fun i _ => k + 1 - (intOf i).toNat)
      case atStart => exact ⟨0, rfl, Nat.zero_le _, HR.out.1, by simp⟩
      case round =>
        obtain ⟨j, rfl, hj, HJ⟩ := hrel
        by_cases hjk : j ≤ k
        · have hsW : SlI wr a2 zs := Hs.out.below (grown_below HJ.out.1)
          obtain ⟨b1, o1, rfl, p0⟩ := hsW.at (k := k) (by rw [Hm.out]; exact hlt)
          obtain ⟨b2, o2, e2, p1⟩ := hsW.at (k := j) (by rw [Hm.out]; omega)
          cases e2
          have hjm : j < m := by omega
          obtain ⟨x, hx⟩ : ∃ x, zs.getD k 0 = x := ⟨_, rfl⟩
          obtain ⟨y, hy⟩ : ∃ y, zs.getD j 0 = y := ⟨_, rfl⟩
          rw [hx] at p0
          rw [hy] at p1
          have Hx := Lib.hid hx
          have Hy := Lib.hid hy
          have Hsl : Hid (SlP wr.drew a l) := H.out.below HJ.out.1.drew
          obtain ⟨bb, hbb⟩ : ∃ bb, decide ((x, y) ∈ l) = bb := ⟨_, rfl⟩
          have Hh := Lib.hid (Hhas.out x y _ Hsl.out)
          rw [hbb] at Hh
          have Hbb := Lib.hid hbb
          clear hx hy hbb hsW
          cases bb
          · go_wp2
            go_region_held3 (fun w' => w'.cell? ⟨b1, o1 + k, none⟩ = some (.int .i64 x) ∧ w'.cell? ⟨b1, o1 + j, none⟩ = some (.int .i64 y)) (go_keep)
              (first
                | (go_at_call 11; refine Hh.out.mono ?_; rintro e w6 ⟨rfl, rfl⟩))
            try clear hHeld
            clear p0 p1
            have HN : Hid (∀ j' < j + 1, (zs.getD k 0, zs.getD j' 0) ∉ l) := fun j' hj' => by
              by_cases e : j' = j
              · subst e
                rw [Hx.out, Hy.out]
                exact of_decide_eq_false Hbb.out
              · exact HJ.out.2 j' (by omega)
            go_wp2
            go_roundw
            case rel => exact ⟨j + 1, by go_num, by omega, HJ.out.1.drew, HN.out⟩
            case measure => simp [intOf]; omega
          · go_wp2
            go_region_held3 (fun w' => w'.cell? ⟨b1, o1 + k, none⟩ = some (.int .i64 x) ∧ w'.cell? ⟨b1, o1 + j, none⟩ = some (.int .i64 y)) (go_keep)
              (first
                | (go_at_call 11; refine Hh.out.mono ?_; rintro e w6 ⟨rfl, rfl⟩))
            try clear hHeld
            clear p0 p1
            have hbad : ¬ ∀ p ∈ l, ¬ BadAt zs p := fun hall => by
              refine hall (x, y) (of_decide_eq_true Hbb.out) ⟨j, k, hjk, ?_, ?_⟩
              · have h1 : j < zs.length := by rw [Hm.out]; exact hjm
                have h2 := Hy.out
                rw [List.getD_eq_getElem?_getD, List.getElem?_eq_getElem h1] at h2
                rw [List.getElem?_eq_getElem h1]
                exact congrArg some h2
              · have h1 : k < zs.length := by rw [Hm.out]; exact hlt
                have h2 := Hx.out
                rw [List.getD_eq_getElem?_getD, List.getElem?_eq_getElem h1] at h2
                rw [List.getElem?_eq_getElem h1]
                exact congrArg some h2
            have Hbad := Lib.hid hbad
            clear hbad
            go_wp2
            go_ret
            exact ⟨_, rfl, ⟨fun h => Bool.noConfusion h, fun h => absurd h Hbad.out⟩, HJ.out.1.drew⟩
        · have hjk' : j = k + 1 := by omega
          have HN : Hid (∀ i' < k + 1, ∀ j' ≤ i', (zs.getD i' 0, zs.getD j' 0) ∉ l) := fun i' hi' j' hj' => by
            by_cases e : i' = k
            · subst e
              exact HJ.out.2 j' (by omega)
            · exact HR.out.2 i' (by omega) j' hj'
          clear hjk'
          go_wp2
          go_roundw
          case rel => exact ⟨k + 1, by go_num, by omega, HJ.out.1, HN.out⟩
          case measure => simp [intOf]; omega
    · have hkm : m = k := by omega
      have HN : Hid (∀ p ∈ l, ¬ BadAt zs p) := by
        rintro ⟨x, y⟩ hp ⟨i, j, hij, hi, hj⟩
        obtain ⟨hi1, hi2⟩ := List.getElem?_eq_some_iff.1 hi
        obtain ⟨hj1, hj2⟩ := List.getElem?_eq_some_iff.1 hj
        have h1 := HR.out.2 j (by rw [← hkm, ← Hm.out]; exact hj1) i hij
        rw [List.getD_eq_getElem?_getD, List.getD_eq_getElem?_getD, hi, hj] at h1
        exact h1 hp
      subst hkm
      clear hlt hk
      go_wp2
      go_ret
      exact ⟨_, rfl, ⟨fun _ => HN.out, fun _ => rfl⟩, HR.out.1⟩

set_option maxHeartbeats 2000000 in
set_option maxRecDepth 100000 in
theorem ints9_any (a : Option Addr) (c : Nat) (zs : List Int) (hn : zs.length ≤ 10000) (w : World) (h : SlI w a zs) :
    Calls Try.prog 23 #[.slice a zs.length c] w fun e w' => ∃ v', e = .returned v' ∧ Hid (w'.ownsRow w.heap.size 3 1 v' zs.length (intsC zs) ∧ Below w.heap.size w w') := by
  obtain ⟨i0, hi, hz0, hz1, hz2⟩ := info_parts elem3
  obtain ⟨n, hnn⟩ : ∃ n, zs.length = n := ⟨_, rfl⟩
  rw [hnn] at hn ⊢
  have H := Lib.hid h
  have Hn := Lib.hid hnn
  clear h hnn
  go_enter Try.func23, Try.ntmps23
  go_wp2_with (first
    | (at_make; refine wpList_make_own _ rfl _ _ 33 rfl w.heap.size 3 i0 (.int .i64 0) 1 Try.underlying33 hi hz0 hz1 _ _ _ n rfl rfl rfl (by rw [hz2]; omega) (by unfold maxLen; omega) (Nat.le_refl _) ?_)
    | go_in)
  intro w1 hown1 hgrow1
  have Hw1 : Hid (Below w.heap.size w w1) := (Below.refl _ _).grown hgrow1 (Nat.le_refl _) (fun k hk => by cases hk)
  have Hown1 := Lib.hid hown1
  clear hown1 hgrow1
  generalize Value.slice (some ⟨w.heap.size, 0, none⟩) 0 n = v1 at *
  go_wp2
  try go_frame
  go_loopw [3, 4] (fun v i wr => ∃ k : Nat, i = .int .i64 k ∧ k ≤ n ∧ Hid (wr.ownsRow w.heap.size 3 1 v k (intsC (zs.take k)) ∧ Below w.heap.size w wr)) (fun _ i _ => n - (intOf i).toNat)
  case atStart => exact ⟨0, rfl, Nat.zero_le _, Hown1.out, Hw1.out⟩
  case round =>
    obtain ⟨j, rfl, hj, HJ⟩ := hrel
    by_cases hjn : j < n
    · have hjl : j < zs.length := by rw [Hn.out]; exact hjn
      obtain ⟨b', off', e, hc0⟩ := (H.out.below (grown_below HJ.out.2)).at hjl
      cases e
      have htk : zs.take (j + 1) = zs.take j ++ [zs.getD j 0] := by
        rw [List.take_add_one, List.getElem?_eq_getElem hjl, List.getD_eq_getElem?_getD, List.getElem?_eq_getElem hjl]
        rfl
      obtain ⟨q, hq⟩ : ∃ q, zs.getD j 0 = q := ⟨_, rfl⟩
      rw [hq] at hc0 htk
      have Htk := Lib.hid htk
      have HA : Hid (w.heap.size ≤ (wr.alloc (.cells #[.int .i64 q] 3)).heap.size) := by
        have h1 := HJ.out.2.size
        show _ ≤ (World.alloc _ _).heap.size
        simp
        omega
      clear htk hq hjl
      go_wp2_with (first
        | (at_builtin; refine wpList_append_own _ rfl _ _ 33 rfl w.heap.size 3 i0 (.int .i64 0) 1 8 Try.underlying33 hi hz0 hz1 hz2 rfl (by decide) u3 j (intsC (zs.take j)) rfl (HJ.out.1.alloc _) ⟨wr.heap.size, 0, none⟩ 1 1 [.int .i64 q] rfl rfl (news_new wr #[.int .i64 q] 3) (intsC_one [q]) (by unfold maxLen; omega) (by omega) HA.out ?_)
        | go_in)
      intro v5 w5 hown5 hgrow5 hnil5
      have HJ5 : Hid (w5.ownsRow w.heap.size 3 1 v5 (j + 1) (intsC (zs.take (j + 1))) ∧ Below w.heap.size w w5) := by
        refine ⟨?_, (HJ.out.2.alloc HJ.out.2.size _).grown hgrow5 HA.out (fun k hk => (HJ.out.1.lt k hk).1)⟩
        rw [Htk.out, intsC_snoc]
        exact hown5
      clear hown5 hgrow5 hnil5
      go_wp2
      go_roundw
      case rel => exact ⟨j + 1, by go_num, by omega, HJ5.out⟩
      case measure => simp [intOf]; omega
    · have hjn' : n = j := by omega
      have HF : Hid (wr.ownsRow w.heap.size 3 1 u3 n (intsC zs)) := by
        have h1 := HJ.out.1
        rw [← hjn', ← Hn.out, List.take_length] at h1
        show World.ownsRow _ _ _ _ _ _ _
        rw [← Hn.out]
        exact h1
      subst hjn'
      clear hj hjn
      go_wp2
      go_ret
      exact ⟨_, rfl, HF.out, HJ.out.2⟩
end Go.Proofs.Ytadlgkakjaecdaa
