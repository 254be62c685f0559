/- The document's closure, by a contract. -/
import Derived.Test.YtadlgkakjaecdaaRe
import Derived.Test.YtadlgkakjaecdaaFr
namespace Go.Proofs.Ytadlgkakjaecdaa
open Go.RowKit Go.Maps Go.WideMaps Go.WideElems Go.ChangeShapes Go.WideShapes

set_option maxHeartbeats 8000000 in
set_option maxRecDepth 100000 in
theorem closure9_any (a : Option Addr) (c : Nat) (l : List Pr) (hn : l.length ≤ 100) (hr : RiseP l) (w : World) (h : SlP w a l) :
    Calls Try.prog 25 #[.slice a l.length c] w fun e w' => ∃ a' c' n' out, e = .returned (.slice a' n' c') ∧ Hid (out.length = n' ∧ RiseP out ∧ (∀ p, p ∈ out ↔ TC l p.1 p.2) ∧ SlP w' a' out ∧ Below w.heap.size w w') := by
  obtain ⟨i0, hi, hz0, hz1, hz2⟩ := info_parts elem53
  obtain ⟨n, hnn⟩ : ∃ n, l.length = n := ⟨_, rfl⟩
  rw [hnn] at hn
  have Hreach : Hid (∀ x W, SlP W a l → Calls Try.prog 41 #[.slice a n c, .int .i64 x] W fun e w' => ∃ a' c' n' out, e = .returned (.slice a' n' c') ∧ Hid (out.length = n' ∧ RiseI out ∧ (∀ z, z ∈ out ↔ TC l x z) ∧ SlI w' a' out ∧ Below W.heap.size W w' ∧ ∀ g o, a' = some ⟨g, o, none⟩ → W.heap.size ≤ g)) := fun x W hW => by
    have h1 := reach_any a c l x (by omega) W hW
    rw [hnn] at h1
    exact h1
  rw [hnn]
  have H := Lib.hid h
  have Hn := Lib.hid hnn
  have Hr := Lib.hid hr
  clear h hnn hr
  go_enter Try.func25, Try.ntmps25
  go_wp2
  go_loopw [3, 4] (fun o i wr => ∃ (k m : Nat) (out : List Pr), i = .int .i64 k ∧ k ≤ n ∧ Hid (out.length = m ∧ wr.ownsRow w.heap.size 53 2 o m (flat out) ∧ Cls l k out ∧ Below w.heap.size w wr)) (fun _ i _ => n - (intOf i).toNat)
  case atStart => exact ⟨0, 0, [], rfl, Nat.zero_le _, rfl, World.ownsRow_nil _ _ _ _, Cls.start l, Below.refl _ _⟩
  case round =>
    obtain ⟨k, m, out, rfl, hk, HR⟩ := hrel
    by_cases hlt : k < n
    · have hkl : k < l.length := by rw [Hn.out]; exact hlt
      obtain ⟨b', off', rfl, hc0, hc1⟩ := (H.out.below HR.out.2.2.2).at hkl
      have HC : Hid (∀ W, Below w.heap.size w W → W.cell? ⟨b', off' + k * 2, none⟩ = some (.int .i64 (l.getD k (0, 0)).1) ∧ W.cell? ⟨b', off' + k * 2 + 1, none⟩ = some (.int .i64 (l.getD k (0, 0)).2)) := fun W hW => by
        obtain ⟨b1, off1, e, d0, d1⟩ := (H.out.below hW).at hkl
        cases e
        exact ⟨d0, d1⟩
      obtain ⟨q, hq⟩ : ∃ q, l.getD k (0, 0) = q := ⟨_, rfl⟩
      obtain ⟨q1, q2⟩ := q
      rw [hq] at hc0 hc1 HC
      simp only at hc0 hc1 HC
      have Hq := Lib.hid hq
      have Hs0 : Hid (SlP wr.drew (some ⟨b', off', none⟩) l) := H.out.below HR.out.2.2.2.drew
      have HB0 : Hid (Below w.heap.size w wr.drew) := HR.out.2.2.2.drew
      have Hrow0 : Hid (wr.drew.ownsRow w.heap.size 53 2 u3 m (flat out)) := HR.out.2.1
      obtain ⟨x0, x1⟩ := HC.out wr.drew HR.out.2.2.2.drew
      clear hq
      by_cases hk0 : k = 0
      · have Hless : Hid (∀ q ∈ l.take k, q.1 < q1) := by
          have h1 := firsts_less Hr.out hkl (.inl hk0)
          rw [Hq.out] at h1
          exact h1
        have e0 : ¬ (0 < k) := by omega
        have e0' : decide ((0 : Int) < (k : Int)) = false := by simp; omega
        clear hkl hc0 hc1 hk0
        go_wp2
        refine wp_region_held_drew (S := fun _ => True) (by kernel_rfl) trivial (fun hHeld => ?_)
        refine held_take 0 (some 13) ?_ rfl rfl (by kernel_rfl) (by kernel_rfl) (by kernel_rfl) (fun _ _ _ h => h) (by kernel_rfl) ?_ (by assumption) ?_
        rotate_left
        · intro w hSw; go_simp <;> (try with_reducible rfl)
        simp only [Act.put, List.setIfInBounds_toArray, List.set_cons_zero, List.set_cons_succ]
        refine held_take 1 (some 14) ?_ rfl rfl (by kernel_rfl) (by kernel_rfl) (by kernel_rfl) (fun _ _ _ h => h) (by kernel_rfl) ?_ (by assumption) ?_
        rotate_left
        · intro w hSw; go_simp <;> (try with_reducible rfl)
        simp only [Act.put, List.setIfInBounds_toArray, List.set_cons_zero, List.set_cons_succ]
        refine held_take 2 (some 15) ?_ rfl rfl (by kernel_rfl) (by kernel_rfl) (by kernel_rfl) (fun _ _ _ h => h) (by kernel_rfl) ?_ (by assumption) ?_
        rotate_left
        · intro w hSw; go_simp <;> (try with_reducible rfl)
        simp only [Act.put, List.setIfInBounds_toArray, List.set_cons_zero, List.set_cons_succ]
        refine held_skip 3 (some 16) rfl rfl (by kernel_rfl) (by kernel_rfl) (by kernel_rfl) (fun _ _ _ h => h) (by kernel_rfl) (by assumption) ?_
        simp only [Act.put, List.setIfInBounds_toArray, List.set_cons_zero, List.set_cons_succ]
        refine held_skip 4 (some 17) rfl rfl (by kernel_rfl) (by kernel_rfl) (by kernel_rfl) (fun _ _ _ h => h) (by kernel_rfl) (by assumption) ?_
        simp only [Act.put, List.setIfInBounds_toArray, List.set_cons_zero, List.set_cons_succ]
        refine held_skip 5 (some 18) rfl rfl (by kernel_rfl) (by kernel_rfl) (by kernel_rfl) (fun _ _ _ h => h) (by kernel_rfl) (by assumption) ?_
        simp only [Act.put, List.setIfInBounds_toArray, List.set_cons_zero, List.set_cons_succ]
        refine held_skip 6 (some 19) rfl rfl (by kernel_rfl) (by kernel_rfl) (by kernel_rfl) (fun _ _ _ h => h) (by kernel_rfl) (by assumption) ?_
        simp only [Act.put, List.setIfInBounds_toArray, List.set_cons_zero, List.set_cons_succ]
        refine held_skip 7 (some 20) rfl rfl (by kernel_rfl) (by kernel_rfl) (by kernel_rfl) (fun _ _ _ h => h) (by kernel_rfl) (by assumption) ?_
        simp only [Act.put, List.setIfInBounds_toArray, List.set_cons_zero, List.set_cons_succ]
        refine held_skip 8 (some 21) rfl rfl (by kernel_rfl) (by kernel_rfl) (by kernel_rfl) (fun _ _ _ h => h) (by kernel_rfl) (by assumption) ?_
        simp only [Act.put, List.setIfInBounds_toArray, List.set_cons_zero, List.set_cons_succ]
        refine held_skip 9 (some 22) rfl rfl (by kernel_rfl) (by kernel_rfl) (by kernel_rfl) (fun _ _ _ h => h) (by kernel_rfl) (by assumption) ?_
        simp only [Act.put, List.setIfInBounds_toArray, List.set_cons_zero, List.set_cons_succ]
        refine held_skip 10 (some 23) rfl rfl (by kernel_rfl) (by kernel_rfl) (by kernel_rfl) (fun _ _ _ h => h) (by kernel_rfl) (by assumption) ?_
        simp only [Act.put, List.setIfInBounds_toArray, List.set_cons_zero, List.set_cons_succ]
        refine held_skip 11 (some 24) rfl rfl (by kernel_rfl) (by kernel_rfl) (by kernel_rfl) (fun _ _ _ h => h) (by kernel_rfl) (by assumption) ?_
        simp only [Act.put, List.setIfInBounds_toArray, List.set_cons_zero, List.set_cons_succ]
        refine held_skip 12 (some 25) rfl rfl (by kernel_rfl) (by kernel_rfl) (by kernel_rfl) (fun _ _ _ h => h) (by kernel_rfl) (by assumption) ?_
        simp only [Act.put, List.setIfInBounds_toArray, List.set_cons_zero, List.set_cons_succ]
        refine held_skip 13 (some 26) rfl rfl (by kernel_rfl) (by kernel_rfl) (by kernel_rfl) (fun _ _ _ h => h) (by kernel_rfl) (by assumption) ?_
        simp only [Act.put, List.setIfInBounds_toArray, List.set_cons_zero, List.set_cons_succ]
        refine held_skip 14 (some 27) rfl rfl (by kernel_rfl) (by kernel_rfl) (by kernel_rfl) (fun _ _ _ h => h) (by kernel_rfl) (by assumption) ?_
        simp only [Act.put, List.setIfInBounds_toArray, List.set_cons_zero, List.set_cons_succ]
        refine held_take 15 (some 28) ?_ rfl rfl (by kernel_rfl) (by kernel_rfl) (by kernel_rfl) (fun _ _ _ h => h) (by kernel_rfl) ?_ (by assumption) ?_
        rotate_left
        · intro w hSw; go_simp <;> (try with_reducible rfl)
        simp only [Act.put, List.setIfInBounds_toArray, List.set_cons_zero, List.set_cons_succ]
        refine wpAnyH_done (by kernel_rfl) ?_ _
        clear hHeld
        clear e0 e0'
        go_wp2_with (first
          | (go_at_call 41; refine (Hreach.out _ _ Hs0.out).mono ?_; rintro e w5 ⟨a5, c5, nt, to, rfl, h5⟩
             have HB5 : Hid (Below w.heap.size w w5) := HB0.out.trans (h5.out.2.2.2.2.1.mono HB0.out.size)
             have Hrow5 := Lib.hid (ownsRow_below Hrow0.out h5.out.2.2.2.2.1)
             have Hap : Hid (∀ g o, a5 = some ⟨g, o, none⟩ → u3.ownBlock ≠ some g) := fun g o e e2 => by
               have h6 := h5.out.2.2.2.2.2 g o e
               have h7 := (Hrow0.out.lt g e2).2
               omega
             have Hto : Hid (to.length = nt ∧ RiseI to ∧ (∀ z, z ∈ to ↔ TC l q1 z)) := ⟨h5.out.1, h5.out.2.1, h5.out.2.2.1⟩
             have Hsl5 := Lib.hid h5.out.2.2.2.1
             clear h5)
          | go_in)
        have HAdd : Hid (Cls l (k + 1) (out ++ to.map fun z => (q1, z))) := HR.out.2.2.1.add (by rw [Hn.out]; exact hlt) (by rw [Hq.out]) (Hless.out) Hto.out.2.1 Hto.out.2.2
        have hbd : m + nt ≤ 10000 := by
          have h1 := tc_bound (L := l) (by rw [Hn.out]; exact hn) _ (rise_nodup HAdd.out.rise) (fun p hp => ((HAdd.out.mem p).1 hp).2)
          rw [List.length_append, List.length_map, HR.out.1, Hto.out.1] at h1
          exact h1
        try go_frame
        go_loopw [3, 6] (fun o i wr => ∃ j : Nat, i = .int .i64 j ∧ j ≤ nt ∧ Hid (wr.ownsRow w.heap.size 53 2 o (m + j) (flat (out ++ (to.take j).map fun z => (q1, z))) ∧ SlI wr a5 to ∧ (∀ g o', a5 = some ⟨g, o', none⟩ → o.ownBlock ≠ some g) ∧ Below w.heap.size w wr)) (fun _ i _ => nt - (intOf i).toNat)
        case atStart => exact ⟨0, rfl, Nat.zero_le _, by simpa using Hrow5.out, Hsl5.out, Hap.out, HB5.out⟩
        case round =>
          obtain ⟨j, rfl, hj, HJ⟩ := hrel
          by_cases hjn : j < nt
          · have hjl : j < to.length := by rw [Hto.out.1]; exact hjn
            obtain ⟨gt, ot, rfl, d0⟩ := HJ.out.2.1.at hjl
            obtain ⟨p0, p1⟩ := HC.out wr HJ.out.2.2.2
            have Htk : Hid (to.take (j + 1) = to.take j ++ [to.getD j 0]) := by
              show _ = _
              rw [List.take_add_one, List.getElem?_eq_getElem hjl, List.getD_eq_getElem?_getD, List.getElem?_eq_getElem hjl]
              rfl
            obtain ⟨z, hz⟩ : ∃ z, to.getD j 0 = z := ⟨_, rfl⟩
            rw [hz] at d0 Htk
            have hne : to ≠ [] := by intro e; rw [e] at hjl; simp at hjl
            have hgt : gt < wr.heap.size := HJ.out.2.1.lt hne
            have Hgt := Lib.hid hgt
            have HBA : Hid (Below wr.heap.size wr.drew (wr.drew.alloc (.cells #[.int .i64 q1, .int .i64 z] 53))) := by
              show Below wr.heap.size wr.drew _
              exact (Below.refl wr.heap.size wr.drew).alloc (Nat.le_refl _) _
            have q0 : (wr.drew.alloc (.cells #[.int .i64 q1, .int .i64 z] 53)).cell? ⟨b', off' + k * 2, none⟩ = some (.int .i64 q1) := (HC.out _ (HJ.out.2.2.2.drew.trans (HBA.out.mono HJ.out.2.2.2.size))).1
            have q0' : (wr.drew.alloc (.cells #[.int .i64 q1, .int .i64 z] 53)).cell? ⟨gt, ot + j, none⟩ = some (.int .i64 z) := (HBA.out.cell (p := ⟨gt, ot + j, none⟩) hgt).trans d0
            have HrowA : Hid ((wr.drew.alloc (.cells #[.int .i64 q1, .int .i64 z] 53)).ownsRow w.heap.size 53 2 u3 (m + j) (flat (out ++ (to.take j).map fun z => (q1, z)))) := ownsRow_below (W := wr.drew) HJ.out.1 HBA.out
            have HA : Hid (w.heap.size ≤ (wr.drew.alloc (.cells #[.int .i64 q1, .int .i64 z] 53)).heap.size) := by
              have h1 := HJ.out.2.2.2.size
              show _ ≤ (World.alloc _ _).heap.size
              simp
              exact Nat.le_trans h1 (Nat.le_succ _)
            clear hz hjl hne hgt
            go_wp2
            go_region_held3 (fun w' => w'.cell? ⟨b', off' + k * 2, none⟩ = some (.int .i64 q1) ∧ w'.cell? ⟨gt, ot + j, none⟩ = some (.int .i64 z)) (go_keep)
              (first
                | (refine step_append_lies _ rfl _ _ 26 rfl w.heap.size 53 i0 (.agg #[.int .i64 0, .int .i64 0]) 2 16 Try.underlying26 hi hz0 hz1 hz2 rfl (by decide) u3 (m + j) (flat (out ++ (to.take j).map fun z => (q1, z))) rfl HrowA.out ⟨wr.heap.size, 0, none⟩ 1 1 [.int .i64 q1, .int .i64 z] rfl rfl (news_new wr.drew #[.int .i64 q1, .int .i64 z] 53) (flat_one [(q1, z)]) (by decide) (by unfold maxLen; omega) (by omega) HA.out (wr.heap.size + 1) (by simp) ?_
                   intro g6 cap6 w6 hown6 hgrow6 hat6 hlt6
                   have hB6 : Below w.heap.size w w6 := (HJ.out.2.2.2.drew.trans (HBA.out.mono HJ.out.2.2.2.size)).grown hgrow6 HA.out (fun k e => (HrowA.out.lt k e).1)
                   have HB6 := Lib.hid hB6
                   have r0 := (HC.out w6 hB6).1
                   have r1 : w6.cell? ⟨gt, ot + j, none⟩ = some (.int .i64 z) := hgrow6.cell q0' (fun e => HJ.out.2.2.1 gt ot rfl e.symm)))
            try clear hHeld
            have HJ6 : Hid (w6.ownsRow w.heap.size 53 2 (.slice (some ⟨g6, 0, none⟩) (m + j + 1) cap6) (m + (j + 1)) (flat (out ++ (to.take (j + 1)).map fun z => (q1, z))) ∧ SlI w6 (some ⟨gt, ot, none⟩) to ∧ (∀ g o', some (⟨gt, ot, none⟩ : Addr) = some ⟨g, o', none⟩ → (Value.slice (some ⟨g6, 0, none⟩) (m + j + 1) cap6).ownBlock ≠ some g) ∧ Below w.heap.size w w6) := by
              refine ⟨?_, ?_, ?_, HB6.out⟩
              · have e3 : out ++ (to.take j ++ [z]).map (fun z => (q1, z)) = (out ++ (to.take j).map fun z => (q1, z)) ++ [(q1, z)] := by simp
                rw [Htk.out, e3, flat_snoc, ← Nat.add_assoc]
                exact hown6
              · have h7 : SlI (wr.drew.alloc (.cells #[.int .i64 q1, .int .i64 z] 53)) (some ⟨gt, ot, none⟩) to := SlI.below (W := wr.drew) HJ.out.2.1 (World.grownBy_alloc wr.drew _ none)
                exact h7.keep hgrow6 (fun g o k e e2 e3 => by cases e; subst e3; exact HJ.out.2.2.1 _ ot rfl e2)
              · intro g o e e2
                cases e
                have h8 : g6 = gt := by simpa [Value.ownBlock] using e2
                rcases hat6 with h6 | h6
                · exact HJ.out.2.2.1 gt ot rfl (h8 ▸ h6)
                · have h7 := Hgt.out
                  omega
            clear hown6 hgrow6 hat6 hlt6 r0 r1 q0 q0' p0 p1 d0
            go_wp2
            go_roundw
            case rel => exact ⟨j + 1, by go_num, by omega, HJ6.out⟩
            case measure => simp [intOf]; omega
          · have hjn' : nt = j := by omega
            have HF : Hid (wr.ownsRow w.heap.size 53 2 u3 (m + nt) (flat (out ++ to.map fun z => (q1, z)))) := by
              have h1 := HJ.out.1
              rw [← hjn', ← Hto.out.1, List.take_length] at h1
              show World.ownsRow _ _ _ _ _ _ _
              rw [← Hto.out.1]
              exact h1
            subst hjn'
            clear hj hjn
            go_wp2
            go_roundw
            case rel => exact ⟨k + 1, m + nt, _, by go_num, by omega, by rw [List.length_append, List.length_map, HR.out.1, Hto.out.1], HF.out, HAdd.out, HJ.out.2.2.2⟩
            case measure => simp [intOf]; omega
      · obtain ⟨j0, hj0⟩ : ∃ j0, j0 + 1 = k := ⟨k - 1, by omega⟩
        have hj0n : j0 < n := by omega
        have hsub : wrap64 ((k : Int) - 1) = (j0 : Int) := by unfold wrap64; omega
        have hsub2 : IntKind.i64.wrap ((k : Int) - 1) = (j0 : Int) := by rw [IntKind.wrap_i64]; omega
        obtain ⟨b2, off2, e2, hd0, hd1⟩ := (H.out.below HR.out.2.2.2).at (k := j0) (by rw [Hn.out]; omega)
        cases e2
        obtain ⟨r, hr⟩ : ∃ r, l.getD j0 (0, 0) = r := ⟨_, rfl⟩
        obtain ⟨r1, r2⟩ := r
        rw [hr] at hd0 hd1
        simp only at hd0 hd1
        have hr0 : l.getD (k - 1) (0, 0) = (r1, r2) := by rw [← hj0, Nat.add_sub_cancel]; exact hr
        have hkp : 0 < k := by omega
        by_cases hqr : q1 = r1
        · have e1 : (q1 == r1) = true := by simpa using hqr
          have HS : Hid (Cls l (k + 1) out) := HR.out.2.2.1.skip hkp hkl (by rw [Hq.out, hr0]; exact hqr)
          clear hqr hkl hr hr0 hk0 x0 x1 hc1 hd1
          go_wp2
          go_region_held3 (fun w' => w'.cell? ⟨b', off' + k * 2, none⟩ = some (.int .i64 q1) ∧ w'.cell? ⟨b', off' + j0 * 2, none⟩ = some (.int .i64 r1)) (go_keep) (fail)
          try clear hHeld
          clear hc0 hd0
          go_wp2
          go_roundw
          case rel => exact ⟨k + 1, m, out, by go_num, by omega, HR.out.1, HR.out.2.1, HS.out, HR.out.2.2.2.drew⟩
          case measure => simp [intOf]; omega
        · have e1 : (q1 == r1) = false := by simpa using hqr
          have Hless : Hid (∀ q ∈ l.take k, q.1 < q1) := by
            have h1 := firsts_less Hr.out hkl (.inr (by rw [Hq.out, hr0]; exact hqr))
            rw [Hq.out] at h1
            exact h1
          clear hqr hkl hr hr0 hk0 hc1 hd1
          go_wp2
          go_region_held3 (fun w' => w'.cell? ⟨b', off' + k * 2, none⟩ = some (.int .i64 q1) ∧ w'.cell? ⟨b', off' + j0 * 2, none⟩ = some (.int .i64 r1)) (go_keep) (fail)
          try clear hHeld
          clear hc0 hd0 hsub hsub2 hkp
          go_wp2_with (first
            | (go_at_call 41; refine (Hreach.out _ _ Hs0.out).mono ?_; rintro e w5 ⟨a5, c5, nt, to, rfl, h5⟩
               have HB5 : Hid (Below w.heap.size w w5) := HB0.out.trans (h5.out.2.2.2.2.1.mono HB0.out.size)
               have Hrow5 := Lib.hid (ownsRow_below Hrow0.out h5.out.2.2.2.2.1)
               have Hap : Hid (∀ g o, a5 = some ⟨g, o, none⟩ → u3.ownBlock ≠ some g) := fun g o e e2 => by
                 have h6 := h5.out.2.2.2.2.2 g o e
                 have h7 := (Hrow0.out.lt g e2).2
                 omega
               have Hto : Hid (to.length = nt ∧ RiseI to ∧ (∀ z, z ∈ to ↔ TC l q1 z)) := ⟨h5.out.1, h5.out.2.1, h5.out.2.2.1⟩
               have Hsl5 := Lib.hid h5.out.2.2.2.1
               clear h5)
            | go_in)
          have HAdd : Hid (Cls l (k + 1) (out ++ to.map fun z => (q1, z))) := HR.out.2.2.1.add (by rw [Hn.out]; exact hlt) (by rw [Hq.out]) (Hless.out) Hto.out.2.1 Hto.out.2.2
          have hbd : m + nt ≤ 10000 := by
            have h1 := tc_bound (L := l) (by rw [Hn.out]; exact hn) _ (rise_nodup HAdd.out.rise) (fun p hp => ((HAdd.out.mem p).1 hp).2)
            rw [List.length_append, List.length_map, HR.out.1, Hto.out.1] at h1
            exact h1
          try go_frame
          go_loopw [3, 6] (fun o i wr => ∃ j : Nat, i = .int .i64 j ∧ j ≤ nt ∧ Hid (wr.ownsRow w.heap.size 53 2 o (m + j) (flat (out ++ (to.take j).map fun z => (q1, z))) ∧ SlI wr a5 to ∧ (∀ g o', a5 = some ⟨g, o', none⟩ → o.ownBlock ≠ some g) ∧ Below w.heap.size w wr)) (fun _ i _ => nt - (intOf i).toNat)
          case atStart => exact ⟨0, rfl, Nat.zero_le _, by simpa using Hrow5.out, Hsl5.out, Hap.out, HB5.out⟩
          case round =>
            obtain ⟨j, rfl, hj, HJ⟩ := hrel
            by_cases hjn : j < nt
            · have hjl : j < to.length := by rw [Hto.out.1]; exact hjn
              obtain ⟨gt, ot, rfl, d0⟩ := HJ.out.2.1.at hjl
              obtain ⟨p0, p1⟩ := HC.out wr HJ.out.2.2.2
              have Htk : Hid (to.take (j + 1) = to.take j ++ [to.getD j 0]) := by
                show _ = _
                rw [List.take_add_one, List.getElem?_eq_getElem hjl, List.getD_eq_getElem?_getD, List.getElem?_eq_getElem hjl]
                rfl
              obtain ⟨z, hz⟩ : ∃ z, to.getD j 0 = z := ⟨_, rfl⟩
              rw [hz] at d0 Htk
              have hne : to ≠ [] := by intro e; rw [e] at hjl; simp at hjl
              have hgt : gt < wr.heap.size := HJ.out.2.1.lt hne
              have Hgt := Lib.hid hgt
              have HBA : Hid (Below wr.heap.size wr.drew (wr.drew.alloc (.cells #[.int .i64 q1, .int .i64 z] 53))) := by
                show Below wr.heap.size wr.drew _
                exact (Below.refl wr.heap.size wr.drew).alloc (Nat.le_refl _) _
              have q0 : (wr.drew.alloc (.cells #[.int .i64 q1, .int .i64 z] 53)).cell? ⟨b', off' + k * 2, none⟩ = some (.int .i64 q1) := (HC.out _ (HJ.out.2.2.2.drew.trans (HBA.out.mono HJ.out.2.2.2.size))).1
              have q0' : (wr.drew.alloc (.cells #[.int .i64 q1, .int .i64 z] 53)).cell? ⟨gt, ot + j, none⟩ = some (.int .i64 z) := (HBA.out.cell (p := ⟨gt, ot + j, none⟩) hgt).trans d0
              have HrowA : Hid ((wr.drew.alloc (.cells #[.int .i64 q1, .int .i64 z] 53)).ownsRow w.heap.size 53 2 u3 (m + j) (flat (out ++ (to.take j).map fun z => (q1, z)))) := ownsRow_below (W := wr.drew) HJ.out.1 HBA.out
              have HA : Hid (w.heap.size ≤ (wr.drew.alloc (.cells #[.int .i64 q1, .int .i64 z] 53)).heap.size) := by
                have h1 := HJ.out.2.2.2.size
                show _ ≤ (World.alloc _ _).heap.size
                simp
                exact Nat.le_trans h1 (Nat.le_succ _)
              clear hz hjl hne hgt
              go_wp2
              go_region_held3 (fun w' => w'.cell? ⟨b', off' + k * 2, none⟩ = some (.int .i64 q1) ∧ w'.cell? ⟨gt, ot + j, none⟩ = some (.int .i64 z)) (go_keep)
                (first
                  | (refine step_append_lies _ rfl _ _ 26 rfl w.heap.size 53 i0 (.agg #[.int .i64 0, .int .i64 0]) 2 16 Try.underlying26 hi hz0 hz1 hz2 rfl (by decide) u3 (m + j) (flat (out ++ (to.take j).map fun z => (q1, z))) rfl HrowA.out ⟨wr.heap.size, 0, none⟩ 1 1 [.int .i64 q1, .int .i64 z] rfl rfl (news_new wr.drew #[.int .i64 q1, .int .i64 z] 53) (flat_one [(q1, z)]) (by decide) (by unfold maxLen; omega) (by omega) HA.out (wr.heap.size + 1) (by simp) ?_
                     intro g6 cap6 w6 hown6 hgrow6 hat6 hlt6
                     have hB6 : Below w.heap.size w w6 := (HJ.out.2.2.2.drew.trans (HBA.out.mono HJ.out.2.2.2.size)).grown hgrow6 HA.out (fun k e => (HrowA.out.lt k e).1)
                     have HB6 := Lib.hid hB6
                     have r0 := (HC.out w6 hB6).1
                     have r1 : w6.cell? ⟨gt, ot + j, none⟩ = some (.int .i64 z) := hgrow6.cell q0' (fun e => HJ.out.2.2.1 gt ot rfl e.symm)))
              try clear hHeld
              have HJ6 : Hid (w6.ownsRow w.heap.size 53 2 (.slice (some ⟨g6, 0, none⟩) (m + j + 1) cap6) (m + (j + 1)) (flat (out ++ (to.take (j + 1)).map fun z => (q1, z))) ∧ SlI w6 (some ⟨gt, ot, none⟩) to ∧ (∀ g o', some (⟨gt, ot, none⟩ : Addr) = some ⟨g, o', none⟩ → (Value.slice (some ⟨g6, 0, none⟩) (m + j + 1) cap6).ownBlock ≠ some g) ∧ Below w.heap.size w w6) := by
                refine ⟨?_, ?_, ?_, HB6.out⟩
                · have e3 : out ++ (to.take j ++ [z]).map (fun z => (q1, z)) = (out ++ (to.take j).map fun z => (q1, z)) ++ [(q1, z)] := by simp
                  rw [Htk.out, e3, flat_snoc, ← Nat.add_assoc]
                  exact hown6
                · have h7 : SlI (wr.drew.alloc (.cells #[.int .i64 q1, .int .i64 z] 53)) (some ⟨gt, ot, none⟩) to := SlI.below (W := wr.drew) HJ.out.2.1 (World.grownBy_alloc wr.drew _ none)
                  exact h7.keep hgrow6 (fun g o k e e2 e3 => by cases e; subst e3; exact HJ.out.2.2.1 _ ot rfl e2)
                · intro g o e e2
                  cases e
                  have h8 : g6 = gt := by simpa [Value.ownBlock] using e2
                  rcases hat6 with h6 | h6
                  · exact HJ.out.2.2.1 gt ot rfl (h8 ▸ h6)
                  · have h7 := Hgt.out
                    omega
              clear hown6 hgrow6 hat6 hlt6 r0 r1 q0 q0' p0 p1 d0
              go_wp2
              go_roundw
              case rel => exact ⟨j + 1, by go_num, by omega, HJ6.out⟩
              case measure => simp [intOf]; omega
            · have hjn' : nt = j := by omega
              have HF : Hid (wr.ownsRow w.heap.size 53 2 u3 (m + nt) (flat (out ++ to.map fun z => (q1, z)))) := by
                have h1 := HJ.out.1
                rw [← hjn', ← Hto.out.1, List.take_length] at h1
                show World.ownsRow _ _ _ _ _ _ _
                rw [← Hto.out.1]
                exact h1
              subst hjn'
              clear hj hjn
              go_wp2
              go_roundw
              case rel => exact ⟨k + 1, m + nt, _, by go_num, by omega, by rw [List.length_append, List.length_map, HR.out.1, Hto.out.1], HF.out, HAdd.out, HJ.out.2.2.2⟩
              case measure => simp [intOf]; omega
    · have hkn : n = k := by omega
      have HS : Hid (∀ p, p ∈ out ↔ TC l p.1 p.2) := by
        have h1 := HR.out.2.2.1
        rw [← hkn, ← Hn.out] at h1
        exact h1.stop
      obtain ⟨a', c', e, hol, hsl⟩ := row_slP HR.out.2.1
      have Hsl := Lib.hid hsl
      subst e hkn
      clear hlt hk hsl
      go_wp2
      go_ret
      exact ⟨a', c', m, out, rfl, HR.out.1, HR.out.2.2.1.rise, HS.out, Hsl.out, HR.out.2.2.2⟩
end Go.Proofs.Ytadlgkakjaecdaa
