/- The document's search, by a contract. -/
import Derived.Test.YtadlgkakjaecdaaDv
namespace Go.Proofs.Ytadlgkakjaecdaa
open Go.RowKit Go.Maps Go.WideMaps Go.WideElems Go.ChangeShapes Go.WideShapes

structure R1 (w : World) (l : List Pr) (x : Int) (k : Nat) (out D : List Int) (a5 : Option Addr) (m g nt ct : Nat) (W : World) : Prop where
  rch : Rch l x k out D
  hm : out.length = m
  hnt : D.length + 1 = nt
  sl : SlI W a5 out
  row : W.ownsRow w.heap.size 3 1 (.slice (some ⟨g, 0, none⟩) nt ct) nt (intsC (x :: D))
  apart : ∀ o, a5 ≠ some ⟨g, o, none⟩
  below : Below w.heap.size w W
  new : ∀ g o, a5 = some ⟨g, o, none⟩ → w.heap.size ≤ g

set_option maxHeartbeats 4000000 in
set_option maxRecDepth 100000 in
theorem reach_any (a : Option Addr) (c : Nat) (l : List Pr) (x : Int) (hn : l.length ≤ 10000) (w : World) (h : SlP w a l) :
    Calls Try.prog 41 #[.slice a l.length c, .int .i64 x] w fun e w' => ∃ a' c' n' out, e = .returned (.slice a' n' c') ∧ Hid (out.length = n' ∧ RiseI out ∧ (∀ z, z ∈ out ↔ TC l x z) ∧ SlI w' a' out ∧ Below w.heap.size w w' ∧ ∀ g o, a' = some ⟨g, o, none⟩ → w.heap.size ≤ g) := by
  obtain ⟨i3, hi3, hz0, hz1, hz2⟩ := info_parts elem3
  obtain ⟨n, hnn⟩ : ∃ n, l.length = n := ⟨_, rfl⟩
  rw [hnn] at hn ⊢
  have H := Lib.hid h
  have Hn := Lib.hid hnn
  obtain ⟨W1, hW1⟩ : ∃ W, w.alloc (.cells #[.int .i64 x] 3) = W := ⟨_, rfl⟩
  have HT : Hid (W1.ownsRow w.heap.size 3 1 (.slice (some ⟨w.heap.size, 0, none⟩) 1 1) 1 (intsC [x]) ∧ Below w.heap.size w W1) := by
    rw [← hW1]
    exact ⟨⟨rfl, .inr ⟨w.heap.size, 1, #[.int .i64 x], rfl, Nat.le_refl _, World.alloc_heap_new w _, Nat.le_refl _, by decide, rfl, rfl⟩⟩, (Below.refl _ _).alloc (Nat.le_refl _) _⟩
  clear h hnn
  go_enter Try.func41, Try.ntmps41
  go_wp2
  go_loopw [5, 6, 7] (fun o t i wr => ∃ (k : Nat) (a5 : Option Addr) (m c5 g nt ct : Nat) (out D : List Int), i = .int .i64 k ∧ o = .slice a5 m c5 ∧ t = .slice (some ⟨g, 0, none⟩) nt ct ∧ k ≤ nt ∧ nt ≤ n + 1 ∧ Hid (R1 w l x k out D a5 m g nt ct wr)) (fun _ _ i _ => n + 1 - (intOf i).toNat)
  case atStart => exact ⟨0, none, 0, 0, w.heap.size, 1, 1, [], [], rfl, rfl, rfl, by omega, by omega, Rch.start l x, rfl, rfl, .inl rfl, HT.out.1, by simp, HT.out.2, by simp⟩
  case round =>
    obtain ⟨k, a5, m, c5, g, nt, ct, out, D, rfl, rfl, rfl, hk, hnt, HR⟩ := hrel
    by_cases hlt : k < nt
    · obtain ⟨t, ht⟩ : ∃ t, (x :: D).getD k 0 = t := ⟨_, rfl⟩
      have Ht := Lib.hid ht
      clear ht
      go_wp2
      try go_frame
      go_loopw [5, 6, 8] (fun o t' i wr => ∃ (j : Nat) (a5 : Option Addr) (m c5 g nt ct : Nat) (out D : List Int), i = .int .i64 j ∧ o = .slice a5 m c5 ∧ t' = .slice (some ⟨g, 0, none⟩) nt ct ∧ k < nt ∧ nt ≤ n + 1 ∧ j ≤ n ∧ Hid (R1 w l x k out D a5 m g nt ct wr ∧ (x :: D).getD k 0 = t ∧ ∀ p ∈ l.take j, p.1 = t → p.2 ∈ out)) (fun _ _ i _ => n - (intOf i).toNat)
      case atStart => exact ⟨0, a5, m, c5, g, nt, ct, out, D, rfl, rfl, rfl, hlt, hnt, Nat.zero_le _, HR.out, Ht.out, by simp⟩
      case round =>
        clear HR Ht hk hlt hnt
        obtain ⟨j, a5, m, c5, g, nt, ct, out, D, rfl, rfl, rfl, hlt, hnt, hj, HR⟩ := hrel
        by_cases hjn : j < n
        · have hjl : j < l.length := by rw [Hn.out]; exact hjn
          obtain ⟨b', off', rfl, hc0, hc1⟩ := (H.out.below HR.out.1.below).at hjl
          have HC : Hid (∀ W, Below w.heap.size w W → W.cell? ⟨b', off' + j * 2, none⟩ = some (.int .i64 (l.getD j (0, 0)).1) ∧ W.cell? ⟨b', off' + j * 2 + 1, none⟩ = some (.int .i64 (l.getD j (0, 0)).2)) := fun W hW => by
            obtain ⟨b1, off1, e, d0, d1⟩ := (H.out.below hW).at hjl
            cases e
            exact ⟨d0, d1⟩
          have Htk := Lib.hid (take_one hjl)
          have hmem : l.getD j (0, 0) ∈ l := by
            rw [List.getD_eq_getElem?_getD, List.getElem?_eq_getElem hjl]
            exact List.getElem_mem hjl
          obtain ⟨q, hq⟩ : ∃ q, l.getD j (0, 0) = q := ⟨_, rfl⟩
          obtain ⟨q1, q2⟩ := q
          rw [hq] at hc0 hc1 HC Htk hmem
          simp only at hc0 hc1 HC
          have Hmem := Lib.hid hmem
          have hkD : k < (x :: D).length := by rw [List.length_cons, HR.out.1.hnt]; exact hlt
          have hxk : (x :: D)[k] = t := by
            have h1 := HR.out.2.1
            rw [List.getD_eq_getElem?_getD, List.getElem?_eq_getElem hkD] at h1
            exact h1
          have d0 : wr.cell? ⟨g, k, none⟩ = some (.int .i64 t) := by
            rw [HR.out.1.row.cellAt k (by omega), intsC_get _ k hkD, hxk]
          have Htm : Hid (t ∈ x :: D) := by show _ ∈ _; rw [← hxk]; exact List.getElem_mem hkD
          clear hq hmem hjl hkD hxk
          go_wp2
          go_region_held3 (fun w' => w'.cell? ⟨b', off' + j * 2, none⟩ = some (.int .i64 q1) ∧ w'.cell? ⟨b', off' + j * 2 + 1, none⟩ = some (.int .i64 q2) ∧ w'.cell? ⟨g, k, none⟩ = some (.int .i64 t)) (go_keep) (fail)
          try clear hHeld
          clear hc0 hc1 d0
          by_cases hqt : q1 = t
          · have e1 : (q1 == t) = true := by simpa using hqt
            have Hqt := Lib.hid hqt
            obtain ⟨s0, s1⟩ := HC.out wr.drew HR.out.1.below.drew
            have hsl : SlI wr.drew a5 out := HR.out.1.sl
            have hmb : m ≤ n := by rw [← HR.out.1.hm, ← Hn.out]; exact HR.out.1.rch.bound
            have Hput := Lib.hid (puti_at a5 c5 out q2 (by rw [HR.out.1.hm]; omega) wr.drew hsl)
            rw [HR.out.1.hm] at Hput
            by_cases hin : q2 ∈ out
            · rw [putI_in HR.out.1.rch.rise hin, HR.out.1.hm] at Hput
              have Hin := Lib.hid hin
              clear hin hsl hmb hqt
              go_wp2_with (first
                | (go_at_call 39; refine Hput.out.mono ?_; rintro e w5 ⟨a7, c7, rfl, h5⟩)
                | go_in)
              have HR5 : Hid (R1 w l x k out D a7 m g nt ct w5) := by
                have hB : Below wr.heap.size wr w5 := (Below.refl _ wr).drew.trans h5.out.2.1
                refine ⟨HR.out.1.rch, HR.out.1.hm, HR.out.1.hnt, h5.out.1, ownsRow_below HR.out.1.row hB, fun o e => ?_, HR.out.1.below.trans (hB.mono HR.out.1.below.size), fun g o e => h5.out.2.2.elim (fun h6 => HR.out.1.new g o (h6 ▸ e)) (fun h6 => Nat.le_trans HR.out.1.below.size (h6 g o e))⟩
                rcases h5.out.2.2 with h6 | h6
                · exact HR.out.1.apart o (h6 ▸ e)
                · have h7 := h6 g o e
                  have h8 := (HR.out.1.row.lt g rfl).2
                  have h9 : wr.heap.size ≤ g := h7
                  omega
              go_wp2
              go_roundw
              case rel =>
                refine ⟨j + 1, a7, m, c7, g, nt, ct, out, D, by go_num, rfl, rfl, hlt, hnt, by omega, HR5.out, HR.out.2.1, fun p hp e => ?_⟩
                rw [Htk.out] at hp
                rcases List.mem_append.1 hp with h1 | h1
                · exact HR.out.2.2 p h1 e
                · rw [List.mem_singleton] at h1
                  subst h1
                  exact Hin.out
              case measure => simp [intOf]; omega
            · rw [putI_out hin, HR.out.1.hm] at Hput
              have Hin := Lib.hid hin
              have hmm : m < m + 1 := by omega
              obtain ⟨m1, hm1⟩ : ∃ m1, m + 1 = m1 := ⟨_, rfl⟩
              rw [hm1] at Hput hmm
              have Hm1 := Lib.hid hm1
              clear hin hsl hqt hm1
              go_wp2_with (first
                | (go_at_call 39; refine Hput.out.mono ?_; rintro e w5 ⟨a7, c7, rfl, h5⟩
                   have hB : Below wr.heap.size wr w5 := (Below.refl _ wr).drew.trans h5.out.2.1
                   have HB5 : Hid (Below wr.heap.size wr w5) := hB
                   have HW5 : Hid (Below w.heap.size w w5) := HR.out.1.below.trans (hB.mono HR.out.1.below.size)
                   obtain ⟨z0, z1⟩ := HC.out w5 HW5.out
                   clear s0 s1 hB)
                | (at_builtin; refine wpList_append_lies _ rfl _ _ 33 rfl w.heap.size 3 i3 (.int .i64 0) 1 8 Try.underlying33 hi3 hz0 hz1 hz2 rfl (by decide) (.slice (some ⟨g, 0, none⟩) nt ct) nt (intsC (x :: D)) rfl ((ownsRow_below HR.out.1.row HB5.out).alloc _) ⟨w5.heap.size, 0, none⟩ 1 1 [.int .i64 q2] rfl rfl (news_new w5 #[.int .i64 q2] 3) (intsC_one [q2]) (by decide) (by unfold maxLen; omega) (by omega) (by have := HW5.out.size; simp; omega) _ rfl ?_)
                | go_in)
              intro g6 cap6 w6 hown6 hgrow6 hat6 hlt6
              have hg5 : g < w5.heap.size := Nat.lt_of_lt_of_le (HR.out.1.row.lt g rfl).2 HB5.out.size
              have hgw : w.heap.size ≤ g := (HR.out.1.row.lt g rfl).1
              have hgA : w5.grownBy w6 (some g) := ((World.grownBy_alloc w5 (.cells #[.int .i64 q2] 3) none).but (some g)).trans hgrow6
              have hne : putI out q2 ≠ [] := by
                intro e
                have h1 := putI_out Hin.out
                rw [e] at h1
                simp at h1
              have hga : ∀ o, a7 ≠ some ⟨g, o, none⟩ := fun o e => by
                rcases h5.out.2.2 with h6 | h6
                · exact HR.out.1.apart o (h6 ▸ e)
                · have h7 : wr.heap.size ≤ g := h6 g o e
                  have h8 := (HR.out.1.row.lt g rfl).2
                  omega
              have HR6 : Hid (R1 w l x k (putI out q2) (D ++ [q2]) a7 m1 g6 (nt + 1) cap6 w6) := by
                refine ⟨HR.out.1.rch.put (by rw [List.length_cons, HR.out.1.hnt]; omega) Htm.out (Hqt.out ▸ Hmem.out) Hin.out, by rw [putI_out Hin.out, HR.out.1.hm, Hm1.out], by rw [List.length_append, ← HR.out.1.hnt]; rfl, ?_, ?_, ?_, HW5.out.grown hgA HW5.out.size (fun k e => by cases e; exact hgw), fun g o e => h5.out.2.2.elim (fun h6 => HR.out.1.new g o (h6 ▸ e)) (fun h6 => Nat.le_trans HR.out.1.below.size (h6 g o e))⟩
                · exact h5.out.1.keep hgA (fun g' o k e e2 => by cases e2; intro e3; subst e3; exact hga o e)
                · have e2 : intsC (x :: (D ++ [q2])) = intsC (x :: D) ++ [.int .i64 q2] := by rw [← List.cons_append, intsC_snoc]
                  rw [e2]
                  exact hown6
                · intro o e
                  rcases hat6 with h6 | h6
                  · have h7 : g = g6 := by simpa [Value.ownBlock] using h6
                    exact hga o (h7 ▸ e)
                  · have h7 : g6 = w5.heap.size + 1 := by simpa using h6
                    have h8 := h5.out.1
                    rw [e] at h8
                    have h9 := h8.lt hne
                    omega
              have hnt1 : nt + 1 ≤ n + 1 := by
                have h1 := HR6.out.rch.bound
                rw [HR6.out.hm, Hn.out] at h1
                have h2 := HR6.out.rch.len
                have h3 := HR6.out.hnt
                have h4 := HR6.out.hm
                omega
              clear hown6 hgrow6 hat6 hlt6 hg5 hgw hgA hne hga
              go_wp2
              go_roundw
              case rel =>
                refine ⟨j + 1, a7, m1, c7, g6, nt + 1, cap6, _, _, by go_num, rfl, rfl, by omega, hnt1, by omega, HR6.out, ?_, fun p hp e => ?_⟩
                · have h1 := HR.out.2.1
                  have h2 : k < (x :: D).length := by rw [List.length_cons, HR.out.1.hnt]; exact hlt
                  rw [← List.cons_append, List.getD_eq_getElem?_getD, List.getElem?_append_left h2, ← List.getD_eq_getElem?_getD]
                  exact h1
                rw [Htk.out] at hp
                rcases List.mem_append.1 hp with h1 | h1
                · exact mem_putI.2 (.inr (HR.out.2.2 p h1 e))
                · rw [List.mem_singleton] at h1
                  subst h1
                  exact mem_putI.2 (.inl rfl)
              case measure => simp [intOf]; omega
          · have e1 : (q1 == t) = false := by simpa using hqt
            have Hqt := Lib.hid hqt
            clear hqt
            go_wp2
            go_roundw
            case rel =>
              refine ⟨j + 1, a5, m, c5, g, nt, ct, out, D, by go_num, rfl, rfl, hlt, hnt, by omega, ⟨HR.out.1.rch, HR.out.1.hm, HR.out.1.hnt, HR.out.1.sl, HR.out.1.row, HR.out.1.apart, HR.out.1.below.drew, HR.out.1.new⟩, HR.out.2.1, fun p hp e => ?_⟩
              rw [Htk.out] at hp
              rcases List.mem_append.1 hp with h1 | h1
              · exact HR.out.2.2 p h1 e
              · rw [List.mem_singleton] at h1
                subst h1
                exact absurd e Hqt.out
            case measure => simp [intOf]; omega
        · have hjn' : n = j := by omega
          have HN : Hid (Rch l x (k + 1) out D) := by
            have h1 := HR.out.2.2
            rw [← hjn', ← Hn.out, List.take_length] at h1
            refine HR.out.1.rch.next (by rw [List.length_cons, HR.out.1.hnt]; exact hlt) (fun z hz => ?_)
            rw [HR.out.2.1] at hz
            exact h1 _ hz rfl
          subst hjn'
          clear hj hjn
          go_wp2
          go_roundw
          case rel => exact ⟨k + 1, a5, m, c5, g, nt, ct, out, D, by go_num, rfl, rfl, by omega, hnt, HN.out, HR.out.1.hm, HR.out.1.hnt, HR.out.1.sl, HR.out.1.row, HR.out.1.apart, HR.out.1.below, HR.out.1.new⟩
          case measure => simp [intOf]; omega
    · have hkn : nt = k := by omega
      have HS : Hid (∀ z, z ∈ out ↔ TC l x z) := HR.out.rch.stop (by rw [List.length_cons, HR.out.hnt]; omega)
      subst hkn
      clear hk hlt
      go_wp2
      go_ret
      exact ⟨a5, c5, m, out, rfl, HR.out.hm, HR.out.rch.rise, HS.out, HR.out.sl, HR.out.below, HR.out.new⟩
end Go.Proofs.Ytadlgkakjaecdaa
