/- The walk of the statement on Closure, Circle and Fits. -/
import Derived.Test.YtadlgkakjaecdaaCf
import Derived.Test.YtadlgkakjaecdaaFr
namespace Go.Proofs.Ytadlgkakjaecdaa
open Go.RowKit Go.Maps Go.WideMaps Go.WideElems Go.ChangeShapes Go.WideShapes

theorem tc_same {L M : List Pr} (h : ∀ q, q ∈ L ↔ q ∈ M) {a b : Int} : TC L a b ↔ TC M a b := ⟨TC.mono (fun p => (h p).1), TC.mono (fun p => (h p).2)⟩
theorem below_get {w W : World} {B g o : Nat} {v : Value} (h : Below B w W) (hg : g < B) (hc : w.cell? ⟨g, o, none⟩ = some v) : W.cell? ⟨g, o, none⟩ = some v := (h.cell (p := ⟨g, o, none⟩) hg).trans hc

set_option maxHeartbeats 8000000 in
set_option maxRecDepth 100000 in
theorem relCloses_any (a : Option Addr) (c : Nat) (l : List Pr) (hl : ∀ p ∈ l, FitP p) (a0 : Option Addr) (c0 : Nat) (zs : List Int) (hzf : ∀ x ∈ zs, fit64 x) (w : World) (h : SlP w a l) (hs : SlI w a0 zs) :
    Calls Try.prog 4 #[.slice a l.length c, .slice a0 zs.length c0] w fun e w' => e = .returned (.bool true) ∧ Hid (Below w.heap.size w w') := by
  obtain ⟨i3, hi3, hz0, hz1, hz2⟩ := info_parts elem3
  have H := Lib.hid h
  have Hs := Lib.hid hs
  have Hzf := Lib.hid hzf
  obtain ⟨n, hn⟩ : ∃ n, l.length = n := ⟨_, rfl⟩
  obtain ⟨nz, hnz⟩ : ∃ nz, zs.length = nz := ⟨_, rfl⟩
  obtain ⟨m, hm⟩ : ∃ m, (putAll l).length = m := ⟨_, rfl⟩
  have Hmade : Hid (n ≤ 60 → ∀ W, SlP W a l → Calls Try.prog 21 #[.slice a n c] W fun e w' => ∃ r b L D a' c', e = .returned (.tuple #[.pointer (some ⟨r, 0, none⟩), .slice a' m c']) ∧ Hid (RelAt r b L D w' ∧ (∀ q, q ∈ L ↔ q ∈ l) ∧ SlP w' a' (putAll l) ∧ Below W.heap.size W w' ∧ W.heap.size ≤ r ∧ W.heap.size ≤ b)) := fun h60 W hW => by
    have h1 := made_any a c l (by omega) hl W hW
    rw [hn, hm] at h1
    exact h1
  obtain ⟨M, hM⟩ : ∃ M, putAll l = M := ⟨_, rfl⟩
  rw [hM] at Hmade hm
  have HMr : Hid (RiseP M) := by show RiseP M; rw [← hM]; exact rise_putAll l
  have HMm : Hid (∀ q, q ∈ M ↔ q ∈ l) := fun q => by rw [← hM]; exact mem_putAll l q
  have hmn : m ≤ n := by rw [← hm, ← hn, ← hM]; exact putAll_len l
  have Hm := Lib.hid hm
  have Hn := Lib.hid hn
  have Hnz := Lib.hid hnz
  rw [hn, hnz]
  clear h hs hl hn hM hm hnz hzf
  have hfst : Hid (Calls Try.prog 9 #[] w fun e w' => e = .returned (.bool true) ∧ Hid (Below w.heap.size w w')) := first_any w
  by_cases h60 : n ≤ 60
  · by_cases hz60 : nz ≤ 60
    · have hN : decide ((60 : Int) < (n : Int)) = false := by simp; omega
      have hN2 : decide ((60 : Int) < (nz : Int)) = false := by simp; omega
      have HN := Lib.hid h60
      have Hml : Hid (M.length ≤ 100) := by show _ ≤ _; rw [Hm.out]; omega
      -- the document's answers, by the number m of its pairs
      have Hclo : Hid (∀ a2 c2 W, SlP W a2 M → Calls Try.prog 25 #[.slice a2 m c2] W fun e w' => ∃ a' c' n' out, e = .returned (.slice a' n' c') ∧ Hid (out.length = n' ∧ RiseP out ∧ (∀ p, p ∈ out ↔ TC M p.1 p.2) ∧ SlP w' a' out ∧ Below W.heap.size W w')) := fun a2 c2 W hW => by
        have h1 := closure9_any a2 c2 M Hml.out HMr.out W hW
        rw [Hm.out] at h1
        exact h1
      have Hcir : Hid (∀ a2 c2 W, SlP W a2 M → Calls Try.prog 27 #[.slice a2 m c2] W fun e w' => ∃ b, e = .returned (.bool b) ∧ Hid ((b = true ↔ ∃ z, TC M z z) ∧ Below W.heap.size W w')) := fun a2 c2 W hW => by
        have h1 := circle9_any a2 c2 M Hml.out HMr.out W hW
        rw [Hm.out] at h1
        exact h1
      have Hfit : Hid (∀ a2 c2 W, SlP W a2 M → SlI W a0 zs → Calls Try.prog 28 #[.slice a2 m c2, .slice a0 nz c0] W fun e w' => ∃ b, e = .returned (.bool b) ∧ Hid ((b = true ↔ ∀ p ∈ M, ¬ BadAt zs p) ∧ Below W.heap.size W w')) := fun a2 c2 W hW hZ => by
        have h1 := fits9_any a2 c2 M (by have := Hml.out; omega) a0 c0 zs (by rw [Hnz.out]; omega) W hW hZ
        rw [Hm.out, Hnz.out] at h1
        exact h1
      have Hint : Hid (∀ W, SlI W a0 zs → Calls Try.prog 23 #[.slice a0 nz c0] W fun e w' => ∃ v', e = .returned v' ∧ Hid (w'.ownsRow W.heap.size 3 1 v' nz (intsC zs) ∧ Below W.heap.size W w')) := fun W hZ => by
        have h1 := ints9_any a0 c0 zs (by rw [Hnz.out]; omega) W hZ
        rw [Hnz.out] at h1
        exact h1
      clear h60
      go_enter Try.func4, Try.ntmps4
      go_wp2_with (first
        | (go_at_call 9; refine hfst.out.mono ?_; rintro e w1 ⟨rfl, h1⟩; have H1 := Lib.hid (H.out.below h1.out))
        | (go_at_call 21; refine (Hmade.out HN.out w1 H1.out).mono ?_; rintro e w2 ⟨r, b, L, D, a2, c2, rfl, h2⟩
           have Hr2 := Lib.hid h2.out.1
           have Hs2 := Lib.hid h2.out.2.2.1
           have HLM : Hid (∀ q, q ∈ L ↔ q ∈ M) := fun q => by rw [h2.out.2.1 q, HMm.out q]
           have Hb2 : Hid (Below w.heap.size w w2) := h1.out.trans (h2.out.2.2.2.1.mono h1.out.size)
           have HLl : Hid (L.length ≤ 60) := by
             have h3 := nodup_len h2.out.1.prs.once (fun p hp => (h2.out.2.1 p).1 hp)
             have h4 := Hn.out
             have h5 := HN.out
             show _ ≤ _
             omega
           clear h2 h1 H1)
        | (go_at_call 22; with_reducible refine (closure_any r b L D (by have := HLl.out; omega) (tc_bound (by have := HLl.out; omega)) w2 Hr2.out).mono ?_; rintro e w3 ⟨r3, b3, N, DN, rfl, h3⟩
           have Hr3 := Lib.hid (Hr2.out.below h3.out.2.2.1)
           have Hs3 := Lib.hid (Hs2.out.below h3.out.2.2.1)
           have Hc3 := Lib.hid h3.out.1
           have Hb3 : Hid (Below w.heap.size w w3) := Hb2.out.trans (h3.out.2.2.1.mono Hb2.out.size)
           have HNm : Hid (∀ p, p ∈ N ↔ TC L p.1 p.2) := h3.out.2.1
           have HNn : Hid (N.length ≤ 10000) := tc_bound (by have := HLl.out; omega) N h3.out.1.prs.once (fun p hp => (h3.out.2.1 p).1 hp)
           have Hz3 : Hid (SlI w3 a0 zs) := Hs.out.below (grown_below Hb3.out)
           clear h3)
        | (go_at_call 23; with_reducible refine (Hint.out w3 Hz3.out).mono ?_; rintro e w4 ⟨v4, rfl, h4⟩
           have Hr4 := Lib.hid (Hr3.out.below h4.out.2)
           have Hs4 := Lib.hid (Hs3.out.below h4.out.2)
           have Hc4 := Lib.hid (Hc3.out.below h4.out.2)
           have Hb4 : Hid (Below w.heap.size w w4) := Hb3.out.trans (h4.out.2.mono Hb3.out.size)
           have Hrow4 := Lib.hid h4.out.1
           have H34 : Hid (Below w3.heap.size w3 w4) := h4.out.2
           have HA4 : Hid (w3.heap.size ≤ (w4.alloc (.cells #[.int .i64 47] 3)).heap.size) := by
             have h5 := h4.out.2.size
             show _ ≤ (World.alloc _ _).heap.size
             simp
             omega
           clear h4)
        | (at_builtin; refine wpList_append_lies _ rfl _ _ 33 rfl w3.heap.size 3 i3 (.int .i64 0) 1 8 Try.underlying33 hi3 hz0 hz1 hz2 rfl (by decide) v4 nz (intsC zs) rfl (Hrow4.out.alloc _) ⟨w4.heap.size, 0, none⟩ 1 1 [.int .i64 47] rfl rfl (news_new w4 #[.int .i64 47] 3) (intsC_one [47]) (by decide) (by unfold maxLen; omega) (by omega) HA4.out _ rfl ?_)
        | go_in)
      intro g5 cap5 w5 hown5 hgrow5 hat5 hlt5
      have hB5 : Below w3.heap.size w3 w5 := (H34.out.alloc H34.out.size _).grown hgrow5 HA4.out (fun k e => (Hrow4.out.lt k e).1)
      have Hr5 := Lib.hid (Hr3.out.below hB5)
      have Hs5 := Lib.hid (Hs3.out.below hB5)
      have Hc5 := Lib.hid (Hc3.out.below hB5)
      have Hb5 : Hid (Below w.heap.size w w5) := Hb3.out.trans (hB5.mono Hb3.out.size)
      have hrow5 : w5.ownsRow w3.heap.size 3 1 (.slice (some ⟨g5, 0, none⟩) (nz + 1) cap5) (nz + 1) (intsC (zs ++ [47])) := by
        rw [intsC_snoc]
        exact hown5
      have hcap5 : nz ≤ cap5 := by
        rcases hrow5.2 with ⟨e, _⟩ | ⟨g', cap', cur, e, _, _, h6, _⟩
        · cases e
        · cases e; omega
      have Hrow5 := Lib.hid hrow5
      have Hsl5 : Hid (SlI w5 (some ⟨g5, 0, none⟩) zs) := by
        refine .inr ⟨g5, 0, rfl, fun _ => hlt5, fun k x hk => ?_⟩
        obtain ⟨hk1, rfl⟩ := List.getElem?_eq_some_iff.1 hk
        have h6 : k < nz := by rw [← Hnz.out]; exact hk1
        have h7 := hrow5.cellAt k (by omega)
        rw [intsC_get _ k (by simp; omega), List.getElem_append_left hk1] at h7
        rw [Nat.zero_add]
        exact h7
      have Hlast5 : Hid (w5.cell? ⟨g5, nz, none⟩ = some (.int .i64 47)) := by
        have h7 := hrow5.cellAt nz (by omega)
        rw [intsC_get _ nz (by rw [List.length_append, Hnz.out]; simp)] at h7
        show World.cell? _ _ = _
        rw [h7]
        simp [← Hnz.out]
      have Hlt5 := Lib.hid hlt5
      have Hft : Hid (∀ W, RelAt r b L D W → SlI W (some ⟨g5, 0, none⟩) zs → Calls Try.prog 24 #[.pointer (some ⟨r, 0, none⟩), .slice (some ⟨g5, 0, none⟩) nz cap5] W fun e w' => ∃ c, e = .returned (.bool c) ∧ Hid ((c = true ↔ ∀ p ∈ L, ¬ BadAt zs p) ∧ Below W.heap.size W w')) := fun W hW hZ => by
        have h8 := fits_any r b L D (by have := HLl.out; omega) (some ⟨g5, 0, none⟩) cap5 zs (by rw [Hnz.out]; omega) Hzf.out W hW hZ
        rw [Hnz.out] at h8
        exact h8
      have His : Hid (∀ W, RelAt r b L D W → SlP W a2 M → Calls Try.prog 20 #[.pointer (some ⟨r, 0, none⟩), .slice a2 m c2] W fun e w' => e = .returned (.bool true) ∧ Hid (Below W.heap.size W w')) := fun W hW hS => by
        have h8 := is_any r b L D (by have := HLl.out; omega) a2 c2 M HMr.out HLM.out W hW hS
        rw [Hm.out] at h8
        exact h8
      have His2 : Hid (∀ a' c' n' out W, out.length = n' → RiseP out → (∀ p, p ∈ out ↔ TC M p.1 p.2) → RelAt r3 b3 N DN W → SlP W a' out → Calls Try.prog 20 #[.pointer (some ⟨r3, 0, none⟩), .slice a' n' c'] W fun e w' => e = .returned (.bool true) ∧ Hid (Below W.heap.size W w')) := fun a' c' n' out W e1 e2 e3 hW hS => by
        have h8 := is_any r3 b3 N DN HNn.out a' c' out e2 (fun q => by rw [HNm.out q, e3 q]; exact tc_same HLM.out) W hW hS
        rw [e1] at h8
        exact h8
      clear hown5 hgrow5 hat5 hlt5 hB5 hrow5 Hrow4 HA4 H34 Hr4 Hs4 Hc4 Hb4 Hz3 Hr3 Hs3 Hc3 Hb3
      go_wp2_with (first
        | (go_at_call 24; with_reducible refine (Hft.out w5 Hr5.out Hsl5.out).mono ?_; rintro e w6 ⟨b6, rfl, h6⟩
           have Hr6 := Lib.hid (Hr5.out.below h6.out.2)
           have Hs6 := Lib.hid (Hs5.out.below h6.out.2)
           have Hc6 := Lib.hid (Hc5.out.below h6.out.2)
           have Hb6 : Hid (Below w.heap.size w w6) := Hb5.out.trans (h6.out.2.mono Hb5.out.size)
           have H56 : Hid (Below w5.heap.size w5 w6) := h6.out.2
           have Hbit6 : Hid (b6 = true ↔ ∀ p ∈ L, ¬ BadAt zs p) := h6.out.1
           clear h6)
        | (go_at_call 25; with_reducible refine (Hclo.out a2 c2 w6 Hs6.out).mono ?_; rintro e w7 ⟨a7, c7, n7, out7, rfl, h7⟩
           have Hr7 := Lib.hid (Hr6.out.below h7.out.2.2.2.2)
           have Hs7 := Lib.hid (Hs6.out.below h7.out.2.2.2.2)
           have Hc7 := Lib.hid (Hc6.out.below h7.out.2.2.2.2)
           have Hb7 : Hid (Below w.heap.size w w7) := Hb6.out.trans (h7.out.2.2.2.2.mono Hb6.out.size)
           have H57 : Hid (Below w5.heap.size w5 w7) := H56.out.trans (h7.out.2.2.2.2.mono H56.out.size)
           have H7 := Lib.hid (His2.out a7 c7 n7 out7 w7 h7.out.1 h7.out.2.1 h7.out.2.2.1 Hc7.out h7.out.2.2.2.1)
           clear h7)
        | (go_at_call 20; with_reducible refine H7.out.mono ?_; rintro e w8 ⟨rfl, h8⟩
           have Hr8 := Lib.hid (Hr7.out.below h8.out)
           have Hs8 := Lib.hid (Hs7.out.below h8.out)
           have Hb8 : Hid (Below w.heap.size w w8) := Hb7.out.trans (h8.out.mono Hb7.out.size)
           have H58 : Hid (Below w5.heap.size w5 w8) := H57.out.trans (h8.out.mono H57.out.size)
           clear h8 H7)
        | (go_at_call 20; with_reducible refine (His.out w8 Hr8.out Hs8.out).mono ?_; rintro e w9 ⟨rfl, h9⟩
           have Hr9 := Lib.hid (Hr8.out.below h9.out)
           have Hs9 := Lib.hid (Hs8.out.below h9.out)
           have Hb9 : Hid (Below w.heap.size w w9) := Hb8.out.trans (h9.out.mono Hb8.out.size)
           have H59 : Hid (Below w5.heap.size w5 w9) := H58.out.trans (h9.out.mono H58.out.size)
           clear h9)
        | (go_at_call 26; with_reducible refine (circle_any r b L D (by have := HLl.out; omega) w9 Hr9.out).mono ?_; rintro e w10 ⟨b10, rfl, h10⟩
           have Hs10 := Lib.hid (Hs9.out.below h10.out.2)
           have Hb10 : Hid (Below w.heap.size w w10) := Hb9.out.trans (h10.out.2.mono Hb9.out.size)
           have H510 : Hid (Below w5.heap.size w5 w10) := H59.out.trans (h10.out.2.mono H59.out.size)
           have Hbit10 : Hid (b10 = true ↔ ∃ z, TC L z z) := h10.out.1
           clear h10)
        | (go_at_call 27; with_reducible refine (Hcir.out a2 c2 w10 Hs10.out).mono ?_; rintro e w11 ⟨b11, rfl, h11⟩
           have hbb : b11 = b10 := by
             have e1 := h11.out.1
             have e2 := Hbit10.out
             have e3 : (∃ z, TC M z z) ↔ ∃ z, TC L z z := ⟨fun ⟨z, hz⟩ => ⟨z, (tc_same HLM.out).2 hz⟩, fun ⟨z, hz⟩ => ⟨z, (tc_same HLM.out).1 hz⟩⟩
             exact Bool.eq_iff_iff.2 (e1.trans (e3.trans e2.symm))
           subst hbb
           have Hs11 := Lib.hid (Hs10.out.below h11.out.2)
           have Hb11 : Hid (Below w.heap.size w w11) := Hb10.out.trans (h11.out.2.mono Hb10.out.size)
           have H511 : Hid (Below w5.heap.size w5 w11) := H510.out.trans (h11.out.2.mono H510.out.size)
           have Hz11 : Hid (SlI w11 a0 zs) := Hs.out.below (grown_below Hb11.out)
           clear h11)
        | (go_at_call 28; with_reducible refine (Hfit.out a2 c2 w11 Hs11.out Hz11.out).mono ?_; rintro e w12 ⟨b12, rfl, h12⟩
           have hbb : b12 = b6 := by
             have e1 := h12.out.1
             have e2 := Hbit6.out
             have e3 : (∀ p ∈ M, ¬ BadAt zs p) ↔ ∀ p ∈ L, ¬ BadAt zs p := ⟨fun h p hp => h p ((HLM.out p).1 hp), fun h p hp => h p ((HLM.out p).2 hp)⟩
             exact Bool.eq_iff_iff.2 (e1.trans (e3.trans e2.symm))
           subst hbb
           have Hb12 : Hid (Below w.heap.size w w12) := Hb11.out.trans (h12.out.2.mono Hb11.out.size)
           have hlast : w12.cell? ⟨g5, nz, none⟩ = some (.int .i64 47) := below_get (H511.out.trans (h12.out.2.mono H511.out.size)) Hlt5.out Hlast5.out
           clear h12)
        | go_in)
      go_ret
      exact ⟨by first | rfl | (cases b11 <;> cases b12 <;> rfl), Hb12.out⟩
    · have hN : decide ((60 : Int) < (n : Int)) = false := by simp; omega
      have hN2 : decide ((60 : Int) < (nz : Int)) = true := by simp; omega
      clear h60 hz60
      go_enter Try.func4, Try.ntmps4
      go_wp2_with (first
        | (go_at_call 9; refine hfst.out.mono ?_; rintro e w1 ⟨rfl, h1⟩)
        | go_in)
      go_ret
      exact ⟨rfl, h1.out⟩
  · have hN : decide ((60 : Int) < (n : Int)) = true := by simp; omega
    clear h60
    go_enter Try.func4, Try.ntmps4
    go_wp2_with (first
      | (go_at_call 9; refine hfst.out.mono ?_; rintro e w1 ⟨rfl, h1⟩)
      | go_in)
    go_ret
    exact ⟨rfl, h1.out⟩
end Go.Proofs.Ytadlgkakjaecdaa
