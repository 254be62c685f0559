/- The walk of the statement on relations of texts. -/
import Derived.Test.YtadlgkakjaecdaaTi
import Derived.Test.YtadlgkakjaecdaaKl
import Derived.Test.YtadlgkakjaecdaaOr
import Derived.Test.YtadlgkakjaecdaaCf
import Derived.Laws.BitsLemmas
namespace Go.Proofs.Ytadlgkakjaecdaa
open Go.RowKit Go.Maps Go.WideMaps Go.WideElems Go.ChangeShapes Go.WideShapes
def sm (l : List Pr) : List Pr := l.map fun p => (p.1 % 16, p.2 % 16)
theorem and15 (q : Int) : bits BinOp.and IntKind.i64 q 15 = q % 16 := by
  have e : bits BinOp.and IntKind.i64 q 15 = IntKind.i64.wrap (((q % 18446744073709551616).toNat &&& (2 ^ 4 - 1) : Nat) : Int) := by
    unfold bits
    simp
    rfl
  rw [e, Nat.and_two_pow_sub_one_eq_mod, IntKind.wrap_i64]
  omega
theorem str_fin : ∀ u : Fin 16, (ByteArray.mk #[120] ++ (ByteArray.mk #[97, 98, 99, 100, 101, 102, 103, 104, 105, 106, 107, 108, 109, 110, 111, 112]).extract u.val (u.val + 1)) = tb (u.val : Int) := by decide +kernel
theorem str_tb {u : Nat} (h : u < 16) : (ByteArray.mk #[120] ++ (ByteArray.mk #[97, 98, 99, 100, 101, 102, 103, 104, 105, 106, 107, 108, 109, 110, 111, 112]).extract u (u + 1)) = tb (u : Int) := str_fin ⟨u, h⟩
theorem fit16 (q : Int) : FitT (q % 16) := by unfold FitT; omega
theorem elem29 : (Try.prog.info? 29).map (fun i => (i.zero, i.size, i.bytes)) = some (some (.agg #[.int .i64 0, .int .i64 0]), 2, 16) := by kernel_rfl
theorem same_lenT {L M : List Pr} (hL : L.Nodup) (hM : M.Nodup) (h : ∀ p, p ∈ L ↔ p ∈ M) : L.length = M.length :=
  Nat.le_antisymm (nodup_len hL (fun p hp => (h p).1 hp)) (nodup_len hM (fun p hp => (h p).2 hp))
theorem fit64_of {x : Int} (h : FitT x) : fit64 x := fit_small h.1 (by have := h.2; omega)
theorem sm_len (l : List Pr) : (sm l).length = l.length := List.length_map _
theorem sm_fit (l : List Pr) : ∀ p ∈ sm l, FitP p := fun p hp => by
  obtain ⟨q, _, rfl⟩ := List.mem_map.1 hp
  exact ⟨fit64_of (fit16 _), fit64_of (fit16 _)⟩
theorem sm_fitQ (l : List Pr) : ∀ p ∈ sm l, FitQ p := fun p hp => by
  obtain ⟨q, _, rfl⟩ := List.mem_map.1 hp
  exact ⟨fit16 _, fit16 _⟩
theorem flatT_cells {W : World} {B g n c : Nat} {l : List Pr} (h : W.ownsRow B 52 2 (.slice (some ⟨g, 0, none⟩) n c) n (flatT l)) (hl : l.length = n) {k : Nat} (hk : k < n) : W.cell? ⟨g, k * 2, none⟩ = some (tv (l.getD k (0, 0)).1) ∧ W.cell? ⟨g, k * 2 + 1, none⟩ = some (tv (l.getD k (0, 0)).2) := by
  have hk1 : k < l.length := by omega
  obtain ⟨g0, g1⟩ := flat_getT l k hk1
  have h1 := h.cellAt (k * 2) (by omega)
  have h2 := h.cellAt (k * 2 + 1) (by omega)
  rw [g0] at h1
  rw [g1] at h2
  rw [List.getD_eq_getElem?_getD, List.getElem?_eq_getElem hk1]
  exact ⟨h1, h2⟩
structure Tx1 (w : World) (r b : Nat) (L : List Pr) (D : DU) (l : List Pr) (v : Value) (W : World) : Prop where
  rel : RelT r b L D W
  mem : ∀ q, q ∈ L ↔ q ∈ sm l
  row : W.ownsRow w.heap.size 29 2 v l.length (flat (sm l))
  below : Below w.heap.size w W
set_option maxHeartbeats 8000000 in
set_option maxRecDepth 100000 in
theorem relTexts_any (a : Option Addr) (c : Nat) (l : List Pr) (hl : ∀ p ∈ l, FitP p) (w : World) (h : SlP w a l) :
    Calls Try.prog 5 #[.slice a l.length c] w fun e w' => e = .returned (.bool true) ∧ Hid (Below w.heap.size w w') := by
  obtain ⟨i0, hi, hz0, hz1, hz2⟩ := info_parts elem29
  have H := Lib.hid h
  have Hf := Lib.hid hl
  obtain ⟨n, hn⟩ : ∃ n, l.length = n := ⟨_, rfl⟩
  rw [hn]
  have Hn := Lib.hid hn
  clear h hl hn
  have hfst : Hid (Calls Try.prog 9 #[] w fun e w' => e = .returned (.bool true) ∧ Hid (Below w.heap.size w w')) := first_any w
  by_cases h60 : n ≤ 60
  · have hN : decide ((60 : Int) < (n : Int)) = false := by simp; omega
    have HN := Lib.hid h60
    go_enter Try.func5, Try.ntmps5
    go_wp2_with (first
      | (go_at_call 9; refine hfst.out.mono ?_; rintro e w1 ⟨rfl, h1⟩)
      | (go_at_call 29; refine (newT_any _).mono ?_; rintro e w2 ⟨r, b, rfl, h2⟩
         have Hb2 : Hid (Below w.heap.size w w2) := h1.out.trans (h2.out.2.1.mono h1.out.size)
         have Hr2 := Lib.hid h2.out.1
         have Hrb : Hid (w.heap.size ≤ r ∧ w.heap.size ≤ b) := ⟨Nat.le_trans h1.out.size h2.out.2.2.1, Nat.le_trans h1.out.size h2.out.2.2.2⟩
         clear h2 h1)
      | go_in)
    try go_frame
    go_loopw [5, 6] (fun v i wr => ∃ (k : Nat) (L : List Pr) (D : DU), i = .int .i64 k ∧ k ≤ n ∧ Hid (Tx1 w r b L D (l.take k) v wr)) (fun _ i _ => n - (intOf i).toNat)
    case atStart => exact ⟨0, _, _, rfl, Nat.zero_le _, Hr2.out, by simp [sm], World.ownsRow_nil _ _ _ _, Hb2.out⟩
    case round =>
      obtain ⟨k, L, D, rfl, hk, HR⟩ := hrel
      by_cases hlt : k < n
      · have hkl : k < l.length := by rw [Hn.out]; exact hlt
        have hslw := H.out.below HR.out.below
        obtain ⟨b', off', rfl, hc0, hc1⟩ := hslw.at hkl
        obtain ⟨q, hq⟩ : ∃ q, l.getD k (0, 0) = q := ⟨_, rfl⟩
        obtain ⟨q1, q2⟩ := q
        rw [hq] at hc0 hc1
        simp only at hc0 hc1
        have ha1 := and15 q1
        have ha2 := and15 q2
        have htk : sm (l.take (k + 1)) = sm (l.take k) ++ [(q1 % 16, q2 % 16)] := by
          rw [take_one hkl, hq]
          simp [sm]
        have htl : (l.take k).length = k := by rw [List.length_take]; omega
        have htl1 : (l.take (k + 1)).length = k + 1 := by rw [List.length_take]; omega
        have hLl : L.length ≤ 60 := by
          have h2 := nodup_len HR.out.rel.prs.once (fun p hp => (HR.out.mem p).1 hp)
          rw [show (sm (l.take k)).length = (l.take k).length from List.length_map _, htl] at h2
          omega
        obtain ⟨x1, hx1⟩ : ∃ x : Nat, q1 % 16 = (x : Int) := ⟨(q1 % 16).toNat, by omega⟩
        obtain ⟨x2, hx2⟩ : ∃ x : Nat, q2 % 16 = (x : Int) := ⟨(q2 % 16).toNat, by omega⟩
        have hf1 : FitT (x1 : Int) := hx1 ▸ fit16 q1
        have hf2 : FitT (x2 : Int) := hx2 ▸ fit16 q2
        rw [hx1] at ha1 htk
        rw [hx2] at ha2 htk
        have Htk := Lib.hid htk
        have Hf1 := Lib.hid hf1
        have Hf2 := Lib.hid hf2
        have HLl := Lib.hid hLl
        have Htl1 := Lib.hid htl1
        have hb1 : x1 < 16 := by have := hf1.2; omega
        have hb2 : x2 < 16 := by have := hf2.2; omega
        obtain ⟨W4, hW4, hb4, hs4, k0, k1⟩ := two_new wr (.int .i64 (x1 : Int)) (.int .i64 (x2 : Int)) 29
        have HW4 : Hid (Below w.heap.size w W4.drew) := (HR.out.below.trans (hb4.out.mono HR.out.below.size)).drew
        have Hr4 : Hid (RelT r b L D W4.drew) := (HR.out.rel.below hb4.out).drew
        have Hrow4 : Hid (W4.drew.ownsRow w.heap.size 29 2 u5 k (flat (sm (l.take k)))) := by
          have h1 := ownsRow_below HR.out.row hb4.out
          rw [htl] at h1
          exact h1
        have hslA : SlP W4.drew (some ⟨b', off', none⟩) l := H.out.below HW4.out
        obtain ⟨bA, oA, eA, d0, d1⟩ := hslA.at hkl
        cases eA
        rw [hq] at d0 d1
        simp only at d0 d1
        have hg0 : W4.drew.cell? ⟨wr.heap.size, 0, none⟩ = some (.int .i64 x1) := k0
        have hg1 : W4.drew.cell? ⟨wr.heap.size, 1, none⟩ = some (.int .i64 x2) := k1
        have HA : Hid (w.heap.size ≤ (W4.drew.alloc (.cells #[.int .i64 x1, .int .i64 x2] 29)).heap.size) := by
          have h1 := HW4.out.size
          show _ ≤ (World.alloc _ _).heap.size
          simp
          have h2 : W4.drew.heap.size = W4.heap.size := rfl
          omega
        have Hgr : Hid (wr.heap.size < W4.drew.heap.size ∧ w.heap.size ≤ wr.heap.size) := ⟨hs4.out, HR.out.below.size⟩
        clear hslA hq hslw hkl hx1 hx2 htk htl htl1 hLl hf1 hf2 hb4 hs4
        go_wp2
        go_region_held3 (fun w' => w'.cell? ⟨b', off' + k * 2, none⟩ = some (.int .i64 q1) ∧ w'.cell? ⟨b', off' + k * 2 + 1, none⟩ = some (.int .i64 q2)) (go_keep) (fail)
        try clear hHeld
        clear hc0 hc1 ha1 ha2 d0 d1
        go_wp2_with (first
          | (at_builtin; refine wpList_append_lies _ rfl _ _ 22 rfl w.heap.size 29 i0 (.agg #[.int .i64 0, .int .i64 0]) 2 16 Try.underlying22 hi hz0 hz1 hz2 rfl (by decide) u5 k (flat (sm (l.take k))) rfl (Hrow4.out.alloc _) ⟨W4.drew.heap.size, 0, none⟩ 1 1 [.int .i64 x1, .int .i64 x2] rfl rfl (news_new W4.drew #[.int .i64 x1, .int .i64 x2] 29) (flat_one [((x1 : Int), (x2 : Int))]) (by decide) (by unfold maxLen; omega) (by omega) HA.out _ rfl ?_)
          | go_in)
        intro g6 cap6 w6 hown6 hgrow6 hat6 hlt6
        have hgB : W4.drew.grownBy w6 u5.ownBlock := (World.grownBy_alloc W4.drew (.cells #[.int .i64 x1, .int .i64 x2] 29) _).trans hgrow6
        have hbox : u5.ownBlock ≠ some wr.heap.size := fun e => by
          rcases (HR.out.row).2 with ⟨e1, _⟩ | ⟨g, cap, cur, e1, _, hg, _⟩
          · rw [e1] at e; cases e
          · rw [e1] at e
            have e2 : g = wr.heap.size := by simpa [Value.ownBlock] using e
            have := (Array.getElem?_eq_some_iff.1 hg).1
            omega
        have m0 : w6.drew.cell? ⟨wr.heap.size, 0, none⟩ = some (.int .i64 x1) := hgB.cell hg0 (fun e => hbox e.symm)
        have m1 : w6.drew.cell? ⟨wr.heap.size, 1, none⟩ = some (.int .i64 x2) := hgB.cell hg1 (fun e => hbox e.symm)
        have hboxr : ∀ g, u5.ownBlock = some g → g ≠ r := fun g e e2 => by
          rcases Hrow4.out.2 with ⟨e1, _⟩ | ⟨g', cap, cur, e1, _, hg, _⟩
          · rw [e1] at e; cases e
          · rw [e1] at e
            have e3 : g' = g := by simpa [Value.ownBlock] using e
            rw [e3, e2] at hg
            have h9 : W4.drew.heap[r]? = _ := Hr4.out.box
            rw [h9] at hg
            cases hg
        have Hr6 : Hid (RelT r b L D w6.drew) := by
          obtain ⟨o, ho, hc⟩ := relT_obj Hr4.out
          exact (Hr4.out.kept hgB (fun e => hboxr r e.symm rfl) (fun e => row_no Hrow4.out ho hc e.symm)).drew
        have Hb6 : Hid (Below w.heap.size w w6.drew) := (HW4.out.grown hgB HW4.out.size (fun j e => (Hrow4.out.lt j e).1)).drew
        have Hbne : Hid (b ≠ wr.heap.size) := by
          have h1 := HR.out.rel.blt
          show _ ≠ _
          omega
        clear hgB hbox hboxr
        have p1 : IntKind.i64.wrap ((x1 : Int) + 1) = (x1 : Int) + 1 := by rw [IntKind.wrap_i64]; omega
        have p2 : IntKind.i64.wrap ((x2 : Int) + 1) = (x2 : Int) + 1 := by rw [IntKind.wrap_i64]; omega
        have p3 : (x1 : Int) + 1 ≤ 16 := by omega
        have p4 : (x2 : Int) + 1 ≤ 16 := by omega
        have a1 : (0 : Int) ≤ (x1 : Int) + 1 := by omega
        have a2 : (0 : Int) ≤ (x2 : Int) + 1 := by omega
        have a3 : (x1 : Int) + 1 ≤ ((ByteArray.mk #[97, 98, 99, 100, 101, 102, 103, 104, 105, 106, 107, 108, 109, 110, 111, 112]).size : Int) := by show (x1 : Int) + 1 ≤ ((16 : Nat) : Int); omega
        have a4 : (x2 : Int) + 1 ≤ ((ByteArray.mk #[97, 98, 99, 100, 101, 102, 103, 104, 105, 106, 107, 108, 109, 110, 111, 112]).size : Int) := by show (x2 : Int) + 1 ≤ ((16 : Nat) : Int); omega
        have a5 : (ByteArray.mk #[97, 98, 99, 100, 101, 102, 103, 104, 105, 106, 107, 108, 109, 110, 111, 112]).size = 16 := rfl
        have a6 : (x1 : Int) ≤ (x1 : Int) + 1 := by omega
        have a7 : (x2 : Int) ≤ (x2 : Int) + 1 := by omega
        have p5 : x1 + 1 ≤ 16 := by omega
        have p6 : x2 + 1 ≤ 16 := by omega
        have t1 := str_tb hb1
        have t2 := str_tb hb2
        go_wp2
        go_region_held3 (fun w' => w'.cell? ⟨wr.heap.size, 0, none⟩ = some (.int .i64 x1) ∧ w'.cell? ⟨wr.heap.size, 1, none⟩ = some (.int .i64 x2)) (go_keep)
          (first
            | (go_at_call 30; refine (addT_any r b L D ((x1 : Int), (x2 : Int)) ⟨Hf1.out, Hf2.out⟩ (by have := HLl.out; omega) w6.drew Hr6.out).mono ?_; rintro e w7 ⟨L7, D7, rfl, h7⟩
               have n0 : w7.cell? ⟨wr.heap.size, 0, none⟩ = some (.int .i64 (x1 : Int)) := h7.out.2.2.cell m0 (fun e => Hbne.out (Option.some.inj e).symm)
               have n1 : w7.cell? ⟨wr.heap.size, 1, none⟩ = some (.int .i64 (x2 : Int)) := h7.out.2.2.cell m1 (fun e => Hbne.out (Option.some.inj e).symm)))
        all_goals (
          try clear hHeld
          have HT7 : Hid (Tx1 w r b L7 D7 (l.take (k + 1)) (.slice (some ⟨g6, 0, none⟩) (k + 1) cap6) w7) := by
            refine ⟨h7.out.1, fun q => ?_, ?_, Hb6.out.grown h7.out.2.2 Hb6.out.size (fun j e => by cases e; exact Hrb.out.2)⟩
            · rw [h7.out.2.1 q, HR.out.mem q, Htk.out, List.mem_append, List.mem_singleton]
            · rw [Htl1.out, Htk.out, flat_snoc]
              obtain ⟨o, ho, hc⟩ := relT_obj Hr6.out
              exact row_keep (W := w6.drew) hown6 h7.out.2.2 (fun j e => by cases e; exact row_no (W := w6.drew) hown6 ho hc)
          clear m0 m1 n0 n1
          go_wp2
          go_roundw
          case rel => exact ⟨k + 1, L7, D7, by go_num, by omega, HT7.out⟩
          case measure => simp [intOf]; omega)
      · have hkn : n = k := by omega
        have HT : Hid (Tx1 w r b L D l u5 wr) := by
          have h1 := HR.out
          rw [← hkn, ← Hn.out, List.take_length] at h1
          exact h1
        clear HR
        have hrow := HT.out.row
        rw [Hn.out] at hrow
        obtain ⟨a5, c5, rfl, hsn, hsl5⟩ := row_slP hrow
        have Hsl5 := Lib.hid hsl5
        have Hsn := Lib.hid hsn
        have Hr := Lib.hid HT.out.rel
        have Hb : Hid (Below w.heap.size w wr) := HT.out.below
        have HLs : Hid (∀ q, q ∈ L ↔ q ∈ sm l) := HT.out.mem
        have HLl : Hid (L.length ≤ 60) := by
          have h2 := nodup_len HT.out.rel.prs.once (fun p hp => (HT.out.mem p).1 hp)
          rw [hsn] at h2
          show _ ≤ _
          omega
        obtain ⟨M, hM⟩ : ∃ M, putAll (sm l) = M := ⟨_, rfl⟩
        obtain ⟨m, hm⟩ : ∃ m, M.length = m := ⟨_, rfl⟩
        have Hmade : Hid (∀ W, SlP W a5 (sm l) → Calls Try.prog 21 #[.slice a5 n c5] W fun e w' => ∃ r b L D a' c', e = .returned (.tuple #[.pointer (some ⟨r, 0, none⟩), .slice a' m c']) ∧ Hid (SlP w' a' M ∧ Below W.heap.size W w')) := fun W hW => by
          have h1 := made_any a5 c5 (sm l) (by rw [hsn]; exact h60) (sm_fit l) W hW
          rw [hsn, hM, hm] at h1
          refine h1.mono ?_
          rintro e w' ⟨r', b', L', D', a', c', e1, h2⟩
          exact ⟨r', b', L', D', a', c', e1, h2.out.2.2.1, h2.out.2.2.2.1⟩
        have HMr : Hid (RiseP M) := by show RiseP M; rw [← hM]; exact rise_putAll _
        have HLM : Hid (∀ q, q ∈ L ↔ q ∈ M) := fun q => by rw [← hM, mem_putAll, HLs.out q]
        have HLm : Hid (L.length = m) := by show _ = _; rw [← hm]; exact same_lenT Hr.out.prs.once (rise_nodup HMr.out) HLM.out
        have hm60 : m ≤ 60 := by have := HLm.out; have := HLl.out; omega
        have Hm := Lib.hid hm
        have Hclo : Hid (∀ a2 c2 W, SlP W a2 M → Calls Try.prog 25 #[.slice a2 m c2] W fun e w' => ∃ a' c' n' out, e = .returned (.slice a' n' c') ∧ Hid (out.length = n' ∧ RiseP out ∧ (∀ p, p ∈ out ↔ TC M p.1 p.2) ∧ SlP w' a' out ∧ Below W.heap.size W w')) := fun a2 c2 W hW => by
          have h1 := closure9_any a2 c2 M (by rw [Hm.out]; omega) HMr.out W hW
          rw [Hm.out] at h1
          exact h1
        have Hcir : Hid (∀ a2 c2 W, SlP W a2 M → Calls Try.prog 27 #[.slice a2 m c2] W fun e w' => ∃ b, e = .returned (.bool b) ∧ Hid ((b = true ↔ ∃ z, TC M z z) ∧ Below W.heap.size W w')) := fun a2 c2 W hW => by
          have h1 := circle9_any a2 c2 M (by rw [Hm.out]; omega) HMr.out W hW
          rw [Hm.out] at h1
          exact h1
        subst hkn
        clear hrow hsn hsl5 hlt hk HT hM hm
        go_wp2_with (first
          | (go_at_call 21; refine (Hmade.out wr Hsl5.out).mono ?_; rintro e w2 ⟨r0, b0, L0, D0, a2, c2, rfl, h2⟩
             have Hr2 := Lib.hid (Hr.out.below h2.out.2)
             have Hs2 := Lib.hid h2.out.1
             have Hb2' : Hid (Below w.heap.size w w2) := Hb.out.trans (h2.out.2.mono Hb.out.size)
             clear h2)
          | (go_at_call 31; with_reducible refine (closureT_any r b L D (by have := HLl.out; omega) (tc_bound (by have := HLl.out; omega)) w2 Hr2.out).mono ?_; rintro e w3 ⟨r3, b3, N, DN, rfl, h3⟩
             have Hr3 := Lib.hid (Hr2.out.below h3.out.2.2.1)
             have Hs3 := Lib.hid (Hs2.out.below h3.out.2.2.1)
             have Hc3 := Lib.hid h3.out.1
             have Hb3 : Hid (Below w.heap.size w w3) := Hb2'.out.trans (h3.out.2.2.1.mono Hb2'.out.size)
             have HNm : Hid (∀ p, p ∈ N ↔ TC L p.1 p.2) := h3.out.2.1
             have HNn : Hid (N.length ≤ 10000) := tc_bound (by have := HLl.out; omega) N h3.out.1.prs.once (fun p hp => (h3.out.2.1 p).1 hp)
             clear h3)
          | (go_at_call 25; with_reducible refine (Hclo.out a2 c2 w3 Hs3.out).mono ?_; rintro e w4 ⟨a4, c4, n4, out4, rfl, h4⟩
             have Hr4 := Lib.hid (Hr3.out.below h4.out.2.2.2.2)
             have Hs4 := Lib.hid (Hs3.out.below h4.out.2.2.2.2)
             have Hc4 := Lib.hid (Hc3.out.below h4.out.2.2.2.2)
             have Ho4 := Lib.hid h4.out.2.2.2.1
             have Hb4 : Hid (Below w.heap.size w w4) := Hb3.out.trans (h4.out.2.2.2.2.mono Hb3.out.size)
             have HNo : Hid (∀ p, p ∈ N ↔ p ∈ out4) := fun p => by rw [HNm.out p, h4.out.2.2.1 p]; exact tc_same HLM.out
             have HNl : Hid (N.length = n4) := by show _ = _; rw [← h4.out.1]; exact same_lenT Hc3.out.prs.once (rise_nodup h4.out.2.1) HNo.out
             have Hor : Hid (RiseP out4 ∧ out4.length = n4) := ⟨h4.out.2.1, h4.out.1⟩
             clear h4)
          | (go_at_call 32; with_reducible refine (lenT_any r b L D w4 Hr4.out).mono ?_; rw [HLm.out]; rintro e w5 ⟨rfl, rfl⟩)
          | (go_at_call 32; with_reducible refine (lenT_any r3 b3 N DN w4 Hc4.out).mono ?_; rw [HNl.out]; rintro e w5 ⟨rfl, rfl⟩)
          | (go_at_call 33; with_reducible refine (pairs_anyT r3 b3 N DN (by have := HNn.out; omega) w4 Hc4.out).mono ?_; rintro e w6 ⟨v6, lp, rfl, h6⟩
             have hlp : lp = out4 := rise_ext h6.out.1 Hor.out.1 (fun q => (h6.out.2.1 q).trans (HNo.out q))
             subst hlp
             have hrow6 := h6.out.2.2.2.1
             rw [Hor.out.2] at hrow6
             obtain ⟨a6, c6, rfl⟩ : ∃ a6 c6, v6 = .slice a6 n4 c6 := by
               rcases hrow6.2 with ⟨e, h0⟩ | ⟨g, cap, cur, e, _⟩
               · exact ⟨none, 0, by rw [e, h0]⟩
               · exact ⟨_, _, e⟩
             have Hrow6 := Lib.hid hrow6
             have Hr6 := Lib.hid (Hr4.out.below h6.out.2.2.2.2)
             have Hs6 := Lib.hid (Hs4.out.below h6.out.2.2.2.2)
             have Ho6 := Lib.hid (Ho4.out.below h6.out.2.2.2.2)
             have Hb6 : Hid (Below w.heap.size w w6) := Hb4.out.trans (h6.out.2.2.2.2.mono Hb4.out.size)
             have Hfit : Hid (∀ p ∈ lp, FitQ p) := fun p hp => Hc4.out.prs.dom.fit p ((HNo.out p).2 hp)
             have hn4 : n4 ≤ 10000 := by have := HNl.out; have := HNn.out; omega
             clear h6 hrow6)
          | go_in)
        try go_frame
        go_loopw [13] (fun i wr => ∃ j : Nat, i = .int .i64 j ∧ j ≤ n4 ∧ Hid (Below w6.heap.size w6 wr)) (fun i _ => n4 - (intOf i).toNat)
        case atStart => exact ⟨0, rfl, Nat.zero_le _, Below.refl _ _⟩
        case round =>
          obtain ⟨j, rfl, hj, HJ⟩ := hrel
          by_cases hjn : j < n4
          · have hjl : j < lp.length := by rw [Hor.out.2]; exact hjn
            have hrw := ownsRow_below Hrow6.out HJ.out
            obtain ⟨g, rfl⟩ := row_addr hrw (by omega)
            obtain ⟨p0, p1⟩ := flatT_cells hrw Hor.out.2 hjn
            obtain ⟨b7, o7, rfl, d0, d1⟩ := (Ho6.out.below HJ.out).at hjl
            have hmem : lp.getD j (0, 0) ∈ lp := by
              rw [List.getD_eq_getElem?_getD, List.getElem?_eq_getElem hjl]
              exact List.getElem_mem hjl
            have hfq := Hfit.out _ hmem
            obtain ⟨q, hq⟩ : ∃ q, lp.getD j (0, 0) = q := ⟨_, rfl⟩
            obtain ⟨q1, q2⟩ := q
            rw [hq] at p0 p1 d0 d1 hfq
            obtain ⟨⟨f1, f2⟩, ⟨f3, f4⟩⟩ := hfq
            simp only at p0 p1 d0 d1 f1 f2 f3 f4
            obtain ⟨x1, rfl⟩ : ∃ x : Nat, q1 = (x : Int) := ⟨q1.toNat, by omega⟩
            obtain ⟨x2, rfl⟩ : ∃ x : Nat, q2 = (x : Int) := ⟨q2.toNat, by omega⟩
            have hb1 : x1 < 16 := by omega
            have hb2 : x2 < 16 := by omega
            have t1 := str_tb hb1
            have t2 := str_tb hb2
            have p3 : IntKind.i64.wrap ((x1 : Int) + 1) = (x1 : Int) + 1 := by rw [IntKind.wrap_i64]; omega
            have p4 : IntKind.i64.wrap ((x2 : Int) + 1) = (x2 : Int) + 1 := by rw [IntKind.wrap_i64]; omega
            have p5 : (x1 : Int) + 1 ≤ 16 := by omega
            have p6 : (x2 : Int) + 1 ≤ 16 := by omega
            have a1 : (0 : Int) ≤ (x1 : Int) + 1 := by omega
            have a2 : (0 : Int) ≤ (x2 : Int) + 1 := by omega
            have a3 : (x1 : Int) + 1 ≤ ((ByteArray.mk #[97, 98, 99, 100, 101, 102, 103, 104, 105, 106, 107, 108, 109, 110, 111, 112]).size : Int) := by show (x1 : Int) + 1 ≤ ((16 : Nat) : Int); omega
            have a4 : (x2 : Int) + 1 ≤ ((ByteArray.mk #[97, 98, 99, 100, 101, 102, 103, 104, 105, 106, 107, 108, 109, 110, 111, 112]).size : Int) := by show (x2 : Int) + 1 ≤ ((16 : Nat) : Int); omega
            have a5 : (ByteArray.mk #[97, 98, 99, 100, 101, 102, 103, 104, 105, 106, 107, 108, 109, 110, 111, 112]).size = 16 := rfl
            have a6 : (x1 : Int) ≤ (x1 : Int) + 1 := by omega
            have a7 : (x2 : Int) ≤ (x2 : Int) + 1 := by omega
            have p7 : x1 + 1 ≤ 16 := by omega
            have p8 : x2 + 1 ≤ 16 := by omega
            clear hq hmem hjl hrw f1 f2 f3 f4
            go_wp2
            go_region_held3 (fun w' => w'.cell? ⟨g, j * 2, none⟩ = some (tv (x1 : Int)) ∧ w'.cell? ⟨g, j * 2 + 1, none⟩ = some (tv (x2 : Int)) ∧ w'.cell? ⟨b7, o7 + j * 2, none⟩ = some (.int .i64 (x1 : Int)) ∧ w'.cell? ⟨b7, o7 + j * 2 + 1, none⟩ = some (.int .i64 (x2 : Int))) (go_keep) (fail)
            all_goals (
              try clear hHeld
              clear p0 p1 d0 d1 t1 t2
              go_wp2
              go_roundw
              case rel => exact ⟨j + 1, by go_num, by omega, HJ.out.drew⟩
              case measure => simp [intOf]; omega)
          · have hjn' : n4 = j := by omega
            subst hjn'
            have Hr7 := Lib.hid (Hr6.out.below HJ.out)
            have Hs7 := Lib.hid (Hs6.out.below HJ.out)
            have Hb7 : Hid (Below w.heap.size w wr) := Hb6.out.trans (HJ.out.mono Hb6.out.size)
            clear hj hjn
            go_wp2_with (first
              | (go_at_call 34; with_reducible refine (circleT_any r b L D (by have := HLl.out; omega) wr Hr7.out).mono ?_; rintro e w8 ⟨b8, rfl, h8⟩
                 have Hs8 := Lib.hid (Hs7.out.below h8.out.2)
                 have Hb8 : Hid (Below w.heap.size w w8) := Hb7.out.trans (h8.out.2.mono Hb7.out.size)
                 have Hbit8 : Hid (b8 = true ↔ ∃ z, TC L z z) := h8.out.1
                 clear h8)
              | (go_at_call 27; with_reducible refine (Hcir.out a2 c2 w8 Hs8.out).mono ?_; rintro e w9 ⟨b9, rfl, h9⟩
                 have hbb : b9 = b8 := by
                   have e1 := h9.out.1
                   have e2 := Hbit8.out
                   have e3 : (∃ z, TC M z z) ↔ ∃ z, TC L z z := ⟨fun ⟨z, hz⟩ => ⟨z, (tc_same HLM.out).2 hz⟩, fun ⟨z, hz⟩ => ⟨z, (tc_same HLM.out).1 hz⟩⟩
                   exact Bool.eq_iff_iff.2 (e1.trans (e3.trans e2.symm))
                 subst hbb
                 have Hb9 : Hid (Below w.heap.size w w9) := Hb8.out.trans (h9.out.2.mono Hb8.out.size)
                 clear h9)
              | go_in)
            go_ret
            exact ⟨by first | rfl | (cases b9 <;> rfl), Hb9.out⟩
  · have hN : decide ((60 : Int) < (n : Int)) = true := by simp; omega
    clear h60
    go_enter Try.func5, Try.ntmps5
    go_wp2_with (first
      | (go_at_call 9; refine hfst.out.mono ?_; rintro e w1 ⟨rfl, h1⟩)
      | go_in)
    go_ret
    exact ⟨rfl, h1.out⟩
end Go.Proofs.Ytadlgkakjaecdaa
