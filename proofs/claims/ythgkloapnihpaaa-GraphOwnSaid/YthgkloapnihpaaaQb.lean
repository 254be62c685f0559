/- GraphPlays: the walk. -/
import Derived.Test.YthgkloapnihpaaaQa
import Derived.StillTailTactics
namespace Go.Proofs.Ythgkloapnihpaaa
open Go.RowKit Go.Maps Go.WideMaps Go.WideElems Go.ChangeShapes Go.WideShapes

section
variable {V W : World} {b g c : Nat} {N : List Int} {E : List Ed} {M : List Int} {D : List Ed} {a : Option Addr} {k : Nat} {a' : Option Addr} {k' : Nat}
/-- A writer of the program's graph leaves what was made just ahead of it. -/
theorem Twin.edgeB {W5 : World} (h : Twin V b g c N E M D a k a' k' W) (h5 : Below W.heap.size W W5) (x y z : Int) (hx : fit64 x) (hy : fit64 y) (hzf : fit64 z) (hc : c ≤ 100000) (hE : E.length ≤ 100000) :
    Calls Try.prog 12 #[.pointer (some ⟨g, 0, none⟩), iv x, iv y, iv z] W5 fun e w' => e = .returned (.bool (decide ((x, y, z) ∉ E))) ∧ Hid (Twin V b g (c + 3) (putI (putI N x) y) (putE E (x, y, z)) M D a k a' k' w' ∧ ∀ q, W.heap.size ≤ q → q < W5.heap.size → w'.heap[q]? = W5.heap[q]?) := by
  obtain ⟨Z, B, hB, hg, hz, ha, he⟩ := h.gr
  have h6 := h.below h5
  refine (edge_any x y z hx hy hzf hc hE W5 (Nat.le_trans hB h5.size) (hg.below h5)).mono ?_
  rintro e w' ⟨rfl, K⟩
  refine ⟨rfl, h6.grow (Nat.le_trans hB h5.size) (fun q hq => ⟨(hz q hq).1, Nat.lt_of_lt_of_le (hz q hq).2.1 h5.size, (hz q hq).2.2⟩) ha he K.out.1 K.out.2, fun q h1 h2 => K.out.2.block q h2 fun hq => ?_⟩
  have := (hz q hq).2.1
  omega
theorem Twin.grAt (h : Twin V b g c N E M D a k a' k' W) : Gr g c N E W := by
  obtain ⟨Z, B, -, hg, -⟩ := h.gr
  exact ⟨Z, B, hg⟩
theorem Gr.has (h : Gr g c N E W) (x y z : Int) (ha : fit64 x) (hb : fit64 y) (hE : E.length ≤ 100000) : Calls Try.prog 11 #[.pointer (some ⟨g, 0, none⟩), iv x, iv y, iv z] W fun e w' => e = .returned (.bool (decide ((x, y, z) ∈ E))) ∧ Hid (Below W.heap.size W w') := by
  obtain ⟨Z, B, h⟩ := h
  exact has_any x y z ha hb hE W h
end
theorem IntsO.slw {W : World} {B n c : Nat} {p : Option Addr} {zs : List Int} (h : IntsO W B (.slice p n c) zs) : SlI W p zs := by
  obtain ⟨p', c', e, hs⟩ := h.sl
  simp only [Value.slice.injEq] at e
  obtain ⟨rfl, rfl, rfl⟩ := e
  exact hs
set_option maxHeartbeats 32000000 in
set_option maxRecDepth 100000 in
theorem plays_few (ea : Option Addr) (ce : Nat) (es : List Ed) (na : Option Addr) (cn : Nat) (ns : List Int) (A B C : Int) (hA : fit64 A) (hB : fit64 B) (hes : es.length ≤ 40) (hns : ns.length ≤ 40) (hef : ∀ e ∈ es, fit64 e.1 ∧ fit64 e.2.1 ∧ fit64 e.2.2) (hnf : ∀ x ∈ ns, fit64 x) (w : World) (hE : SlE w ea es) (hN : SlI w na ns) :
    Calls Try.prog 3 #[.slice ea es.length ce, .slice na ns.length cn, iv A, iv B, iv C] w fun e w' => e = .returned (.bool true) ∧ Hid (Below w.heap.size w w') := by
  have HF := Lib.hid (first_any w)
  have HE0 := Lib.hid hE
  have HN0 := Lib.hid hN
  have Hef := Lib.hid hef
  have Hnf := Lib.hid hnf
  have HfA := Lib.hid hA
  have HfB := Lib.hid hB
  obtain ⟨n, hn⟩ : ∃ n, es.length = n := ⟨_, rfl⟩
  obtain ⟨m, hm⟩ : ∃ m, ns.length = m := ⟨_, rfl⟩
  have Hn := Lib.hid hn
  have Hm := Lib.hid hm
  rw [hn, hm]
  have hn1 : n ≤ 40 := by omega
  have hm1 : m ≤ 40 := by omega
  have hg1 : ¬ (40 : Int) < (n : Int) := by omega
  have hg2 : ¬ (40 : Int) < (m : Int) := by omega
  clear hE hN hef hnf hes hns hn hm hA hB
  go_enter Try.func3, Try.ntmps3
  go_wp2_with (first
    | (go_at_call 8; (with_reducible refine HF.out.mono ?_); rintro e w0 ⟨rfl, K0⟩
       have HNew := Lib.hid (new_any w0))
    | (go_at_call 9; (with_reducible refine HNew.out.mono ?_); rintro e w1 ⟨g, rfl, K1⟩
       obtain ⟨W2, hW2, Hb2, hs2, Hx2⟩ := two_any w1 (.slice none 0 0) (.slice none 0 0) 29)
    | go_in)
  have H0 : Hid (Twin w0 w1.heap.size g 0 [] [] [] [] none 0 none 0 W2) := by
    obtain ⟨h1, h2, h3⟩ := K1.out
    have hgl : g < w1.heap.size := by
      obtain ⟨ob, DO, F, DI, f, hG, -⟩ := h1
      exact (Array.getElem?_eq_some_iff.1 hG.box).1
    refine ⟨⟨_, _, Nat.le_trans h2.size Hb2.out.size, h1.below Hb2.out, fun q hq => ⟨hq.1, Nat.lt_of_lt_of_le hq.2 Hb2.out.size, by omega⟩, fun _ _ e => (nomatch e), fun _ _ e => (nomatch e)⟩, ⟨.inl rfl, .inl rfl, fun _ => rfl, fun _ => rfl⟩, fun _ _ e => (nomatch e), fun _ _ e => (nomatch e), Hx2.out, h2.size, by omega, h3, h2.trans (Hb2.out.mono h2.size)⟩
  have HE : Hid (SlE w0 ea es) := HE0.out.gro K0.out (Nat.le_refl _)
  have HN : Hid (SlI w0 na ns) := HN0.out.gro K0.out (Nat.le_refl _)
  try go_frame
  go_loopw [14, 15, 16] (fun i _ _ wr => ∃ (q : Nat) (a : Option Addr) (k : Nat) (a' : Option Addr) (k' : Nat), q ≤ n ∧ i = .int .i64 ((q : Nat) : Int) ∧ Hid (Twin w0 w1.heap.size g (3 * q) (nodesUp (es.take q)) (edgesUp (es.take q)) (nodesUp (es.take q)) (edgesUp (es.take q)) a k a' k' wr)) (fun i _ _ _ => n - (intOf i).toNat)
  case atStart => exact ⟨0, none, 0, none, 0, Nat.zero_le _, rfl, H0.out⟩
  case round =>
    obtain ⟨q, a, k, a', k', hq, rfl, HT⟩ := hrel
    obtain ⟨wa, hwa⟩ : ∃ wa, wa = wr := ⟨_, rfl⟩
    subst hwa
    by_cases hlt : q < n
    · have hqo : q < es.length := by rw [Hn.out]; exact hlt
      obtain ⟨p3, off3, rfl, hc0, hc1, hc2⟩ := (HE.out.below HT.out.gro).at hqo
      have hfx := Hef.out _ (getD_in (d := e0) hqo)
      have hnx := nodesUp_next hqo
      have hex := edgesUp_next hqo
      generalize es.getD q e0 = p at *
      obtain ⟨x, y, z⟩ := p
      obtain ⟨hfa, hfb, hfz⟩ := hfx
      have hl1 : (nodesUp (es.take q)).length ≤ 2 * q := Nat.le_trans (nodesUp_len _) (by rw [List.length_take]; omega)
      have hl2 : (edgesUp (es.take q)).length ≤ q := Nat.le_trans (edgesUp_len _) (by rw [List.length_take]; omega)
      have HR := Lib.hid (edgesUp_rise (es.take q))
      have Hnx := Lib.hid hnx
      have Hex := Lib.hid hex
      have Hlt := Lib.hid hlt
      have Hfa := Lib.hid hfa
      have Hfb := Lib.hid hfb
      have Hfz := Lib.hid hfz
      generalize nodesUp (es.take q) = N at *
      generalize edgesUp (es.take q) = E at *
      have Hl1 := Lib.hid hl1
      have Hl2 := Lib.hid hl2
      have hlI : (q : Int) < (n : Int) := by omega
      obtain ⟨W5, hW5, Hb5, hs5, Hx5⟩ := obj_any wa (.cells #[iv x, iv y, iv z] 31)
      have HT5 := Lib.hid (HT.out.below Hb5.out)
      obtain ⟨b0, b1⟩ := two_at HT5.out.box
      have HX : Hid (∀ W : World, W.heap[wa.heap.size]? = W5.heap[wa.heap.size]? → W.cell? ⟨wa.heap.size, 0, none⟩ = some (iv x) ∧ W.cell? ⟨wa.heap.size, 1, none⟩ = some (iv y) ∧ W.cell? ⟨wa.heap.size, 2, none⟩ = some (iv z)) := fun W hW => by
        have h1 := hW.trans Hx5.out
        exact ⟨cell_of_row _ _ 0 _ _ _ h1, cell_of_row _ _ 1 _ _ _ h1, cell_of_row _ _ 2 _ _ _ h1⟩
      obtain ⟨u0, u1, u2⟩ := HX.out W5 rfl
      have HDh := Lib.hid (dhas_any a a' N.length k k' E x y z (by omega) W5 HT5.out.dg.edges)
      clear hnx hex hfa hfb hfz hl1 hl2 hqo
      by_cases hin : (x, y, z) ∈ E
      · have Hin1 : Hid (decide ((x, y, z) ∈ E) = true) := decide_eq_true hin
        have Hin2 : Hid (decide ((x, y, z) ∉ E) = false) := decide_eq_false (fun h => h hin)
        rw [Hin1.out] at HDh
        clear hin
        go_wp2_with (first
          | (go_at_call 10; (with_reducible refine HDh.out.mono ?_); rintro e w6 ⟨rfl, K6⟩
             have HT6 := Lib.hid (HT5.out.below K6.out)
             obtain ⟨v0, v1, v2⟩ := HX.out w6 (K6.out.block _ hs5.out)
             have HHs := Lib.hid (HT6.out.grAt.has x y z Hfa.out Hfb.out (by have := Hl2.out; omega))
             rw [Hin1.out] at HHs)
          | (go_at_call 11; (with_reducible refine HHs.out.mono ?_); rintro e w7 ⟨rfl, K7⟩
             have Hb7 : Hid (Below wa.heap.size wa w7) := Hb5.out.trans ((K6.out.trans (K7.out.mono K6.out.size)).mono Hb5.out.size)
             have h75 := (K7.out.block _ (Nat.lt_of_lt_of_le hs5.out K6.out.size)).trans (K6.out.block _ hs5.out)
             have H75 := Lib.hid h75
             obtain ⟨t0, t1, t2⟩ := HX.out w7 h75
             have HEd := Lib.hid (HT.out.edgeB Hb7.out x y z Hfa.out Hfb.out Hfz.out (by omega) (by have := Hl2.out; omega))
             rw [Hin2.out] at HEd
             clear h75)
          | (go_at_call 12; (with_reducible refine HEd.out.mono ?_); rintro e w2 ⟨rfl, K2⟩
             have h27 := (K2.out.2 wa.heap.size (Nat.le_refl _) (Nat.lt_of_lt_of_le hs5.out (Nat.le_trans K6.out.size K7.out.size))).trans H75.out
             obtain ⟨s0, s1, s2⟩ := HX.out w2 h27
             obtain ⟨r0, r1⟩ := two_at K2.out.1.box
             have HDe := Lib.hid (dedge_any a a' k k' N E x y z HR.out (by have := Hl1.out; omega) (by have := Hl2.out; omega) w2 K2.out.1.dg)
             clear h27)
          | (go_at_call 13; (with_reducible refine HDe.out.mono ?_); rintro e w3 ⟨a2, k2, a3, k3, rfl, K3⟩
             obtain ⟨KD, KB, KN, KE⟩ := K3.out
             have hX3 := (KB.block _ (Array.getElem?_eq_some_iff.1 K2.out.1.box).1).trans K2.out.1.box
             have fz0 := two_thaw (j := 0) hX3
             obtain ⟨o0, o1⟩ := two_at hX3
             obtain ⟨W4, hW4⟩ : ∃ W, w3.setCell ⟨w1.heap.size, 0, none⟩ (.slice a2 (putI (putI N x) y).length k2) = W := ⟨_, rfl⟩
             have hX4 : W4.heap[w1.heap.size]? = some (.cells #[.slice a2 (putI (putI N x) y).length k2, .slice a' E.length k'] 29) := by rw [← hW4]; exact set_first _ hX3
             have fz1 := two_thaw (j := 1) hX4
             obtain ⟨o2, o3⟩ := two_at hX4
             have HT4 := Lib.hid (K2.out.1.put (k2 := k2) (k3 := k3) KB KD KN KE)
             rw [hW4] at HT4
             clear hX3 hX4 KD KB KN KE)
          | go_in)
        go_roundw
        case rel => exact ⟨q + 1, a2, k2, a3, k3, Hlt.out, by go_num, by rw [Hnx.out, Hex.out]; exact HT4.out⟩
        case measure => simp [intOf]; omega
      · have Hin1 : Hid (decide ((x, y, z) ∈ E) = false) := decide_eq_false hin
        have Hin2 : Hid (decide ((x, y, z) ∉ E) = true) := decide_eq_true hin
        rw [Hin1.out] at HDh
        clear hin
        go_wp2_with (first
          | (go_at_call 10; (with_reducible refine HDh.out.mono ?_); rintro e w6 ⟨rfl, K6⟩
             have HT6 := Lib.hid (HT5.out.below K6.out)
             obtain ⟨v0, v1, v2⟩ := HX.out w6 (K6.out.block _ hs5.out)
             have HHs := Lib.hid (HT6.out.grAt.has x y z Hfa.out Hfb.out (by have := Hl2.out; omega))
             rw [Hin1.out] at HHs)
          | (go_at_call 11; (with_reducible refine HHs.out.mono ?_); rintro e w7 ⟨rfl, K7⟩
             have Hb7 : Hid (Below wa.heap.size wa w7) := Hb5.out.trans ((K6.out.trans (K7.out.mono K6.out.size)).mono Hb5.out.size)
             have h75 := (K7.out.block _ (Nat.lt_of_lt_of_le hs5.out K6.out.size)).trans (K6.out.block _ hs5.out)
             have H75 := Lib.hid h75
             obtain ⟨t0, t1, t2⟩ := HX.out w7 h75
             have HEd := Lib.hid (HT.out.edgeB Hb7.out x y z Hfa.out Hfb.out Hfz.out (by omega) (by have := Hl2.out; omega))
             rw [Hin2.out] at HEd
             clear h75)
          | (go_at_call 12; (with_reducible refine HEd.out.mono ?_); rintro e w2 ⟨rfl, K2⟩
             have h27 := (K2.out.2 wa.heap.size (Nat.le_refl _) (Nat.lt_of_lt_of_le hs5.out (Nat.le_trans K6.out.size K7.out.size))).trans H75.out
             obtain ⟨s0, s1, s2⟩ := HX.out w2 h27
             obtain ⟨r0, r1⟩ := two_at K2.out.1.box
             have HDe := Lib.hid (dedge_any a a' k k' N E x y z HR.out (by have := Hl1.out; omega) (by have := Hl2.out; omega) w2 K2.out.1.dg)
             clear h27)
          | (go_at_call 13; (with_reducible refine HDe.out.mono ?_); rintro e w3 ⟨a2, k2, a3, k3, rfl, K3⟩
             obtain ⟨KD, KB, KN, KE⟩ := K3.out
             have hX3 := (KB.block _ (Array.getElem?_eq_some_iff.1 K2.out.1.box).1).trans K2.out.1.box
             have fz0 := two_thaw (j := 0) hX3
             obtain ⟨o0, o1⟩ := two_at hX3
             obtain ⟨W4, hW4⟩ : ∃ W, w3.setCell ⟨w1.heap.size, 0, none⟩ (.slice a2 (putI (putI N x) y).length k2) = W := ⟨_, rfl⟩
             have hX4 : W4.heap[w1.heap.size]? = some (.cells #[.slice a2 (putI (putI N x) y).length k2, .slice a' E.length k'] 29) := by rw [← hW4]; exact set_first _ hX3
             have fz1 := two_thaw (j := 1) hX4
             obtain ⟨o2, o3⟩ := two_at hX4
             have HT4 := Lib.hid (K2.out.1.put (k2 := k2) (k3 := k3) KB KD KN KE)
             rw [hW4] at HT4
             clear hX3 hX4 KD KB KN KE)
          | go_in)
        go_roundw
        case rel => exact ⟨q + 1, a2, k2, a3, k3, Hlt.out, by go_num, by rw [Hnx.out, Hex.out]; exact HT4.out⟩
        case measure => simp [intOf]; omega
    · have hqn : n = q := by omega
      subst hqn
      have e1 : nodesUp (es.take n) = nodesOf es (ns.take 0) := by rw [List.take_of_length_le (by rw [Hn.out]; exact Nat.le_refl _)]; rfl
      have e2 : es.take n = es := List.take_of_length_le (by rw [Hn.out]; exact Nat.le_refl _)
      have hd : (edgesUp es).length ≤ 100 := Nat.le_trans (edgesUp_len _) (by have := Hn.out; omega)
      have Hd := Lib.hid hd
      have HT1 : Hid (Twin w0 w1.heap.size g (3 * n + 0) (nodesOf es (ns.take 0)) (edgesUp es) (nodesOf es (ns.take 0)) (edgesUp es) a k a' k' wa) := by
        have h1 := HT.out
        rw [e1, e2] at h1
        exact h1
      clear e1 e2 hd
      go_wp2
      try go_frame
      go_loopw [17, 18] (fun i _ wr => ∃ (j : Nat) (a : Option Addr) (k : Nat) (a' : Option Addr) (k' : Nat), j ≤ m ∧ i = .int .i64 ((j : Nat) : Int) ∧ Hid (Twin w0 w1.heap.size g (3 * n + j) (nodesOf es (ns.take j)) (edgesUp es) (nodesOf es (ns.take j)) (edgesUp es) a k a' k' wr)) (fun i _ _ => m - (intOf i).toNat)
      case atStart => exact ⟨0, a, k, a', k', Nat.zero_le _, rfl, HT1.out⟩
      case round =>
        obtain ⟨j, a, k, a', k', hj, rfl, HU⟩ := hrel
        obtain ⟨wb, hwb⟩ : ∃ wb, wb = wr := ⟨_, rfl⟩
        subst hwb
        by_cases hjt : j < m
        · have hjo : j < ns.length := by rw [Hm.out]; exact hjt
          obtain ⟨p4, off4, rfl, hc4⟩ := (HN.out.gro HU.out.gro (Nat.le_refl _)).at hjo
          have hfx := Hnf.out _ (getD_in (d := 0) hjo)
          have hnx := nodesOf_next (es := es) hjo
          obtain ⟨x, hp⟩ : ∃ x, ns.getD j 0 = x := ⟨_, rfl⟩
          rw [hp] at hc4 hfx hnx
          have hl1 : (nodesOf es (ns.take j)).length ≤ 1000 := Nat.le_trans (nodesOf_len _ _) (by have := Hn.out; rw [List.length_take]; omega)
          have HNj : Hid (∀ W, Below w0.heap.size w0 W → W.cell? ⟨p4, off4 + j, none⟩ = some (iv x)) := fun W hb => (HN.out.gro hb (Nat.le_refl _)).cell1 hjo hp
          have Hnx := Lib.hid hnx
          have Hjt := Lib.hid hjt
          have Hfx := Lib.hid hfx
          obtain ⟨b0, b1⟩ := two_at HU.out.box
          generalize nodesOf es (ns.take j) = N at *
          generalize edgesUp es = E at *
          have Hl1 := Lib.hid hl1
          have hlI : (j : Int) < (m : Int) := by omega
          have HUd := Lib.hid (HU.out.below (Below.refl _ wb).drew)
          have HDn := Lib.hid (dhasnode_any a a' E.length k k' N x (by omega) wb.drew HUd.out.dg.nodes)
          clear hnx hfx hl1 hp hjo
          by_cases hin : x ∈ N
          · have Hin1 : Hid (decide (x ∈ N) = true) := decide_eq_true hin
            have Hin2 : Hid (decide (x ∉ N) = false) := decide_eq_false (fun h => h hin)
            rw [Hin1.out] at HDn
            clear hin
            go_wp2
            go_still_tail 5, (by kernel_rfl)
            change wpList _ _ _ _ _ wb.drew
            generalize wb.drew = wd at *
            go_wp2_with (first
              | (go_at_call 14; (with_reducible refine HDn.out.mono ?_); rintro e w6 ⟨rfl, K6⟩
                 have HU6 := Lib.hid (HUd.out.below K6.out)
                 have t0 := HNj.out w6 HU6.out.gro
                 have HNd := Lib.hid (HU6.out.node x Hfx.out (by unfold maxLen; omega))
                 rw [Hin2.out] at HNd)
              | (go_at_call 15; (with_reducible refine HNd.out.mono ?_); rintro e w2 ⟨rfl, K2⟩
                 have u0 := HNj.out w2 K2.out.gro
                 obtain ⟨r0, r1⟩ := two_at K2.out.box
                 have K4 := Lib.hid (K2.out.below (Below.refl _ w2).drew)
                 have HDe := Lib.hid (dnode_any a a' k k' N E x (by have := Hl1.out; omega) w2.drew K4.out.dg))
              | go_in)
            go_still_tail 5, (by kernel_rfl)
            change wpList _ _ _ _ _ w2.drew
            generalize w2.drew = we at *
            go_wp2_with (first
              | (go_at_call 16; (with_reducible refine HDe.out.mono ?_); rintro e w3 ⟨a2, k2, rfl, K3⟩
                 obtain ⟨KD, KB, KN⟩ := K3.out
                 have hX3 := (KB.block _ (Array.getElem?_eq_some_iff.1 K4.out.box).1).trans K4.out.box
                 have fz0 := two_thaw (j := 0) hX3
                 obtain ⟨v0, v1⟩ := two_at hX3
                 obtain ⟨W4, hW4⟩ : ∃ W, w3.setCell ⟨w1.heap.size, 0, none⟩ (.slice a2 (putI N x).length k2) = W := ⟨_, rfl⟩
                 have hX4 : W4.heap[w1.heap.size]? = some (.cells #[.slice a2 (putI N x).length k2, .slice a' E.length k'] 29) := by rw [← hW4]; exact set_first _ hX3
                 have fz1 := two_thaw (j := 1) hX4
                 obtain ⟨v2, v3⟩ := two_at hX4
                 have HT4 := Lib.hid (K4.out.put (k2 := k2) (k3 := k') KB KD KN (.inl rfl))
                 rw [hW4] at HT4
                 clear hX3 hX4 KD KB KN)
              | go_in)
            go_roundw
            case rel => exact ⟨j + 1, a2, k2, a', k', Hjt.out, by go_num, by rw [Hnx.out]; exact HT4.out⟩
            case measure => simp [intOf]; omega
          · have Hin1 : Hid (decide (x ∈ N) = false) := decide_eq_false hin
            have Hin2 : Hid (decide (x ∉ N) = true) := decide_eq_true hin
            rw [Hin1.out] at HDn
            clear hin
            go_wp2
            go_still_tail 5, (by kernel_rfl)
            change wpList _ _ _ _ _ wb.drew
            generalize wb.drew = wd at *
            go_wp2_with (first
              | (go_at_call 14; (with_reducible refine HDn.out.mono ?_); rintro e w6 ⟨rfl, K6⟩
                 have HU6 := Lib.hid (HUd.out.below K6.out)
                 have t0 := HNj.out w6 HU6.out.gro
                 have HNd := Lib.hid (HU6.out.node x Hfx.out (by unfold maxLen; omega))
                 rw [Hin2.out] at HNd)
              | (go_at_call 15; (with_reducible refine HNd.out.mono ?_); rintro e w2 ⟨rfl, K2⟩
                 have u0 := HNj.out w2 K2.out.gro
                 obtain ⟨r0, r1⟩ := two_at K2.out.box
                 have K4 := Lib.hid (K2.out.below (Below.refl _ w2).drew)
                 have HDe := Lib.hid (dnode_any a a' k k' N E x (by have := Hl1.out; omega) w2.drew K4.out.dg))
              | go_in)
            go_still_tail 5, (by kernel_rfl)
            change wpList _ _ _ _ _ w2.drew
            generalize w2.drew = we at *
            go_wp2_with (first
              | (go_at_call 16; (with_reducible refine HDe.out.mono ?_); rintro e w3 ⟨a2, k2, rfl, K3⟩
                 obtain ⟨KD, KB, KN⟩ := K3.out
                 have hX3 := (KB.block _ (Array.getElem?_eq_some_iff.1 K4.out.box).1).trans K4.out.box
                 have fz0 := two_thaw (j := 0) hX3
                 obtain ⟨v0, v1⟩ := two_at hX3
                 obtain ⟨W4, hW4⟩ : ∃ W, w3.setCell ⟨w1.heap.size, 0, none⟩ (.slice a2 (putI N x).length k2) = W := ⟨_, rfl⟩
                 have hX4 : W4.heap[w1.heap.size]? = some (.cells #[.slice a2 (putI N x).length k2, .slice a' E.length k'] 29) := by rw [← hW4]; exact set_first _ hX3
                 have fz1 := two_thaw (j := 1) hX4
                 obtain ⟨v2, v3⟩ := two_at hX4
                 have HT4 := Lib.hid (K4.out.put (k2 := k2) (k3 := k') KB KD KN (.inl rfl))
                 rw [hW4] at HT4
                 clear hX3 hX4 KD KB KN)
              | go_in)
            go_roundw
            case rel => exact ⟨j + 1, a2, k2, a', k', Hjt.out, by go_num, by rw [Hnx.out]; exact HT4.out⟩
            case measure => simp [intOf]; omega
        · have hjm : m = j := by omega
          subst hjm
          have e1 : ns.take m = ns := List.take_of_length_le (by rw [Hm.out]; exact Nat.le_refl _)
          have HU1 : Hid (Twin w0 w1.heap.size g (3 * n + m) (nodesOf es ns) (edgesUp es) (nodesOf es ns) (edgesUp es) a k a' k' wb) := by
            have h1 := HU.out
            rw [e1] at h1
            exact h1
          have hNl : (nodesOf es ns).length ≤ 500 := Nat.le_trans (nodesOf_len _ _) (by have := Hn.out; have := Hm.out; omega)
          have hNl0 := hNl
          generalize nodesOf es ns = N at *
          generalize edgesUp es = E at *
          obtain ⟨nN, hnN⟩ : ∃ nN, N.length = nN := ⟨_, rfl⟩
          obtain ⟨nE, hnE⟩ : ∃ nE, E.length = nE := ⟨_, rfl⟩
          have HnN := Lib.hid hnN
          have HnE := Lib.hid hnE
          have hE5 : nE ≤ 100 := by rw [← hnE]; exact Hd.out
          have hN5 : nN ≤ 500 := by omega
          have hc : 3 * n + m ≤ 100000 := by omega
          obtain ⟨gc, hgc⟩ : ∃ gc, 3 * n + m = gc := ⟨_, rfl⟩
          have HG : Hid (Gr g gc N E wb) := by rw [← hgc]; exact HU1.out.grAt
          rw [hgc] at hc
          have HDg : Hid (DgAt wb a a' N E) := HU1.out.dg
          have Hw0 : Hid (Below w0.heap.size w0 wb) := HU1.out.gro
          have HBox : Hid (∀ W, Below wb.heap.size wb W → W.cell? ⟨w1.heap.size, 0, none⟩ = some (.slice a nN k) ∧ W.cell? ⟨w1.heap.size, 1, none⟩ = some (.slice a' nE k')) := fun W hb => by
            have h1 := (hb.block _ (Array.getElem?_eq_some_iff.1 HU1.out.box).1).trans HU1.out.box
            rw [HnN.out, HnE.out] at h1
            exact two_at h1
          have Hrise : Hid (RiseE E) := HG.out.facts.2.2.2
          have HNr : Hid (RiseI N) := HG.out.facts.1
          have Hends : Hid (EndsIn N E) := HG.out.facts.2.1
          have HK1 := Lib.hid ((HG.out.below (Below.refl _ wb).drew).kinds A B HfA.out HfB.out (by omega))
          obtain ⟨kl, hkl⟩ : ∃ kl, (kindsE E A B).length = kl := ⟨_, rfl⟩
          have Hkl := Lib.hid hkl
          have hkl5 : kl ≤ 100 := by rw [← hkl]; exact Nat.le_trans (kinds_len _ _ _) (by omega)
          rw [hkl] at HK1
          obtain ⟨b0, b1⟩ := HBox.out wb (Below.refl _ _)
          clear e1 hNl hNl0 hnN hnE hgc hkl HU HU1 HT1 HT H0
          go_wp2
          go_region_held3 (fun w' => w'.cell? ⟨w1.heap.size, 0, none⟩ = some (.slice a nN k) ∧ w'.cell? ⟨w1.heap.size, 1, none⟩ = some (.slice a' nE k')) (first | (with_reducible exact HBox.out _ HB7.out) | (with_reducible exact HBox.out _ HB6.out) | (with_reducible exact HBox.out _ HB5.out) | go_keep)
            (first
              | (go_at_call 18; refine HK1.out.mono ?_; rintro e w5 ⟨p5, c5, rfl, K5⟩
                 have HB5 : Hid (Below wb.heap.size wb w5) := (Below.refl _ wb).drew.trans K5.out.2
                 have HK2 := Lib.hid (dkinds_any a a' k k' nN nE E A B Hrise.out HnE.out (by omega) w5 (HDg.out.edges.gro HB5.out (Nat.le_refl _)))
                 rw [Hkl.out] at HK2)
              | (go_at_call 19; (with_reducible refine HK2.out.mono ?_); rintro e w6 ⟨p6, c6, rfl, K6⟩
                 have HB6 : Hid (Below wb.heap.size wb w6) := HB5.out.trans (K6.out.2.mono HB5.out.size)
                 have HK3 := Lib.hid (same_n p5 p6 c5 c6 kl Hkl.out (by omega) w6 (K5.out.1.gro K6.out.2 (Nat.le_refl _)) K6.out.1))
              | (go_at_call 17; (with_reducible refine HK3.out.mono ?_); rintro e w7 ⟨rfl, K7⟩
                 have HB7 : Hid (Below wb.heap.size wb w7) := HB6.out.trans (K7.out.mono HB6.out.size)))
          have HO1 := Lib.hid ((HG.out.below HB7.out.drew).out hc A HfA.out)
          obtain ⟨ol, hol⟩ : ∃ ol, (outsE N E A).length = ol := ⟨_, rfl⟩
          have Hol := Lib.hid hol
          have hol5 : ol ≤ 500 := by
            have h1 : (outsE N E A).length ≤ N.length := List.length_filter_le _ _
            have := HnN.out
            omega
          rw [hol] at HO1
          obtain ⟨d0, d1⟩ := HBox.out w7 HB7.out
          clear hol HK1 HK2 HK3
          go_wp2
          go_region_held3 (fun w' => w'.cell? ⟨w1.heap.size, 0, none⟩ = some (.slice a nN k) ∧ w'.cell? ⟨w1.heap.size, 1, none⟩ = some (.slice a' nE k')) (first | (with_reducible exact HBox.out _ HB10.out) | (with_reducible exact HBox.out _ HB9.out) | (with_reducible exact HBox.out _ HB8.out) | go_keep)
            (first
              | (go_at_call 20; refine HO1.out.mono ?_; rintro e w8 ⟨p8, c8, rfl, K8⟩
                 have HB8 : Hid (Below wb.heap.size wb w8) := HB7.out.drew.trans (K8.out.2.mono HB7.out.drew.size)
                 have HO2 := Lib.hid (dout_any a a' k k' nN nE N E A HNr.out Hends.out HnE.out (by omega) w8 (HDg.out.edges.gro HB8.out (Nat.le_refl _)))
                 rw [Hol.out] at HO2)
              | (go_at_call 21; (with_reducible refine HO2.out.mono ?_); rintro e w9 ⟨p9, c9, rfl, K9⟩
                 have HB9 : Hid (Below wb.heap.size wb w9) := HB8.out.trans (K9.out.2.mono HB8.out.size)
                 have HO3 := Lib.hid (same_n p8 p9 c8 c9 ol Hol.out (by omega) w9 (K8.out.1.slw.gro K9.out.2 (Nat.le_refl _)) K9.out.1))
              | (go_at_call 17; (with_reducible refine HO3.out.mono ?_); rintro e w10 ⟨rfl, K10⟩
                 have HB10 : Hid (Below wb.heap.size wb w10) := HB9.out.trans (K10.out.mono HB9.out.size)))
          obtain ⟨f0, f1⟩ := HBox.out w10 HB10.out
          have HI1 := Lib.hid (is_any a a' k k' nN nE HnN.out HnE.out hc hN5 (by omega) w10.drew (HG.out.below HB10.out.drew) (HDg.out.below HB10.out.drew))
          clear HO1 HO2 HO3
          go_wp2
          go_region_held3 (fun w' => w'.cell? ⟨w1.heap.size, 0, none⟩ = some (.slice a nN k) ∧ w'.cell? ⟨w1.heap.size, 1, none⟩ = some (.slice a' nE k')) (first | (with_reducible exact HBox.out _ HB13.out) | (with_reducible exact HBox.out _ HB12.out) | (with_reducible exact HBox.out _ HB11.out) | go_keep)
            (first
              | (go_at_call 22; refine HI1.out.mono ?_; rintro e w11 ⟨rfl, K11⟩
                 have HB11 : Hid (Below wb.heap.size wb w11) := HB10.out.drew.trans (K11.out.mono HB10.out.drew.size)
                 have HH1 := Lib.hid ((HG.out.below HB11.out).has A B C HfA.out HfB.out (by have := HnE.out; omega)))
              | (go_at_call 11; (with_reducible refine HH1.out.mono ?_); rintro e w12 ⟨rfl, K12⟩
                 have HB12 : Hid (Below wb.heap.size wb w12) := HB11.out.trans (K12.out.mono HB11.out.size)
                 have HH2 := Lib.hid (dhas_any a a' nN k k' E A B C (by have := HnE.out; omega) w12 (HDg.out.edges.gro HB12.out (Nat.le_refl _)))
                 rw [HnE.out] at HH2)
              | (go_at_call 10; (with_reducible refine HH2.out.mono ?_); rintro e w13 ⟨rfl, K13⟩
                 have HB13 : Hid (Below wb.heap.size wb w13) := HB12.out.trans (K13.out.mono HB12.out.size)))
          go_wp2
          go_ret
          refine ⟨?_, K0.out.trans ((Hw0.out.trans (HB13.out.mono Hw0.out.size)).mono K0.out.size)⟩
          simp
end Go.Proofs.Ythgkloapnihpaaa
