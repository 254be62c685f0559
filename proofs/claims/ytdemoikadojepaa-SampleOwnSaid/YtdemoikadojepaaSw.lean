/- SampleOwn answers true. -/
import Derived.Test.YtdemoikadojepaaSp
import Derived.Test.YtdemoikadojepaaSu
import Derived.Test.YtdemoikadojepaaSv
import Derived.Test.YtdemoikadojepaaSs
namespace Go.Proofs.Ytdemoikadojepaa
open Go.RowKit Go.Maps Go.WideMaps Go.WideElems Go.ChangeShapes Go.WideShapes

/-- Behind W blocks from B on have been written over, cell by cell, but not the three boxes. -/
structure Spo (B x y z : Nat) (W W' : World) : Prop where
  below : Below B W W'
  box : ∀ k, k = x ∨ k = y ∨ k = z → W'.heap[k]? = W.heap[k]?
  shape : ∀ (k : Nat) (cs : Array Value) (t : TypeId), W.heap[k]? = some (.cells cs t) → ∃ cs' : Array Value, W'.heap[k]? = some (.cells cs' t) ∧ cs'.size = cs.size
theorem Spo.refl (B x y z : Nat) (W : World) : Spo B x y z W W := ⟨Below.refl _ _, fun _ _ => rfl, fun _ cs _ h => ⟨cs, h, rfl⟩⟩
theorem Spo.set {B x y z : Nat} {W W' : World} (h : Spo B x y z W W') (g o : Nat) (v : Value) (hB : B ≤ g) (hx : g ≠ x) (hy : g ≠ y) (hz : g ≠ z) : Spo B x y z W (W'.setCell ⟨g, o, none⟩ v) := by
  refine ⟨h.below.setCell (p := ⟨g, o, none⟩) hB v, fun k hk => (Below.heap_setCell W' ⟨g, o, none⟩ v k (fun e => by have e : k = g := e; subst e; rcases hk with h1 | h1 | h1 <;> contradiction)).trans (h.box k hk), fun k cs t hk => ?_⟩
  obtain ⟨cs', h1, h2⟩ := h.shape k cs t hk
  by_cases hg : g = k
  · subst hg
    exact ⟨cs'.setIfInBounds o v, heap_setCell_same W' g o _ _ v h1, by simpa using h2⟩
  · exact ⟨cs', keepS hg h1, h2⟩
theorem Spo.cell {B x y z g o : Nat} {cs : Array Value} {t : TypeId} {W W' : World} (h : Spo B x y z W W') (hg : W.heap[g]? = some (.cells cs t)) (ho : o < cs.size) : (∃ u, W'.cell? ⟨g, o, none⟩ = some u) ∧ W'.frozen? ⟨g, o, none⟩ = false := by
  obtain ⟨cs', h1, h2⟩ := h.shape g cs t hg
  exact ⟨⟨cs'[o]'(by omega), by simp [World.cell?, h1, show o < cs'.size by omega]⟩, frozen_of_row _ _ o _ _ h1⟩
/-- A row of one's own, told by its block. -/
theorem row_block {W : World} {B : Nat} {e : TypeId} {size n : Nat} {v : Value} {xs : List Value} (h : W.ownsRow B e size v n xs) : (n = 0 ∧ ∃ a c, v = .slice a 0 c) ∨ ∃ g c cs, v = .slice (some ⟨g, 0, none⟩) n c ∧ B ≤ g ∧ g < W.heap.size ∧ W.heap[g]? = some (.cells cs e) ∧ n * size ≤ cs.size ∧ n ≤ c ∧ c ≤ maxLen ∧ cs.size = c * size := by
  obtain ⟨hl, ⟨rfl, h0⟩ | ⟨g, cap, cur, rfl, hb, hg, hn, hm, hs, ht⟩⟩ := h
  · subst h0; exact .inl ⟨rfl, _, _, rfl⟩
  · exact .inr ⟨g, cap, cur, rfl, hb, (Array.getElem?_eq_some_iff.1 hg).1, hg, by rw [hs]; exact Nat.mul_le_mul_right _ hn, hn, hm, hs⟩
theorem ne_of_type {W : World} {a b : Nat} {c c' : Array Value} {t t' : TypeId} (h1 : W.heap[a]? = some (.cells c t)) (h2 : W.heap[b]? = some (.cells c' t')) (ht : t ≠ t') : a ≠ b := by
  rintro rfl
  rw [h1] at h2
  cases h2
  exact ht rfl
/-- The row again, behind the loops. -/
theorem Spo.row {B x y z g n c : Nat} {cs : Array Value} {t : TypeId} {W W' : World} (h : Spo B x y z W W') (hg : W.heap[g]? = some (.cells cs t)) (hB : B ≤ g) (hn : n ≤ c) (hc : c ≤ maxLen) (hs : cs.size = c) : ∃ xs, W'.ownsRow B t 1 (.slice (some ⟨g, 0, none⟩) n c) n xs := by
  obtain ⟨cs', h1, h2⟩ := h.shape g cs t hg
  exact ⟨_, by simp; omega, .inr ⟨g, c, cs', rfl, hB, h1, hn, hc, by omega, rfl⟩⟩
theorem mod14 (n : Int) : ∃ m : Nat, m ≤ 13 ∧ (wrap64 (n.tmod 14 + 14)).tmod 14 = (m : Int) := by
  have h1 := Int.tmod_lt_of_pos n (show (0 : Int) < 14 by decide)
  have h2 : -14 < n.tmod 14 := by
    have h3 := Int.neg_tmod n 14
    have h4 := Int.tmod_lt_of_pos (-n) (show (0 : Int) < 14 by decide)
    omega
  have h5 : wrap64 (n.tmod 14 + 14) = n.tmod 14 + 14 := by unfold wrap64; omega
  rw [h5]
  have h6 := Int.tmod_nonneg (a := n.tmod 14 + 14) 14 (by omega)
  have h7 := Int.tmod_lt_of_pos (n.tmod 14 + 14) (show (0 : Int) < 14 by decide)
  exact ⟨((n.tmod 14 + 14).tmod 14).toNat, by omega, by omega⟩
theorem row_pos' {W : World} {B : Nat} {e : TypeId} {size n : Nat} {v : Value} {xs : List Value} (h : W.ownsRow B e size v n xs) (hn : 0 < n) : ∃ g c cs, v = .slice (some ⟨g, 0, none⟩) n c ∧ B ≤ g ∧ W.heap[g]? = some (.cells cs e) ∧ n ≤ c ∧ c ≤ maxLen ∧ cs.size = c * size := by
  rcases row_block h with ⟨h0, _⟩ | ⟨g, c, cs, h1, h2, h3, h4, h5, h6, h7, h8⟩
  · omega
  · exact ⟨g, c, cs, h1, h2, h4, h6, h7, h8⟩
theorem wide_M (m : Nat) (hm : m ≤ 13) : ∃ M, M ≤ 91 ∧ ∀ w, Calls Try.prog 9 #[.int .i64 m] w (GetRes 1 M [1, 0] (wideE m) true w) := ⟨7 * m, by omega, wide_fit m hm⟩
theorem row_at {W : World} {B : Nat} {e : TypeId} {size n g c : Nat} {xs : List Value} (h : W.ownsRow B e size (.slice (some ⟨g, 0, none⟩) n c) n xs) : ∃ cs, B ≤ g ∧ W.heap[g]? = some (.cells cs e) ∧ n ≤ c ∧ c ≤ maxLen ∧ cs.size = c * size := by
  rcases row_block h with ⟨h0, a, c', h1⟩ | ⟨g', c', cs, h1, h2, h3, h4, h5, h6, h7, h8⟩
  · obtain ⟨hl, ⟨h2, _⟩ | ⟨g', cap, cur, h2, hb, hg, hn, hm, hs, ht⟩⟩ := h
    · cases h2
    · cases h2; exact ⟨cur, hb, hg, hn, hm, hs⟩
  · cases h1; exact ⟨cs, h2, h4, h6, h7, h8⟩
theorem wide_row {W : World} {B0 B n c : Nat} {a : Option Addr} {xs : List Value} (h : W.ownsRow B 41 8 (.slice a n c) n xs) (hn : 0 < n) (hB : B0 ≤ B) : ∃ g cs, a = some ⟨g, 0, none⟩ ∧ B0 ≤ g ∧ W.heap[g]? = some (.cells cs 41) ∧ n ≤ c ∧ cs.size = c * 8 := by
  obtain ⟨g, c', cs, h1, h2, h3, h4, h5, h6⟩ := row_pos' h hn
  cases h1
  exact ⟨g, cs, rfl, by omega, h3, h4, h6⟩
theorem row_grown {W W' : World} {B e size n g c : Nat} {xs : List Value} {o : Option Nat} (h : W.ownsRow B e size (.slice (some ⟨g, 0, none⟩) n c) n xs) (hn : 0 < n) (hg : W.grownBy W' o) (hne : o ≠ some g) : W'.ownsRow B e size (.slice (some ⟨g, 0, none⟩) n c) n xs := by
  obtain ⟨hl, ⟨_, h0⟩ | ⟨g', cap, cur, e1, hB, hh, r⟩⟩ := h
  · omega
  · cases e1
    exact ⟨hl, .inr ⟨g, _, cur, rfl, hB, (hg.block g (Array.getElem?_eq_some_iff.1 hh).1 (fun e2 => hne e2.symm)).trans hh, r⟩⟩
theorem elem9 : (Try.prog.info? 9).map (fun i => (i.zero, i.size, i.bytes)) = some (some (.string ⟨#[]⟩), 1, 16) := by kernel_rfl

set_option maxRecDepth 100000 in
set_option maxHeartbeats 16000000 in
theorem own_any (n : Int) (w : World) : Calls Try.prog 5 #[.int .i64 n] w fun e w' => e = .returned (.bool true) ∧ Hid (Below w.heap.size w w') := by
  obtain ⟨i3, hi3, hz30, hz31, hz32⟩ := info_parts elem3
  obtain ⟨i9, hi9, hz90, hz91, hz92⟩ := info_parts elem9
  obtain ⟨m, hm13, hm⟩ := mod14 n
  have Hm := Lib.hid hm
  obtain ⟨M, hM, hWide⟩ := wide_M m hm13
  have HWide := Lib.hid hWide
  clear hm hWide
  go_enter Try.func5, Try.ntmps5
  go_wp2_with (first
    | (go_at_call 6; (with_reducible refine (first_any w).mono ?_); rintro e w1 ⟨rfl, h1⟩))
  rw [Hm.out]
  generalize n.tmod 14 = n14
  generalize wrap64 (n14 + 14) = n15
  clear Hm
  go_loopw [4] (fun i wr => ∃ r : Nat, r ≤ 2 ∧ i = .int .i64 r ∧ Hid (Below w.heap.size w wr)) (fun i _ => 2 - (intOf i).toNat)
  case atStart => exact ⟨0, by omega, rfl, h1.out⟩
  case round =>
    obtain ⟨r, hr, rfl, HR⟩ := hrel
    by_cases hlt : r < 2
    · go_wp2_with (first
        | (go_at_call 15; (with_reducible refine (names_any wr).mono ?_); rintro e w2 ⟨rfl, h2⟩)
        | (go_at_call 7; (with_reducible refine (get_plain w2).mono ?_); rintro e w3 ⟨vo, v, rfl, h3⟩
           obtain ⟨og, oc, -, rfl, -, -, -, -, -⟩ := row_pos' h3.out.1.obj (by decide)
           obtain ⟨eg, ec, -, rfl, -, -, -, -, -⟩ := row_pos' h3.out.1.evs (by decide)
           obtain ⟨X1, hX1, Hb1, hs1, Hx1⟩ := cells_new w3 #[.slice (some ⟨og, 0, none⟩) 4 oc, .slice (some ⟨eg, 0, none⟩) 25 ec] 26)
        | (go_at_call 9; (with_reducible refine (HWide.out X1).mono ?_); rintro e w4 ⟨vo, v, rfl, h4⟩
           obtain ⟨ao, co, rfl, -, -⟩ := row_sl h4.out.1.obj
           obtain ⟨ae, ce, rfl, -, -⟩ := row_sl h4.out.1.evs
           obtain ⟨X2, hX2, Hb2, hs2, Hx2⟩ := cells_new w4 #[.slice ao 1 co, .slice ae M ce] 26)
        | (go_at_call 17; (with_reducible refine (caught_any X2).mono ?_); rintro e w5 ⟨q, u0, u1, v0, v1, vt, vs, rfl, h5⟩
           obtain ⟨tg, tc, -, rfl, -, -, -, -, -⟩ := row_pos' h5.out.1.ts (by decide)
           obtain ⟨sg, sc, -, rfl, -, -, -, -, -⟩ := row_pos' h5.out.2.1 (by decide)
           obtain ⟨W0, hW0, Hb3, hs3, Hx3⟩ := cells_new w5 #[.slice (some ⟨q, 0, none⟩) 2 2, .slice (some ⟨tg, 0, none⟩) 2 tc] 45))
      obtain ⟨B0, hB0⟩ : ∃ B0, wr.heap.size = B0 := ⟨_, rfl⟩
      have D5 : Hid (Below w5.heap.size w5 W0) := Hb3.out
      have DX2 : Hid (Below X2.heap.size X2 W0) := stepB h5.out.2.2 Hb3.out
      have D4 : Hid (Below w4.heap.size w4 W0) := stepB Hb2.out DX2.out
      have DX1 : Hid (Below X1.heap.size X1 W0) := stepB h4.out.2 D4.out
      have D3 : Hid (Below w3.heap.size w3 W0) := stepB Hb1.out DX1.out
      have D2 : Hid (Below w2.heap.size w2 W0) := stepB h3.out.2 D3.out
      have DL : Hid (Below w.heap.size w W0) := stepB (stepB HR.out h2.out.2) D2.out
      have b2 : B0 ≤ w2.heap.size := by rw [← hB0]; exact h2.out.2.size
      have b3 : w2.heap.size ≤ w3.heap.size := h3.out.2.size
      have b4 : w3.heap.size < X1.heap.size := hs1.out
      have b5 : X1.heap.size ≤ w4.heap.size := h4.out.2.size
      have b6 : w4.heap.size < X2.heap.size := hs2.out
      have b7 : X2.heap.size ≤ w5.heap.size := h5.out.2.2.size
      have b8 : w5.heap.size < W0.heap.size := hs3.out
      have F0 : Hid (W0.heap[B0]? = some (.cells namesC 9)) := by
        show _ = _
        rw [← hB0]; exact keepB D2.out h2.out.1
      have Fh : Hid (W0.heap[w3.heap.size]? = some (.cells #[.slice (some ⟨og, 0, none⟩) 4 oc, .slice (some ⟨eg, 0, none⟩) 25 ec] 26)) := keepB DX1.out Hx1.out
      have Fw : Hid (W0.heap[w4.heap.size]? = some (.cells #[.slice ao 1 co, .slice ae M ce] 26)) := keepB DX2.out Hx2.out
      have Fp : Hid (W0.heap[w5.heap.size]? = some (.cells #[.slice (some ⟨q, 0, none⟩) 2 2, .slice (some ⟨tg, 0, none⟩) 2 tc] 45)) := Hx3.out
      obtain ⟨cO, bO, FO, lO, mO, sO⟩ := row_at (row_below h3.out.1.obj D3.out)
      obtain ⟨cE, bE, FE, lE, mE, sE⟩ := row_at (row_below h3.out.1.evs D3.out)
      obtain ⟨cT, bT, FT, lT, mT, sT⟩ := row_at (row_below h5.out.1.ts D5.out)
      obtain ⟨cS, bS, FS, lS, mS, sS⟩ := row_at (row_below h5.out.2.1 D5.out)
      have HWr := Lib.hid (row_below h4.out.1.evs D4.out)
      have FO := Lib.hid FO
      have FE := Lib.hid FE
      have FT := Lib.hid FT
      have FS := Lib.hid FS
      have sO := Lib.hid sO
      have sE := Lib.hid sE
      have sT := Lib.hid sT
      have sS := Lib.hid sS
      have gO : B0 ≤ og := by omega
      have gE : B0 ≤ eg := by omega
      have gT : B0 ≤ tg := by omega
      have gS : B0 ≤ sg := by omega
      have gh : Hid (B0 < w3.heap.size + 1) := show _ < _ by omega
      have HX1 := Lib.hid (show X1.heap.size ≤ X1.heap.size from Nat.le_refl _)
      have bX : Hid (B0 ≤ X1.heap.size) := show _ ≤ _ by omega
      rw [hB0]
      have HwB : Hid (w.heap.size ≤ B0) := by
        show _ ≤ _
        rw [← hB0]; exact HR.out.size
      have HB0s : Hid (B0 ≤ W0.heap.size) := show _ ≤ _ by omega
      have HS : Hid (Spo B0 w3.heap.size w4.heap.size w5.heap.size W0 W0) := Spo.refl _ _ _ _ _
      obtain ⟨hb, hhb⟩ : ∃ hb, w3.heap.size = hb := ⟨_, rfl⟩
      obtain ⟨wb, hwb⟩ : ∃ wb, w4.heap.size = wb := ⟨_, rfl⟩
      obtain ⟨pb, hpb⟩ : ∃ pb, w5.heap.size = pb := ⟨_, rfl⟩
      rw [hhb] at Fh HS ⊢
      rw [hwb] at Fw HS ⊢
      rw [hpb] at Fp HS ⊢
      have HX1s : Hid (B0 ≤ X1.heap.size) := bX.out
      clear hB0 D5 DX2 D4 DX1 D3 D2 b2 b3 b4 b5 b6 b7 b8 hhb hwb hpb h2 h3 h4 h5 Hb1 Hb2 Hb3 hs1 hs2 hs3 Hx1 Hx2 Hx3 bO bE bT bS gh HX1 HR hX1 hX2 hW0 bX
      go_loopw [12] (fun i wx => ∃ k : Nat, k ≤ 4 ∧ i = .int .i64 k ∧ Hid (Spo B0 hb wb pb W0 wx)) (fun i _ => 4 - (intOf i).toNat)
      case atStart => exact ⟨0, by omega, rfl, HS.out⟩
      case round =>
        clear HS
        obtain ⟨k, hk, rfl, HRk⟩ := hrel
        by_cases hlt : k < 4
        · obtain ⟨⟨u, hu⟩, hf⟩ := HRk.out.cell (o := k) F0.out (show k < namesC.size from hlt)
          have HNEW : Hid (Spo B0 hb wb pb W0 (wr.setCell ⟨B0, k, none⟩ (.string ⟨#[115, 112, 111, 105, 108, 116]⟩))) := HRk.out.set B0 (k) _ (Nat.le_refl _) (ne_of_type F0.out Fh.out (by decide)) (ne_of_type F0.out Fw.out (by decide)) (ne_of_type F0.out Fp.out (by decide))
          clear HRk
          go_wp2
          go_roundw
          case rel => exact ⟨k + 1, by omega, by go_num, HNEW.out⟩
          case measure => simp [intOf]; omega
        · have HS := HRk
          clear HRk hk
          go_wp2
          clear hlt
          go_loopw [13] (fun i wx => ∃ k : Nat, k ≤ 25 ∧ i = .int .i64 k ∧ Hid (Spo B0 hb wb pb W0 wx)) (fun i _ => 25 - (intOf i).toNat)
          case atStart => exact ⟨0, by omega, rfl, HS.out⟩
          case round =>
            clear HS
            obtain ⟨k, hk, rfl, HRk⟩ := hrel
            by_cases hlt : k < 25
            · have hbox := row_two ((HRk.out.box hb (by simp)).trans Fh.out)
              obtain ⟨z0, z1⟩ := hbox
              obtain ⟨⟨u, hu⟩, hf⟩ := HRk.out.cell (o := k * 8 + 1) FE.out (by have := sE.out; omega)
              have HNEW : Hid (Spo B0 hb wb pb W0 (wr.setCell ⟨eg, k * 8 + 1, none⟩ (.int .i64 (-9)))) := HRk.out.set eg (k * 8 + 1) _ gE (ne_of_type FE.out Fh.out (by decide)) (ne_of_type FE.out Fw.out (by decide)) (ne_of_type FE.out Fp.out (by decide))
              clear HRk
              go_wp2
              go_roundw
              case rel => exact ⟨k + 1, by omega, by go_num, HNEW.out⟩
              case measure => simp [intOf]; omega
            · have HS := HRk
              have hbox := row_two ((HRk.out.box hb (by simp)).trans Fh.out)
              obtain ⟨z0, z1⟩ := hbox
              clear HRk hk
              go_wp2
              clear hlt z0 z1
              go_loopw [14] (fun i wx => ∃ k : Nat, k ≤ 4 ∧ i = .int .i64 k ∧ Hid (Spo B0 hb wb pb W0 wx)) (fun i _ => 4 - (intOf i).toNat)
              case atStart => exact ⟨0, by omega, rfl, HS.out⟩
              case round =>
                clear HS
                obtain ⟨k, hk, rfl, HRk⟩ := hrel
                by_cases hlt : k < 4
                · have hbox := row_two ((HRk.out.box hb (by simp)).trans Fh.out)
                  obtain ⟨z0, z1⟩ := hbox
                  obtain ⟨⟨u, hu⟩, hf⟩ := HRk.out.cell (o := k * 2) FO.out (by have := sO.out; omega)
                  have HNEW : Hid (Spo B0 hb wb pb W0 (wr.setCell ⟨og, k * 2, none⟩ (.int .i64 (-9)))) := HRk.out.set og (k * 2) _ gO (ne_of_type FO.out Fh.out (by decide)) (ne_of_type FO.out Fw.out (by decide)) (ne_of_type FO.out Fp.out (by decide))
                  clear HRk
                  go_wp2
                  go_roundw
                  case rel => exact ⟨k + 1, by omega, by go_num, HNEW.out⟩
                  case measure => simp [intOf]; omega
                · have HS := HRk
                  have hbox := row_two ((HRk.out.box hb (by simp)).trans Fh.out)
                  obtain ⟨z0, z1⟩ := hbox
                  clear HRk hk
                  go_wp2
                  clear hlt z0 z1
                  go_loopw [15] (fun i wx => ∃ k : Nat, k ≤ M ∧ i = .int .i64 k ∧ Hid (Spo B0 hb wb pb W0 wx)) (fun i _ => M - (intOf i).toNat)
                  case atStart => exact ⟨0, by omega, rfl, HS.out⟩
                  case round =>
                    clear HS
                    obtain ⟨k, hk, rfl, HRk⟩ := hrel
                    by_cases hlt : k < M
                    · obtain ⟨ag, cA, rfl, gA, FA, lA, sA⟩ := wide_row HWr.out (show 0 < M by omega) HX1s.out
                      have FA := Lib.hid FA
                      have sA := Lib.hid sA
                      have hbox := row_two ((HRk.out.box wb (by simp)).trans Fw.out)
                      obtain ⟨z0, z1⟩ := hbox
                      obtain ⟨⟨u, hu⟩, hf⟩ := HRk.out.cell (o := k * 8 + 1) FA.out (by have := sA.out; omega)
                      have HNEW : Hid (Spo B0 hb wb pb W0 (wr.setCell ⟨ag, k * 8 + 1, none⟩ (.int .i64 (-9)))) := HRk.out.set ag (k * 8 + 1) _ gA (ne_of_type FA.out Fh.out (by decide)) (ne_of_type FA.out Fw.out (by decide)) (ne_of_type FA.out Fp.out (by decide))
                      clear HRk
                      go_wp2
                      go_roundw
                      case rel => exact ⟨k + 1, by omega, by go_num, HNEW.out⟩
                      case measure => simp [intOf]; omega
                    · have HS := HRk
                      have hbox := row_two ((HRk.out.box wb (by simp)).trans Fw.out)
                      obtain ⟨z0, z1⟩ := hbox
                      clear HRk hk
                      go_wp2
                      clear hlt z0 z1
                      go_loopw [16] (fun i wx => ∃ k : Nat, k ≤ 13 ∧ i = .int .i64 k ∧ Hid (Spo B0 hb wb pb W0 wx)) (fun i _ => 13 - (intOf i).toNat)
                      case atStart => exact ⟨0, by omega, rfl, HS.out⟩
                      case round =>
                        clear HS
                        obtain ⟨k, hk, rfl, HRk⟩ := hrel
                        by_cases hlt : k < 13
                        · obtain ⟨⟨u, hu⟩, hf⟩ := HRk.out.cell (o := k) FS.out (by have := sS.out; omega)
                          have HNEW : Hid (Spo B0 hb wb pb W0 (wr.setCell ⟨sg, k, none⟩ (.int .i64 (-9)))) := HRk.out.set sg (k) _ gS (ne_of_type FS.out Fh.out (by decide)) (ne_of_type FS.out Fw.out (by decide)) (ne_of_type FS.out Fp.out (by decide))
                          clear HRk
                          go_wp2
                          go_roundw
                          case rel => exact ⟨k + 1, by omega, by go_num, HNEW.out⟩
                          case measure => simp [intOf]; omega
                        · have HS := HRk
                          clear HRk hk
                          go_wp2
                          clear hlt
                          go_loopw [17] (fun i wx => ∃ k : Nat, k ≤ 2 ∧ i = .int .i64 k ∧ Hid (Spo B0 hb wb pb W0 wx)) (fun i _ => 2 - (intOf i).toNat)
                          case atStart => exact ⟨0, by omega, rfl, HS.out⟩
                          case round =>
                            clear HS
                            obtain ⟨k, hk, rfl, HRk⟩ := hrel
                            by_cases hlt : k < 2
                            · have hbox := row_two ((HRk.out.box pb (by simp)).trans Fp.out)
                              obtain ⟨z0, z1⟩ := hbox
                              obtain ⟨⟨u, hu⟩, hf⟩ := HRk.out.cell (o := k) FT.out (by have := sT.out; omega)
                              have HNEW : Hid (Spo B0 hb wb pb W0 (wr.setCell ⟨tg, k, none⟩ (.slice none 0 0))) := HRk.out.set tg (k) _ gT (ne_of_type FT.out Fh.out (by decide)) (ne_of_type FT.out Fw.out (by decide)) (ne_of_type FT.out Fp.out (by decide))
                              clear HRk
                              go_wp2
                              go_roundw
                              case rel => exact ⟨k + 1, by omega, by go_num, HNEW.out⟩
                              case measure => simp [intOf]; omega
                            · have HS := HRk
                              have hbox := row_two ((HRk.out.box pb (by simp)).trans Fp.out)
                              obtain ⟨z0, z1⟩ := hbox
                              clear HRk hk
                              obtain ⟨xs9, hown9⟩ := HS.out.row F0.out (Nat.le_refl _) (Nat.le_refl 4) (by unfold maxLen; decide) rfl
                              obtain ⟨xs3, hown3⟩ := HS.out.row FS.out gS lS mS (by have := sS.out; omega)
                              have Hown9 := Lib.hid hown9
                              have Hown3 := Lib.hid hown3
                              have HB0 : Hid (B0 ≤ wr.heap.size) := Nat.le_trans HB0s.out HS.out.below.size
                              have hsg := Lib.hid (ne_of_type FS.out F0.out (by decide))
                              clear hown9 hown3
                              go_wp2_with (first
                                | (at_builtin; refine wpList_append_own _ rfl _ _ 32 rfl B0 9 i9 _ 1 16 Try.underlying32 hi9 hz90 hz91 hz92 rfl (by decide) (.slice (some ⟨B0, 0, none⟩) 4 4) 4 xs9 rfl (Hown9.out.alloc _) ⟨wr.heap.size, 0, none⟩ 1 1 [.string ⟨#[120]⟩] rfl rfl (news_new _ _ _) (by simp [Value.oneCell']) (by unfold maxLen; omega) (by omega) (alloc_le HB0.out _) ?_
                                   intro v7 w7 hown7 hgrow7 hnil7
                                   obtain ⟨a7, c7, rfl, -, -⟩ := row_sl hown7
                                   have Hs7 : Hid (w7.ownsRow B0 3 1 (.slice (some ⟨sg, 0, none⟩) 13 sc) 13 xs3) := row_grown (Hown3.out.alloc _) (by decide) hgrow7 (fun e => hsg.out (by have e2 : B0 = sg := (by simpa [Value.ownBlock] using e); exact e2.symm))
                                   have D7 : Hid (Below B0 W0 w7) := below_own (HS.out.below.alloc HB0.out _) hgrow7 (Hown9.out.alloc _) (alloc_le HB0.out _)
                                   have HB7 : Hid (B0 ≤ w7.heap.size) := Nat.le_trans HB0s.out D7.out.size
                                   clear hown7 hgrow7 hnil7)
                                | (at_builtin; refine wpList_append_own _ rfl _ _ 42 rfl B0 3 i3 _ 1 8 Try.underlying42 hi3 hz30 hz31 hz32 rfl (by decide) (.slice (some ⟨sg, 0, none⟩) 13 sc) 13 xs3 rfl (Hs7.out.alloc _) ⟨w7.heap.size, 0, none⟩ 1 1 [.int .i64 1] rfl rfl (news_new _ _ _) (by simp [Value.oneCell']) (by unfold maxLen; omega) (by omega) (alloc_le HB7.out _) ?_
                                   intro v8 w8 hown8 hgrow8 hnil8
                                   obtain ⟨a8, c8, rfl, -, -⟩ := row_sl hown8
                                   have D8 : Hid (Below B0 W0 w8) := below_own (D7.out.alloc HB7.out _) hgrow8 (Hs7.out.alloc _) (alloc_le HB7.out _)
                                   clear hown8 hgrow8 hnil8)
                                | go_in)
                              have HEND : Hid (Below w.heap.size w w8) := DL.out.trans (D8.out.mono HwB.out)
                              clear HS
                              go_roundw
                              case rel => exact ⟨r + 1, by omega, by go_num, HEND.out⟩
                              case measure => simp [intOf]; omega

    · have hr2 : r = 2 := by omega
      subst hr2
      clear hlt hr h1 HWide
      have HWm := Lib.hid (Wided.fit m hm13)
      obtain ⟨M1, hM1⟩ : ∃ M1, 7 * m = M1 := ⟨_, rfl⟩
      rw [hM1] at HWm
      have hM9 : M1 ≤ 100000 := by omega
      clear hM1
      go_wp2_with (first
        | (go_at_call 7; (with_reducible refine (get_plain wr).mono ?_); rintro e w2 ⟨vo, v, rfl, h2⟩
           obtain ⟨ao1, co1, rfl, -, -⟩ := row_sl h2.out.1.obj
           obtain ⟨ae1, ce1, rfl, -, -⟩ := row_sl h2.out.1.evs
           obtain ⟨X1, hX1, Hb1, hs1, Hx1⟩ := cells_new w2 #[.slice ao1 4 co1, .slice ae1 25 ce1] 26
           have A1 := boxed_hist h2.out.1 Hb1.out
           have L1 : Hid (Below w.heap.size w X1) := stepB (stepB HR.out h2.out.2) Hb1.out
           have K1 := Lib.hid (Below.refl X1.heap.size X1))
        | (go_at_call 8; (with_reducible refine (dget_plain X1).mono ?_); rintro e w3 ⟨vo, v, rfl, h3⟩
           obtain ⟨ao2, co2, rfl, -, -⟩ := row_sl h3.out.1.obj
           obtain ⟨ae2, ce2, rfl, -, -⟩ := row_sl h3.out.1.evs
           obtain ⟨X2, hX2, Hb2, hs2, Hx2⟩ := cells_new w3 #[.slice ao2 4 co2, .slice ae2 25 ce2] 26
           have A2 := boxed_hist h3.out.1 Hb2.out
           have K2 := Lib.hid (Below.refl X2.heap.size X2)
           replace K1 := Lib.hid (stepB (stepB K1.out h3.out.2) Hb2.out))
        | (go_at_call 9; (with_reducible refine (wide_any HWm.out X2).mono ?_); rintro e w4 ⟨vo, v, rfl, h4⟩
           obtain ⟨ao3, co3, rfl, -, -⟩ := row_sl h4.out.1.obj
           obtain ⟨ae3, ce3, rfl, -, -⟩ := row_sl h4.out.1.evs
           obtain ⟨X3, hX3, Hb3, hs3, Hx3⟩ := cells_new w4 #[.slice ao3 1 co3, .slice ae3 M1 ce3] 26
           have A3 := boxed_hist h4.out.1 Hb3.out
           have K3 := Lib.hid (Below.refl X3.heap.size X3)
           replace K1 := Lib.hid (stepB (stepB K1.out h4.out.2) Hb3.out)
           replace K2 := Lib.hid (stepB (stepB K2.out h4.out.2) Hb3.out))
        | (go_at_call 10; (with_reducible refine (dwide_any HWm.out X3).mono ?_); rintro e w5 ⟨vo, v, rfl, h5⟩
           obtain ⟨ao4, co4, rfl, -, -⟩ := row_sl h5.out.1.obj
           obtain ⟨ae4, ce4, rfl, -, -⟩ := row_sl h5.out.1.evs
           obtain ⟨X4, hX4, Hb4, hs4, Hx4⟩ := cells_new w5 #[.slice ao4 1 co4, .slice ae4 M1 ce4] 26
           have A4 := boxed_hist h5.out.1 Hb4.out
           have K4 := Lib.hid (Below.refl X4.heap.size X4)
           replace K1 := Lib.hid (stepB (stepB K1.out h5.out.2) Hb4.out)
           replace K2 := Lib.hid (stepB (stepB K2.out h5.out.2) Hb4.out)
           replace K3 := Lib.hid (stepB (stepB K3.out h5.out.2) Hb4.out))
        | (go_at_call 17; (with_reducible refine (caught_any X4).mono ?_); rintro e w6 ⟨q, u0, u1, v0, v1, vt, vs, rfl, h6⟩
           obtain ⟨tg, tc, -, rfl, -, -, -, -, -⟩ := row_pos' h6.out.1.ts (by decide)
           obtain ⟨sa, sc, rfl, sl1, -⟩ := row_sl h6.out.2.1
           obtain ⟨X5, hX5, Hb5, hs5, Hx5⟩ := cells_new w6 #[.slice (some ⟨q, 0, none⟩) 2 2, .slice (some ⟨tg, 0, none⟩) 2 tc] 45
           have A5 := Lib.hid (h6.out.1.below Hb5.out)
           have S5 := Lib.hid (sl1.below Hb5.out)
           have K5 := Lib.hid (Below.refl X5.heap.size X5)
           clear sl1
           replace K1 := Lib.hid (stepB (stepB K1.out h6.out.2.2) Hb5.out)
           replace K2 := Lib.hid (stepB (stepB K2.out h6.out.2.2) Hb5.out)
           replace K3 := Lib.hid (stepB (stepB K3.out h6.out.2.2) Hb5.out)
           replace K4 := Lib.hid (stepB (stepB K4.out h6.out.2.2) Hb5.out))
        | (go_at_call 18; (with_reducible refine (dcaught_any X5).mono ?_); rintro e w7 ⟨q', u0', u1', v0', v1', vt', vs', rfl, h7⟩
           obtain ⟨tg', tc', -, rfl, -, -, -, -, -⟩ := row_pos' h7.out.1.ts (by decide)
           obtain ⟨sa', sc', rfl, sl2, -⟩ := row_sl h7.out.2.1
           obtain ⟨X6, hX6, Hb6, hs6, Hx6⟩ := cells_new w7 #[.slice (some ⟨q', 0, none⟩) 2 2, .slice (some ⟨tg', 0, none⟩) 2 tc'] 45
           have A6 := Lib.hid (h7.out.1.below Hb6.out)
           have S6 := Lib.hid (sl2.below Hb6.out)
           have P := Lib.hid (Below.refl X6.heap.size X6)
           clear sl2
           replace K1 := Lib.hid (stepB (stepB K1.out h7.out.2.2) Hb6.out)
           replace K2 := Lib.hid (stepB (stepB K2.out h7.out.2.2) Hb6.out)
           replace K3 := Lib.hid (stepB (stepB K3.out h7.out.2.2) Hb6.out)
           replace K4 := Lib.hid (stepB (stepB K4.out h7.out.2.2) Hb6.out)
           replace K5 := Lib.hid (stepB (stepB K5.out h7.out.2.2) Hb6.out)
           have A1 := Lib.hid (A1.out.below K1.out)
           have A2 := Lib.hid (A2.out.below K2.out)
           have A3 := Lib.hid (A3.out.below K3.out)
           have A4 := Lib.hid (A4.out.below K4.out)
           have A5 := Lib.hid (A5.out.below K5.out)
           have S5 := Lib.hid (S5.out.below K5.out)
           have Y1 := Lib.hid (keepB K1.out Hx1.out)
           have Y2 := Lib.hid (keepB K2.out Hx2.out)
           have Y3 := Lib.hid (keepB K3.out Hx3.out)
           have Y4 := Lib.hid (keepB K4.out Hx4.out)
           have Y5 := Lib.hid (keepB K5.out Hx5.out)
           have Y6 := Lib.hid Hx6.out
           obtain ⟨f1, f2⟩ := row_two Y1.out
           obtain ⟨f3, f4⟩ := row_two Y2.out)
        | (go_at_call 13; (with_reducible refine (shist_at (w := X6) (by decide) (by decide) A1.out A2.out).mono ?_); rintro e w8 ⟨rfl, h8⟩
           replace P : Hid (Below X6.heap.size X6 w8) := stepB P.out h8.out
           clear A1 A2 f1 f2 f3 f4
           obtain ⟨f1, f2⟩ := row_two (keepB P.out Y3.out)
           obtain ⟨f3, f4⟩ := row_two (keepB P.out Y4.out))
        | (go_at_call 13; (with_reducible refine (shist_at (w := w8) (by decide) hM9 (A3.out.below P.out) (A4.out.below P.out)).mono ?_); rintro e w9 ⟨rfl, h9⟩
           replace P : Hid (Below X6.heap.size X6 w9) := stepB P.out h9.out
           clear f1 f2 f3 f4
           obtain ⟨f1, f2⟩ := row_two (keepB P.out Y5.out)
           obtain ⟨f3, f4⟩ := row_two (keepB P.out Y6.out))
        | (go_at_call 19; (with_reducible refine (sprog_eq (A5.out.below P.out) (A6.out.below P.out)).mono ?_); rintro e w10 ⟨rfl, h10⟩
           replace P : Hid (Below X6.heap.size X6 w10) := stepB P.out h10.out
           clear f1 f2 f3 f4)
        | (go_at_call 20; (with_reducible refine (sints_eq sa sa' sc sc' 13 sched rfl (by decide) w10 (S5.out.below P.out) (S6.out.below P.out)).mono ?_); rintro e w11 ⟨rfl, h11⟩
           replace P : Hid (Below X6.heap.size X6 w11) := stepB P.out h11.out)
        | (go_at_call 15; (with_reducible refine (names_any w11).mono ?_); rintro e w12 ⟨rfl, h12⟩
           replace P : Hid (Below X6.heap.size X6 w12) := stepB P.out h12.out.2)
        | (go_at_call 12; (with_reducible refine (dnames_any w12).mono ?_); rintro e w13 ⟨rfl, h13⟩
           replace P : Hid (Below X6.heap.size X6 w13) := stepB P.out h13.out.2)
        | (go_at_call 14; (with_reducible refine (stexts_eq _ _ 4 4 4 [staleT, tornT, earlyT, plainT] rfl (by decide) w13 ((names_sl h12.out.1).below (h13.out.2)) (names_sl h13.out.1)).mono ?_); rintro e w14 ⟨rfl, h14⟩
           replace P : Hid (Below X6.heap.size X6 w14) := stepB P.out h14.out))
      go_ret
      exact ⟨rfl, stepB (stepB (stepB (stepB L1.out (stepB h3.out.2 Hb2.out)) (stepB h4.out.2 Hb3.out)) (stepB h5.out.2 Hb4.out)) (stepB (stepB (stepB (stepB (stepB h6.out.2.2 Hb5.out) h7.out.2.2) Hb6.out) (Below.refl _ _)) P.out)⟩
end Go.Proofs.Ytdemoikadojepaa
