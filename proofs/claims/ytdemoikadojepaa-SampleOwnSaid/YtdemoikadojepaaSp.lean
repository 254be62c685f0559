/- SampleGets answers true for any name, level, number. -/
import Derived.Test.YtdemoikadojepaaSo
namespace Go.Proofs.Ytdemoikadojepaa
open Go.RowKit Go.Maps Go.WideMaps Go.WideElems Go.ChangeShapes Go.WideShapes

/-- A history in a box of its own, in the worlds behind. -/
theorem boxed_hist {B : Nat} {vo v : Value} {no n : Nat} {O F : List Int} {W W' : World} (h : HistAt B vo v no n O F W) (hb : Below W.heap.size W W') : Hid (HistAt B vo v no n O F W') := h.below hb

/-- Four boxes, in a world behind them all. -/
theorem four_boxes {p1 p2 p3 p4 : Nat} {x1 y1 x2 y2 x3 y3 x4 y4 : Value} {X1 X2 X3 X4 Y : World} (h1 : p1 < X1.heap.size) (h2 : p2 < X2.heap.size) (h3 : p3 < X3.heap.size) (h4 : p4 < X4.heap.size)
    (e1 : X1.heap[p1]? = some (.cells #[x1, y1] 26)) (e2 : X2.heap[p2]? = some (.cells #[x2, y2] 26)) (e3 : X3.heap[p3]? = some (.cells #[x3, y3] 26)) (e4 : X4.heap[p4]? = some (.cells #[x4, y4] 26))
    (b1 : Below X1.heap.size X1 Y) (b2 : Below X2.heap.size X2 Y) (b3 : Below X3.heap.size X3 Y) (b4 : Below X4.heap.size X4 Y) :
    ((Y.cell? ⟨p1, 0, none⟩ = some x1 ∧ Y.cell? ⟨p1, 1, none⟩ = some y1) ∧ Y.cell? ⟨p2, 0, none⟩ = some x2 ∧ Y.cell? ⟨p2, 1, none⟩ = some y2) ∧ (Y.cell? ⟨p3, 0, none⟩ = some x3 ∧ Y.cell? ⟨p3, 1, none⟩ = some y3) ∧ Y.cell? ⟨p4, 0, none⟩ = some x4 ∧ Y.cell? ⟨p4, 1, none⟩ = some y4 :=
  ⟨⟨row_two ((b1.block p1 h1).trans e1), row_two ((b2.block p2 h2).trans e2)⟩, row_two ((b3.block p3 h3).trans e3), row_two ((b4.block p4 h4).trans e4)⟩
theorem names_cells {w w' : World} (h : w'.heap[w.heap.size]? = some (.cells namesC 9)) : w'.cell? ⟨w.heap.size, 0, none⟩ = some (.string staleT) ∧ w'.cell? ⟨w.heap.size, 1, none⟩ = some (.string tornT) ∧ w'.cell? ⟨w.heap.size, 2, none⟩ = some (.string earlyT) := by simp [World.cell?, h]

set_option maxHeartbeats 4000000 in
theorem gets_wide (s : ByteArray) (l n : Int) (hb : 1000 < s.size) (w : World) : Calls Try.prog 3 #[.string s, .int .i64 l, .int .i64 n] w fun e w' => e = .returned (.bool true) ∧ Hid (Below w.heap.size w w') := by
  have k1 : decide ((1000 : Int) < (s.size : Int)) = true := by simp; omega
  have k2 : decide (1000 < s.size) = true := by simpa using hb
  clear hb
  go_enter Try.func3, Try.ntmps3
  go_wp2_with (first
    | (go_at_call 6; (with_reducible refine (first_any w).mono ?_); rintro e w1 ⟨rfl, h1⟩))
  go_ret
  exact ⟨rfl, h1.out⟩

set_option maxHeartbeats 8000000 in
theorem gets_fit (s : ByteArray) (l n : Int) (hb : s.size ≤ 1000) (w : World) : Calls Try.prog 3 #[.string s, .int .i64 l, .int .i64 n] w fun e w' => e = .returned (.bool true) ∧ Hid (Below w.heap.size w w') := by
  have k1 : decide ((1000 : Int) < (s.size : Int)) = false := by simp; omega
  have k2 : decide (1000 < s.size) = false := by simp; omega
  clear hb
  obtain ⟨no, m, O, F, b, HN⟩ := named_ex s
  obtain ⟨no', m', O', F', b', HW⟩ := wided_ex n
  obtain ⟨t, bt, HS⟩ := sep_ex l
  have HN := Lib.hid HN
  have HW := Lib.hid HW
  have HS0 := Lib.hid HS
  have HNs := Lib.hid HN.out.small
  have HWs := Lib.hid HW.out.small
  rcases HS with _ | _ | _ | ⟨_, h9⟩
  all_goals (try (rcases h9 with h9 | h9))
  case out.inl =>
    have k3 : decide (2 ≤ l) = false := by simp; omega
    clear h9
    go_enter Try.func3, Try.ntmps3
    go_wp2_with (first
      | (go_at_call 6; (with_reducible refine (first_any w).mono ?_); rintro e w1 ⟨rfl, h1⟩)
      | (go_at_call 7; (with_reducible refine (get_any HN.out w1).mono ?_); rintro e w2 ⟨vo, v, rfl, h2⟩
         obtain ⟨ao1, co1, rfl, -, -⟩ := row_sl h2.out.1.obj
         obtain ⟨ae1, ce1, rfl, -, -⟩ := row_sl h2.out.1.evs
         obtain ⟨X1, hX1, Hb1, hs1, Hx1⟩ := cells_new w2 #[.slice ao1 no co1, .slice ae1 m ce1] 26
         have A1 := boxed_hist h2.out.1 Hb1.out
         have L1 : Hid (Below w.heap.size w X1) := h1.out.trans ((h2.out.2.trans (Hb1.out.mono h2.out.2.size)).mono h1.out.size)
         have K1 := Lib.hid (Below.refl X1.heap.size X1))
      | (go_at_call 8; (with_reducible refine (dget_any HN.out X1).mono ?_); rintro e w3 ⟨vo, v, rfl, h3⟩
         obtain ⟨ao2, co2, rfl, -, -⟩ := row_sl h3.out.1.obj
         obtain ⟨ae2, ce2, rfl, -, -⟩ := row_sl h3.out.1.evs
         obtain ⟨X2, hX2, Hb2, hs2, Hx2⟩ := cells_new w3 #[.slice ao2 no co2, .slice ae2 m ce2] 26
         have A2 := boxed_hist h3.out.1 Hb2.out
         have L2 : Hid (Below X1.heap.size X1 X2) := h3.out.2.trans (Hb2.out.mono h3.out.2.size)
         have K2 := Lib.hid (Below.refl X2.heap.size X2)
         replace K1 := Lib.hid (K1.out.trans (L2.out.mono K1.out.size)))
      | (go_at_call 9; (with_reducible refine (wide_any HW.out X2).mono ?_); rintro e w4 ⟨vo, v, rfl, h4⟩
         obtain ⟨ao3, co3, rfl, -, -⟩ := row_sl h4.out.1.obj
         obtain ⟨ae3, ce3, rfl, -, -⟩ := row_sl h4.out.1.evs
         obtain ⟨X3, hX3, Hb3, hs3, Hx3⟩ := cells_new w4 #[.slice ao3 no' co3, .slice ae3 m' ce3] 26
         have A3 := boxed_hist h4.out.1 Hb3.out
         have L3 : Hid (Below X2.heap.size X2 X3) := h4.out.2.trans (Hb3.out.mono h4.out.2.size)
         have K3 := Lib.hid (Below.refl X3.heap.size X3)
         replace K1 := Lib.hid (K1.out.trans (L3.out.mono K1.out.size))
         replace K2 := Lib.hid (K2.out.trans (L3.out.mono K2.out.size)))
      | (go_at_call 10; (with_reducible refine (dwide_any HW.out X3).mono ?_); rintro e w5 ⟨vo, v, rfl, h5⟩
         obtain ⟨ao4, co4, rfl, -, -⟩ := row_sl h5.out.1.obj
         obtain ⟨ae4, ce4, rfl, -, -⟩ := row_sl h5.out.1.evs
         obtain ⟨X4, hX4, Hb4, hs4, Hx4⟩ := cells_new w5 #[.slice ao4 no' co4, .slice ae4 m' ce4] 26
         have A4 := boxed_hist h5.out.1 Hb4.out
         have L4 : Hid (Below X3.heap.size X3 X4) := h5.out.2.trans (Hb4.out.mono h5.out.2.size)
         have K4 := Lib.hid (Below.refl X4.heap.size X4)
         replace K1 := Lib.hid (K1.out.trans (L4.out.mono K1.out.size))
         replace K2 := Lib.hid (K2.out.trans (L4.out.mono K2.out.size))
         replace K3 := Lib.hid (K3.out.trans (L4.out.mono K3.out.size)))
      | (go_at_call 11; (with_reducible refine (sep_any HS0.out X4).mono ?_); rintro e w6 ⟨rfl, hw6⟩
         obtain rfl : X4 = w6 := hw6.symm
         clear hw6
         have A5 := A1
         have P : Hid (Below X4.heap.size X4 X4) := K4.out
         obtain ⟨⟨⟨f1, f2⟩, f3, f4⟩, ⟨f5, f6⟩, f7, f8⟩ := four_boxes hs1.out hs2.out hs3.out hs4.out Hx1.out Hx2.out Hx3.out Hx4.out K1.out K2.out K3.out P.out)
      | (go_at_call 12; (with_reducible refine (dnames_any X4).mono ?_); rintro e w7 ⟨rfl, h7⟩
         obtain ⟨n0, n1, n2⟩ := names_cells h7.out.1
         have P : Hid (Below X4.heap.size X4 w7) := h7.out.2
         obtain ⟨⟨⟨f1, f2⟩, f3, f4⟩, ⟨f5, f6⟩, f7, f8⟩ := four_boxes hs1.out hs2.out hs3.out hs4.out Hx1.out Hx2.out Hx3.out Hx4.out (K1.out.trans (P.out.mono K1.out.size)) (K2.out.trans (P.out.mono K2.out.size)) (K3.out.trans (P.out.mono K3.out.size)) P.out)
      | (go_at_call 13; (with_reducible refine (shist_at (w := X4) (Nat.le_trans HNs.out.1 (by decide)) (Nat.le_trans HNs.out.2 (by decide)) (A1.out.below (K1.out.trans (P.out.mono K1.out.size))) (A2.out.below (K2.out.trans (P.out.mono K2.out.size)))).mono ?_); rintro e w8 ⟨rfl, h8⟩
         replace P : Hid (Below X4.heap.size X4 w8) := P.out.trans (h8.out.mono P.out.size)
         clear A5 f1 f2 f3 f4 f5 f6 f7 f8
         obtain ⟨⟨⟨f1, f2⟩, f3, f4⟩, ⟨f5, f6⟩, f7, f8⟩ := four_boxes hs1.out hs2.out hs3.out hs4.out Hx1.out Hx2.out Hx3.out Hx4.out (K1.out.trans (P.out.mono K1.out.size)) (K2.out.trans (P.out.mono K2.out.size)) (K3.out.trans (P.out.mono K3.out.size)) P.out)
      | (go_at_call 13; (with_reducible refine (shist_at (w := w8) (Nat.le_trans HWs.out.1 (by decide)) (Nat.le_trans HWs.out.2 (by decide)) (A3.out.below (K3.out.trans (P.out.mono K3.out.size))) (A4.out.below P.out)).mono ?_); rintro e w9 ⟨rfl, h9⟩
         replace P : Hid (Below X4.heap.size X4 w9) := P.out.trans (h9.out.mono P.out.size))
      | (go_at_call 15; (with_reducible refine (names_any w9).mono ?_); rintro e w10 ⟨rfl, h10⟩
         replace P : Hid (Below X4.heap.size X4 w10) := P.out.trans (h10.out.2.mono P.out.size))
      | (go_at_call 12; (with_reducible refine (dnames_any w10).mono ?_); rintro e w11 ⟨rfl, h11⟩
         replace P : Hid (Below X4.heap.size X4 w11) := P.out.trans (h11.out.2.mono P.out.size))
      | (go_at_call 14; (with_reducible refine (stexts_eq _ _ 4 4 4 [staleT, tornT, earlyT, plainT] rfl (by decide) w11 ((names_sl h10.out.1).below (h11.out.2)) (names_sl h11.out.1)).mono ?_); rintro e w12 ⟨rfl, h12⟩
         replace P : Hid (Below X4.heap.size X4 w12) := P.out.trans (h12.out.mono P.out.size)))
    go_ret
    exact ⟨rfl, L1.out.trans ((K1.out.trans (P.out.mono K1.out.size)).mono L1.out.size)⟩
  case out.inr =>
    have k3 : decide (2 ≤ l) = true := by simp; omega
    have k4 : decide (l ≤ 4) = false := by simp; omega
    clear h9
    go_enter Try.func3, Try.ntmps3
    go_wp2_with (first
      | (go_at_call 6; (with_reducible refine (first_any w).mono ?_); rintro e w1 ⟨rfl, h1⟩)
      | (go_at_call 7; (with_reducible refine (get_any HN.out w1).mono ?_); rintro e w2 ⟨vo, v, rfl, h2⟩
         obtain ⟨ao1, co1, rfl, -, -⟩ := row_sl h2.out.1.obj
         obtain ⟨ae1, ce1, rfl, -, -⟩ := row_sl h2.out.1.evs
         obtain ⟨X1, hX1, Hb1, hs1, Hx1⟩ := cells_new w2 #[.slice ao1 no co1, .slice ae1 m ce1] 26
         have A1 := boxed_hist h2.out.1 Hb1.out
         have L1 : Hid (Below w.heap.size w X1) := h1.out.trans ((h2.out.2.trans (Hb1.out.mono h2.out.2.size)).mono h1.out.size)
         have K1 := Lib.hid (Below.refl X1.heap.size X1))
      | (go_at_call 8; (with_reducible refine (dget_any HN.out X1).mono ?_); rintro e w3 ⟨vo, v, rfl, h3⟩
         obtain ⟨ao2, co2, rfl, -, -⟩ := row_sl h3.out.1.obj
         obtain ⟨ae2, ce2, rfl, -, -⟩ := row_sl h3.out.1.evs
         obtain ⟨X2, hX2, Hb2, hs2, Hx2⟩ := cells_new w3 #[.slice ao2 no co2, .slice ae2 m ce2] 26
         have A2 := boxed_hist h3.out.1 Hb2.out
         have L2 : Hid (Below X1.heap.size X1 X2) := h3.out.2.trans (Hb2.out.mono h3.out.2.size)
         have K2 := Lib.hid (Below.refl X2.heap.size X2)
         replace K1 := Lib.hid (K1.out.trans (L2.out.mono K1.out.size)))
      | (go_at_call 9; (with_reducible refine (wide_any HW.out X2).mono ?_); rintro e w4 ⟨vo, v, rfl, h4⟩
         obtain ⟨ao3, co3, rfl, -, -⟩ := row_sl h4.out.1.obj
         obtain ⟨ae3, ce3, rfl, -, -⟩ := row_sl h4.out.1.evs
         obtain ⟨X3, hX3, Hb3, hs3, Hx3⟩ := cells_new w4 #[.slice ao3 no' co3, .slice ae3 m' ce3] 26
         have A3 := boxed_hist h4.out.1 Hb3.out
         have L3 : Hid (Below X2.heap.size X2 X3) := h4.out.2.trans (Hb3.out.mono h4.out.2.size)
         have K3 := Lib.hid (Below.refl X3.heap.size X3)
         replace K1 := Lib.hid (K1.out.trans (L3.out.mono K1.out.size))
         replace K2 := Lib.hid (K2.out.trans (L3.out.mono K2.out.size)))
      | (go_at_call 10; (with_reducible refine (dwide_any HW.out X3).mono ?_); rintro e w5 ⟨vo, v, rfl, h5⟩
         obtain ⟨ao4, co4, rfl, -, -⟩ := row_sl h5.out.1.obj
         obtain ⟨ae4, ce4, rfl, -, -⟩ := row_sl h5.out.1.evs
         obtain ⟨X4, hX4, Hb4, hs4, Hx4⟩ := cells_new w5 #[.slice ao4 no' co4, .slice ae4 m' ce4] 26
         have A4 := boxed_hist h5.out.1 Hb4.out
         have L4 : Hid (Below X3.heap.size X3 X4) := h5.out.2.trans (Hb4.out.mono h5.out.2.size)
         have K4 := Lib.hid (Below.refl X4.heap.size X4)
         replace K1 := Lib.hid (K1.out.trans (L4.out.mono K1.out.size))
         replace K2 := Lib.hid (K2.out.trans (L4.out.mono K2.out.size))
         replace K3 := Lib.hid (K3.out.trans (L4.out.mono K3.out.size)))
      | (go_at_call 11; (with_reducible refine (sep_any HS0.out X4).mono ?_); rintro e w6 ⟨rfl, hw6⟩
         obtain rfl : X4 = w6 := hw6.symm
         clear hw6
         have A5 := A1
         have P : Hid (Below X4.heap.size X4 X4) := K4.out
         obtain ⟨⟨⟨f1, f2⟩, f3, f4⟩, ⟨f5, f6⟩, f7, f8⟩ := four_boxes hs1.out hs2.out hs3.out hs4.out Hx1.out Hx2.out Hx3.out Hx4.out K1.out K2.out K3.out P.out)
      | (go_at_call 12; (with_reducible refine (dnames_any X4).mono ?_); rintro e w7 ⟨rfl, h7⟩
         obtain ⟨n0, n1, n2⟩ := names_cells h7.out.1
         have P : Hid (Below X4.heap.size X4 w7) := h7.out.2
         obtain ⟨⟨⟨f1, f2⟩, f3, f4⟩, ⟨f5, f6⟩, f7, f8⟩ := four_boxes hs1.out hs2.out hs3.out hs4.out Hx1.out Hx2.out Hx3.out Hx4.out (K1.out.trans (P.out.mono K1.out.size)) (K2.out.trans (P.out.mono K2.out.size)) (K3.out.trans (P.out.mono K3.out.size)) P.out)
      | (go_at_call 13; (with_reducible refine (shist_at (w := X4) (Nat.le_trans HNs.out.1 (by decide)) (Nat.le_trans HNs.out.2 (by decide)) (A1.out.below (K1.out.trans (P.out.mono K1.out.size))) (A2.out.below (K2.out.trans (P.out.mono K2.out.size)))).mono ?_); rintro e w8 ⟨rfl, h8⟩
         replace P : Hid (Below X4.heap.size X4 w8) := P.out.trans (h8.out.mono P.out.size)
         clear A5 f1 f2 f3 f4 f5 f6 f7 f8
         obtain ⟨⟨⟨f1, f2⟩, f3, f4⟩, ⟨f5, f6⟩, f7, f8⟩ := four_boxes hs1.out hs2.out hs3.out hs4.out Hx1.out Hx2.out Hx3.out Hx4.out (K1.out.trans (P.out.mono K1.out.size)) (K2.out.trans (P.out.mono K2.out.size)) (K3.out.trans (P.out.mono K3.out.size)) P.out)
      | (go_at_call 13; (with_reducible refine (shist_at (w := w8) (Nat.le_trans HWs.out.1 (by decide)) (Nat.le_trans HWs.out.2 (by decide)) (A3.out.below (K3.out.trans (P.out.mono K3.out.size))) (A4.out.below P.out)).mono ?_); rintro e w9 ⟨rfl, h9⟩
         replace P : Hid (Below X4.heap.size X4 w9) := P.out.trans (h9.out.mono P.out.size))
      | (go_at_call 15; (with_reducible refine (names_any w9).mono ?_); rintro e w10 ⟨rfl, h10⟩
         replace P : Hid (Below X4.heap.size X4 w10) := P.out.trans (h10.out.2.mono P.out.size))
      | (go_at_call 12; (with_reducible refine (dnames_any w10).mono ?_); rintro e w11 ⟨rfl, h11⟩
         replace P : Hid (Below X4.heap.size X4 w11) := P.out.trans (h11.out.2.mono P.out.size))
      | (go_at_call 14; (with_reducible refine (stexts_eq _ _ 4 4 4 [staleT, tornT, earlyT, plainT] rfl (by decide) w11 ((names_sl h10.out.1).below (h11.out.2)) (names_sl h11.out.1)).mono ?_); rintro e w12 ⟨rfl, h12⟩
         replace P : Hid (Below X4.heap.size X4 w12) := P.out.trans (h12.out.mono P.out.size)))
    go_ret
    exact ⟨rfl, L1.out.trans ((K1.out.trans (P.out.mono K1.out.size)).mono L1.out.size)⟩
  case two =>
    go_enter Try.func3, Try.ntmps3
    go_wp2_with (first
      | (go_at_call 6; (with_reducible refine (first_any w).mono ?_); rintro e w1 ⟨rfl, h1⟩)
      | (go_at_call 7; (with_reducible refine (get_any HN.out w1).mono ?_); rintro e w2 ⟨vo, v, rfl, h2⟩
         obtain ⟨ao1, co1, rfl, -, -⟩ := row_sl h2.out.1.obj
         obtain ⟨ae1, ce1, rfl, -, -⟩ := row_sl h2.out.1.evs
         obtain ⟨X1, hX1, Hb1, hs1, Hx1⟩ := cells_new w2 #[.slice ao1 no co1, .slice ae1 m ce1] 26
         have A1 := boxed_hist h2.out.1 Hb1.out
         have L1 : Hid (Below w.heap.size w X1) := h1.out.trans ((h2.out.2.trans (Hb1.out.mono h2.out.2.size)).mono h1.out.size)
         have K1 := Lib.hid (Below.refl X1.heap.size X1))
      | (go_at_call 8; (with_reducible refine (dget_any HN.out X1).mono ?_); rintro e w3 ⟨vo, v, rfl, h3⟩
         obtain ⟨ao2, co2, rfl, -, -⟩ := row_sl h3.out.1.obj
         obtain ⟨ae2, ce2, rfl, -, -⟩ := row_sl h3.out.1.evs
         obtain ⟨X2, hX2, Hb2, hs2, Hx2⟩ := cells_new w3 #[.slice ao2 no co2, .slice ae2 m ce2] 26
         have A2 := boxed_hist h3.out.1 Hb2.out
         have L2 : Hid (Below X1.heap.size X1 X2) := h3.out.2.trans (Hb2.out.mono h3.out.2.size)
         have K2 := Lib.hid (Below.refl X2.heap.size X2)
         replace K1 := Lib.hid (K1.out.trans (L2.out.mono K1.out.size)))
      | (go_at_call 9; (with_reducible refine (wide_any HW.out X2).mono ?_); rintro e w4 ⟨vo, v, rfl, h4⟩
         obtain ⟨ao3, co3, rfl, -, -⟩ := row_sl h4.out.1.obj
         obtain ⟨ae3, ce3, rfl, -, -⟩ := row_sl h4.out.1.evs
         obtain ⟨X3, hX3, Hb3, hs3, Hx3⟩ := cells_new w4 #[.slice ao3 no' co3, .slice ae3 m' ce3] 26
         have A3 := boxed_hist h4.out.1 Hb3.out
         have L3 : Hid (Below X2.heap.size X2 X3) := h4.out.2.trans (Hb3.out.mono h4.out.2.size)
         have K3 := Lib.hid (Below.refl X3.heap.size X3)
         replace K1 := Lib.hid (K1.out.trans (L3.out.mono K1.out.size))
         replace K2 := Lib.hid (K2.out.trans (L3.out.mono K2.out.size)))
      | (go_at_call 10; (with_reducible refine (dwide_any HW.out X3).mono ?_); rintro e w5 ⟨vo, v, rfl, h5⟩
         obtain ⟨ao4, co4, rfl, -, -⟩ := row_sl h5.out.1.obj
         obtain ⟨ae4, ce4, rfl, -, -⟩ := row_sl h5.out.1.evs
         obtain ⟨X4, hX4, Hb4, hs4, Hx4⟩ := cells_new w5 #[.slice ao4 no' co4, .slice ae4 m' ce4] 26
         have A4 := boxed_hist h5.out.1 Hb4.out
         have L4 : Hid (Below X3.heap.size X3 X4) := h5.out.2.trans (Hb4.out.mono h5.out.2.size)
         have K4 := Lib.hid (Below.refl X4.heap.size X4)
         replace K1 := Lib.hid (K1.out.trans (L4.out.mono K1.out.size))
         replace K2 := Lib.hid (K2.out.trans (L4.out.mono K2.out.size))
         replace K3 := Lib.hid (K3.out.trans (L4.out.mono K3.out.size)))
      | (go_at_call 11; (with_reducible refine (sep_any HS0.out X4).mono ?_); rintro e w6 ⟨rfl, hw6⟩
         obtain rfl : X4 = w6 := hw6.symm
         clear hw6
         have A5 := A1
         have P : Hid (Below X4.heap.size X4 X4) := K4.out
         obtain ⟨⟨⟨f1, f2⟩, f3, f4⟩, ⟨f5, f6⟩, f7, f8⟩ := four_boxes hs1.out hs2.out hs3.out hs4.out Hx1.out Hx2.out Hx3.out Hx4.out K1.out K2.out K3.out P.out)
      | (go_at_call 12; (with_reducible refine (dnames_any X4).mono ?_); rintro e w7 ⟨rfl, h7⟩
         obtain ⟨n0, n1, n2⟩ := names_cells h7.out.1
         have P : Hid (Below X4.heap.size X4 w7) := h7.out.2
         obtain ⟨⟨⟨f1, f2⟩, f3, f4⟩, ⟨f5, f6⟩, f7, f8⟩ := four_boxes hs1.out hs2.out hs3.out hs4.out Hx1.out Hx2.out Hx3.out Hx4.out (K1.out.trans (P.out.mono K1.out.size)) (K2.out.trans (P.out.mono K2.out.size)) (K3.out.trans (P.out.mono K3.out.size)) P.out)
      | (go_at_call 13; (with_reducible refine (shist_at (w := w7) (Nat.le_trans HNs.out.1 (by decide)) (Nat.le_trans HNs.out.2 (by decide)) (A1.out.below (K1.out.trans (P.out.mono K1.out.size))) (A2.out.below (K2.out.trans (P.out.mono K2.out.size)))).mono ?_); rintro e w8 ⟨rfl, h8⟩
         replace P : Hid (Below X4.heap.size X4 w8) := P.out.trans (h8.out.mono P.out.size)
         clear A5 f1 f2 f3 f4 f5 f6 f7 f8
         obtain ⟨⟨⟨f1, f2⟩, f3, f4⟩, ⟨f5, f6⟩, f7, f8⟩ := four_boxes hs1.out hs2.out hs3.out hs4.out Hx1.out Hx2.out Hx3.out Hx4.out (K1.out.trans (P.out.mono K1.out.size)) (K2.out.trans (P.out.mono K2.out.size)) (K3.out.trans (P.out.mono K3.out.size)) P.out)
      | (go_at_call 13; (with_reducible refine (shist_at (w := w8) (Nat.le_trans HWs.out.1 (by decide)) (Nat.le_trans HWs.out.2 (by decide)) (A3.out.below (K3.out.trans (P.out.mono K3.out.size))) (A4.out.below P.out)).mono ?_); rintro e w9 ⟨rfl, h9⟩
         replace P : Hid (Below X4.heap.size X4 w9) := P.out.trans (h9.out.mono P.out.size))
      | (go_at_call 15; (with_reducible refine (names_any w9).mono ?_); rintro e w10 ⟨rfl, h10⟩
         replace P : Hid (Below X4.heap.size X4 w10) := P.out.trans (h10.out.2.mono P.out.size))
      | (go_at_call 12; (with_reducible refine (dnames_any w10).mono ?_); rintro e w11 ⟨rfl, h11⟩
         replace P : Hid (Below X4.heap.size X4 w11) := P.out.trans (h11.out.2.mono P.out.size))
      | (go_at_call 14; (with_reducible refine (stexts_eq _ _ 4 4 4 [staleT, tornT, earlyT, plainT] rfl (by decide) w11 ((names_sl h10.out.1).below (h11.out.2)) (names_sl h11.out.1)).mono ?_); rintro e w12 ⟨rfl, h12⟩
         replace P : Hid (Below X4.heap.size X4 w12) := P.out.trans (h12.out.mono P.out.size)))
    go_ret
    exact ⟨rfl, L1.out.trans ((K1.out.trans (P.out.mono K1.out.size)).mono L1.out.size)⟩
  case three =>
    go_enter Try.func3, Try.ntmps3
    go_wp2_with (first
      | (go_at_call 6; (with_reducible refine (first_any w).mono ?_); rintro e w1 ⟨rfl, h1⟩)
      | (go_at_call 7; (with_reducible refine (get_any HN.out w1).mono ?_); rintro e w2 ⟨vo, v, rfl, h2⟩
         obtain ⟨ao1, co1, rfl, -, -⟩ := row_sl h2.out.1.obj
         obtain ⟨ae1, ce1, rfl, -, -⟩ := row_sl h2.out.1.evs
         obtain ⟨X1, hX1, Hb1, hs1, Hx1⟩ := cells_new w2 #[.slice ao1 no co1, .slice ae1 m ce1] 26
         have A1 := boxed_hist h2.out.1 Hb1.out
         have L1 : Hid (Below w.heap.size w X1) := h1.out.trans ((h2.out.2.trans (Hb1.out.mono h2.out.2.size)).mono h1.out.size)
         have K1 := Lib.hid (Below.refl X1.heap.size X1))
      | (go_at_call 8; (with_reducible refine (dget_any HN.out X1).mono ?_); rintro e w3 ⟨vo, v, rfl, h3⟩
         obtain ⟨ao2, co2, rfl, -, -⟩ := row_sl h3.out.1.obj
         obtain ⟨ae2, ce2, rfl, -, -⟩ := row_sl h3.out.1.evs
         obtain ⟨X2, hX2, Hb2, hs2, Hx2⟩ := cells_new w3 #[.slice ao2 no co2, .slice ae2 m ce2] 26
         have A2 := boxed_hist h3.out.1 Hb2.out
         have L2 : Hid (Below X1.heap.size X1 X2) := h3.out.2.trans (Hb2.out.mono h3.out.2.size)
         have K2 := Lib.hid (Below.refl X2.heap.size X2)
         replace K1 := Lib.hid (K1.out.trans (L2.out.mono K1.out.size)))
      | (go_at_call 9; (with_reducible refine (wide_any HW.out X2).mono ?_); rintro e w4 ⟨vo, v, rfl, h4⟩
         obtain ⟨ao3, co3, rfl, -, -⟩ := row_sl h4.out.1.obj
         obtain ⟨ae3, ce3, rfl, -, -⟩ := row_sl h4.out.1.evs
         obtain ⟨X3, hX3, Hb3, hs3, Hx3⟩ := cells_new w4 #[.slice ao3 no' co3, .slice ae3 m' ce3] 26
         have A3 := boxed_hist h4.out.1 Hb3.out
         have L3 : Hid (Below X2.heap.size X2 X3) := h4.out.2.trans (Hb3.out.mono h4.out.2.size)
         have K3 := Lib.hid (Below.refl X3.heap.size X3)
         replace K1 := Lib.hid (K1.out.trans (L3.out.mono K1.out.size))
         replace K2 := Lib.hid (K2.out.trans (L3.out.mono K2.out.size)))
      | (go_at_call 10; (with_reducible refine (dwide_any HW.out X3).mono ?_); rintro e w5 ⟨vo, v, rfl, h5⟩
         obtain ⟨ao4, co4, rfl, -, -⟩ := row_sl h5.out.1.obj
         obtain ⟨ae4, ce4, rfl, -, -⟩ := row_sl h5.out.1.evs
         obtain ⟨X4, hX4, Hb4, hs4, Hx4⟩ := cells_new w5 #[.slice ao4 no' co4, .slice ae4 m' ce4] 26
         have A4 := boxed_hist h5.out.1 Hb4.out
         have L4 : Hid (Below X3.heap.size X3 X4) := h5.out.2.trans (Hb4.out.mono h5.out.2.size)
         have K4 := Lib.hid (Below.refl X4.heap.size X4)
         replace K1 := Lib.hid (K1.out.trans (L4.out.mono K1.out.size))
         replace K2 := Lib.hid (K2.out.trans (L4.out.mono K2.out.size))
         replace K3 := Lib.hid (K3.out.trans (L4.out.mono K3.out.size)))
      | (go_at_call 11; (with_reducible refine (sep_any HS0.out X4).mono ?_); rintro e w6 ⟨rfl, hw6⟩
         obtain rfl : X4 = w6 := hw6.symm
         clear hw6
         have A5 := A1
         have P : Hid (Below X4.heap.size X4 X4) := K4.out
         obtain ⟨⟨⟨f1, f2⟩, f3, f4⟩, ⟨f5, f6⟩, f7, f8⟩ := four_boxes hs1.out hs2.out hs3.out hs4.out Hx1.out Hx2.out Hx3.out Hx4.out K1.out K2.out K3.out P.out)
      | (go_at_call 12; (with_reducible refine (dnames_any X4).mono ?_); rintro e w7 ⟨rfl, h7⟩
         obtain ⟨n0, n1, n2⟩ := names_cells h7.out.1
         have P : Hid (Below X4.heap.size X4 w7) := h7.out.2
         obtain ⟨⟨⟨f1, f2⟩, f3, f4⟩, ⟨f5, f6⟩, f7, f8⟩ := four_boxes hs1.out hs2.out hs3.out hs4.out Hx1.out Hx2.out Hx3.out Hx4.out (K1.out.trans (P.out.mono K1.out.size)) (K2.out.trans (P.out.mono K2.out.size)) (K3.out.trans (P.out.mono K3.out.size)) P.out)
      | (go_at_call 13; (with_reducible refine (shist_at (w := w7) (Nat.le_trans HNs.out.1 (by decide)) (Nat.le_trans HNs.out.2 (by decide)) (A1.out.below (K1.out.trans (P.out.mono K1.out.size))) (A2.out.below (K2.out.trans (P.out.mono K2.out.size)))).mono ?_); rintro e w8 ⟨rfl, h8⟩
         replace P : Hid (Below X4.heap.size X4 w8) := P.out.trans (h8.out.mono P.out.size)
         clear A5 f1 f2 f3 f4 f5 f6 f7 f8
         obtain ⟨⟨⟨f1, f2⟩, f3, f4⟩, ⟨f5, f6⟩, f7, f8⟩ := four_boxes hs1.out hs2.out hs3.out hs4.out Hx1.out Hx2.out Hx3.out Hx4.out (K1.out.trans (P.out.mono K1.out.size)) (K2.out.trans (P.out.mono K2.out.size)) (K3.out.trans (P.out.mono K3.out.size)) P.out)
      | (go_at_call 13; (with_reducible refine (shist_at (w := w8) (Nat.le_trans HWs.out.1 (by decide)) (Nat.le_trans HWs.out.2 (by decide)) (A3.out.below (K3.out.trans (P.out.mono K3.out.size))) (A4.out.below P.out)).mono ?_); rintro e w9 ⟨rfl, h9⟩
         replace P : Hid (Below X4.heap.size X4 w9) := P.out.trans (h9.out.mono P.out.size))
      | (go_at_call 15; (with_reducible refine (names_any w9).mono ?_); rintro e w10 ⟨rfl, h10⟩
         replace P : Hid (Below X4.heap.size X4 w10) := P.out.trans (h10.out.2.mono P.out.size))
      | (go_at_call 12; (with_reducible refine (dnames_any w10).mono ?_); rintro e w11 ⟨rfl, h11⟩
         replace P : Hid (Below X4.heap.size X4 w11) := P.out.trans (h11.out.2.mono P.out.size))
      | (go_at_call 14; (with_reducible refine (stexts_eq _ _ 4 4 4 [staleT, tornT, earlyT, plainT] rfl (by decide) w11 ((names_sl h10.out.1).below (h11.out.2)) (names_sl h11.out.1)).mono ?_); rintro e w12 ⟨rfl, h12⟩
         replace P : Hid (Below X4.heap.size X4 w12) := P.out.trans (h12.out.mono P.out.size)))
    go_ret
    exact ⟨rfl, L1.out.trans ((K1.out.trans (P.out.mono K1.out.size)).mono L1.out.size)⟩
  case four =>
    go_enter Try.func3, Try.ntmps3
    go_wp2_with (first
      | (go_at_call 6; (with_reducible refine (first_any w).mono ?_); rintro e w1 ⟨rfl, h1⟩)
      | (go_at_call 7; (with_reducible refine (get_any HN.out w1).mono ?_); rintro e w2 ⟨vo, v, rfl, h2⟩
         obtain ⟨ao1, co1, rfl, -, -⟩ := row_sl h2.out.1.obj
         obtain ⟨ae1, ce1, rfl, -, -⟩ := row_sl h2.out.1.evs
         obtain ⟨X1, hX1, Hb1, hs1, Hx1⟩ := cells_new w2 #[.slice ao1 no co1, .slice ae1 m ce1] 26
         have A1 := boxed_hist h2.out.1 Hb1.out
         have L1 : Hid (Below w.heap.size w X1) := h1.out.trans ((h2.out.2.trans (Hb1.out.mono h2.out.2.size)).mono h1.out.size)
         have K1 := Lib.hid (Below.refl X1.heap.size X1))
      | (go_at_call 8; (with_reducible refine (dget_any HN.out X1).mono ?_); rintro e w3 ⟨vo, v, rfl, h3⟩
         obtain ⟨ao2, co2, rfl, -, -⟩ := row_sl h3.out.1.obj
         obtain ⟨ae2, ce2, rfl, -, -⟩ := row_sl h3.out.1.evs
         obtain ⟨X2, hX2, Hb2, hs2, Hx2⟩ := cells_new w3 #[.slice ao2 no co2, .slice ae2 m ce2] 26
         have A2 := boxed_hist h3.out.1 Hb2.out
         have L2 : Hid (Below X1.heap.size X1 X2) := h3.out.2.trans (Hb2.out.mono h3.out.2.size)
         have K2 := Lib.hid (Below.refl X2.heap.size X2)
         replace K1 := Lib.hid (K1.out.trans (L2.out.mono K1.out.size)))
      | (go_at_call 9; (with_reducible refine (wide_any HW.out X2).mono ?_); rintro e w4 ⟨vo, v, rfl, h4⟩
         obtain ⟨ao3, co3, rfl, -, -⟩ := row_sl h4.out.1.obj
         obtain ⟨ae3, ce3, rfl, -, -⟩ := row_sl h4.out.1.evs
         obtain ⟨X3, hX3, Hb3, hs3, Hx3⟩ := cells_new w4 #[.slice ao3 no' co3, .slice ae3 m' ce3] 26
         have A3 := boxed_hist h4.out.1 Hb3.out
         have L3 : Hid (Below X2.heap.size X2 X3) := h4.out.2.trans (Hb3.out.mono h4.out.2.size)
         have K3 := Lib.hid (Below.refl X3.heap.size X3)
         replace K1 := Lib.hid (K1.out.trans (L3.out.mono K1.out.size))
         replace K2 := Lib.hid (K2.out.trans (L3.out.mono K2.out.size)))
      | (go_at_call 10; (with_reducible refine (dwide_any HW.out X3).mono ?_); rintro e w5 ⟨vo, v, rfl, h5⟩
         obtain ⟨ao4, co4, rfl, -, -⟩ := row_sl h5.out.1.obj
         obtain ⟨ae4, ce4, rfl, -, -⟩ := row_sl h5.out.1.evs
         obtain ⟨X4, hX4, Hb4, hs4, Hx4⟩ := cells_new w5 #[.slice ao4 no' co4, .slice ae4 m' ce4] 26
         have A4 := boxed_hist h5.out.1 Hb4.out
         have L4 : Hid (Below X3.heap.size X3 X4) := h5.out.2.trans (Hb4.out.mono h5.out.2.size)
         have K4 := Lib.hid (Below.refl X4.heap.size X4)
         replace K1 := Lib.hid (K1.out.trans (L4.out.mono K1.out.size))
         replace K2 := Lib.hid (K2.out.trans (L4.out.mono K2.out.size))
         replace K3 := Lib.hid (K3.out.trans (L4.out.mono K3.out.size)))
      | (go_at_call 11; (with_reducible refine (sep_any HS0.out X4).mono ?_); rintro e w6 ⟨rfl, hw6⟩
         obtain rfl : X4 = w6 := hw6.symm
         clear hw6
         have A5 := A1
         have P : Hid (Below X4.heap.size X4 X4) := K4.out
         obtain ⟨⟨⟨f1, f2⟩, f3, f4⟩, ⟨f5, f6⟩, f7, f8⟩ := four_boxes hs1.out hs2.out hs3.out hs4.out Hx1.out Hx2.out Hx3.out Hx4.out K1.out K2.out K3.out P.out)
      | (go_at_call 12; (with_reducible refine (dnames_any X4).mono ?_); rintro e w7 ⟨rfl, h7⟩
         obtain ⟨n0, n1, n2⟩ := names_cells h7.out.1
         have P : Hid (Below X4.heap.size X4 w7) := h7.out.2
         obtain ⟨⟨⟨f1, f2⟩, f3, f4⟩, ⟨f5, f6⟩, f7, f8⟩ := four_boxes hs1.out hs2.out hs3.out hs4.out Hx1.out Hx2.out Hx3.out Hx4.out (K1.out.trans (P.out.mono K1.out.size)) (K2.out.trans (P.out.mono K2.out.size)) (K3.out.trans (P.out.mono K3.out.size)) P.out)
      | (go_at_call 13; (with_reducible refine (shist_at (w := w7) (Nat.le_trans HNs.out.1 (by decide)) (Nat.le_trans HNs.out.2 (by decide)) (A1.out.below (K1.out.trans (P.out.mono K1.out.size))) (A2.out.below (K2.out.trans (P.out.mono K2.out.size)))).mono ?_); rintro e w8 ⟨rfl, h8⟩
         replace P : Hid (Below X4.heap.size X4 w8) := P.out.trans (h8.out.mono P.out.size)
         clear A5 f1 f2 f3 f4 f5 f6 f7 f8
         obtain ⟨⟨⟨f1, f2⟩, f3, f4⟩, ⟨f5, f6⟩, f7, f8⟩ := four_boxes hs1.out hs2.out hs3.out hs4.out Hx1.out Hx2.out Hx3.out Hx4.out (K1.out.trans (P.out.mono K1.out.size)) (K2.out.trans (P.out.mono K2.out.size)) (K3.out.trans (P.out.mono K3.out.size)) P.out)
      | (go_at_call 13; (with_reducible refine (shist_at (w := w8) (Nat.le_trans HWs.out.1 (by decide)) (Nat.le_trans HWs.out.2 (by decide)) (A3.out.below (K3.out.trans (P.out.mono K3.out.size))) (A4.out.below P.out)).mono ?_); rintro e w9 ⟨rfl, h9⟩
         replace P : Hid (Below X4.heap.size X4 w9) := P.out.trans (h9.out.mono P.out.size))
      | (go_at_call 15; (with_reducible refine (names_any w9).mono ?_); rintro e w10 ⟨rfl, h10⟩
         replace P : Hid (Below X4.heap.size X4 w10) := P.out.trans (h10.out.2.mono P.out.size))
      | (go_at_call 12; (with_reducible refine (dnames_any w10).mono ?_); rintro e w11 ⟨rfl, h11⟩
         replace P : Hid (Below X4.heap.size X4 w11) := P.out.trans (h11.out.2.mono P.out.size))
      | (go_at_call 14; (with_reducible refine (stexts_eq _ _ 4 4 4 [staleT, tornT, earlyT, plainT] rfl (by decide) w11 ((names_sl h10.out.1).below (h11.out.2)) (names_sl h11.out.1)).mono ?_); rintro e w12 ⟨rfl, h12⟩
         replace P : Hid (Below X4.heap.size X4 w12) := P.out.trans (h12.out.mono P.out.size)))
    go_ret
    exact ⟨rfl, L1.out.trans ((K1.out.trans (P.out.mono K1.out.size)).mono L1.out.size)⟩
theorem gets_any (s : ByteArray) (l n : Int) (w : World) : Calls Try.prog 3 #[.string s, .int .i64 l, .int .i64 n] w fun e w' => e = .returned (.bool true) ∧ Hid (Below w.heap.size w w') := by
  by_cases h : s.size ≤ 1000
  · exact gets_fit s l n h w
  · exact gets_wide s l n (by omega) w
end Go.Proofs.Ytdemoikadojepaa
