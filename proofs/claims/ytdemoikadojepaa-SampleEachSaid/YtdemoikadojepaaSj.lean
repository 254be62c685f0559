/- Histories that are alike: the document's comparisons, by contracts. -/
import Derived.Test.YtdemoikadojepaaSi
namespace Go.Proofs.Ytdemoikadojepaa
open Go.RowKit Go.Maps Go.WideMaps Go.WideElems Go.ChangeShapes Go.WideShapes

theorem sev_eq (k tx th ob op ke va re : Int) (W : World) : Calls Try.prog 50 #[ev k tx th ob op ke va re, ev k tx th ob op ke va re] W fun e w' => e = .returned (.bool true) ∧ Hid (Below W.heap.size W w') := by
  obtain ⟨W1, hW1, Hb1, hs1, Hx1⟩ := cells_new W #[.int .i64 k, .int .i64 tx, .int .i64 th, .int .i64 ob, .int .i64 op, .int .i64 ke, .int .i64 va, .int .i64 re] 41
  obtain ⟨W2, hW2, Hb2, hs2, Hx2⟩ := cells_new W1 #[.int .i64 k, .int .i64 tx, .int .i64 th, .int .i64 ob, .int .i64 op, .int .i64 ke, .int .i64 va, .int .i64 re] 41
  have Hb : Hid (Below W.heap.size W W2) := Hb1.out.trans (Hb2.out.mono (Nat.le_of_lt hs1.out))
  obtain ⟨⟨e0, e1, e2, e3⟩, e4, e5, e6, e7⟩ := row_eight Hx2.out
  obtain ⟨⟨f0, f1, f2, f3⟩, f4, f5, f6, f7⟩ := row_eight ((Hb2.out.block W.heap.size hs1.out).trans Hx1.out)
  clear Hb1 Hb2 Hx1 Hx2
  go_enter Try.func50, Try.ntmps50
  go_wp2
  go_ret
  exact ⟨rfl, Hb.out⟩
theorem sob_eq (x y : Int) (W : World) : Calls Try.prog 49 #[.agg #[.int .i64 x, .int .i64 y], .agg #[.int .i64 x, .int .i64 y]] W fun e w' => e = .returned (.bool true) ∧ Hid (Below W.heap.size W w') := by
  obtain ⟨W1, hW1, Hb1, hs1, Hx1⟩ := cells_new W #[.int .i64 x, .int .i64 y] 52
  obtain ⟨W2, hW2, Hb2, hs2, Hx2⟩ := cells_new W1 #[.int .i64 x, .int .i64 y] 52
  have Hb : Hid (Below W.heap.size W W2) := Hb1.out.trans (Hb2.out.mono (Nat.le_of_lt hs1.out))
  obtain ⟨e0, e1⟩ := row_two Hx2.out
  obtain ⟨f0, f1⟩ := row_two ((Hb2.out.block W.heap.size hs1.out).trans Hx1.out)
  clear Hb1 Hb2 Hx1 Hx2
  go_enter Try.func49, Try.ntmps49
  go_wp2
  go_ret
  exact ⟨rfl, Hb.out⟩

/-- A cell behind a slice's address. -/
theorem sl_at {W : World} {a : Option Addr} {F : List Int} (h : SlAt W a (ints F)) (hF : F ≠ []) : ∃ b off, a = some ⟨b, off, none⟩ ∧ b < W.heap.size ∧ ∀ j, j < F.length → W.cell? ⟨b, off + j, none⟩ = some (.int .i64 (F.getD j 0)) := by
  rcases h with ⟨_, h0⟩ | ⟨b, off, e, hl, hc⟩
  · exact absurd (by simpa using h0) hF
  · refine ⟨b, off, e, hl (by simpa using hF), fun j hj => hc j _ ?_⟩
    rw [List.getElem?_map, List.getElem?_eq_getElem hj]
    simp [List.getD, List.getElem?_eq_getElem hj]
theorem ne_of_len {F : List Int} {n k s : Nat} (h : F.length = n * s) (hk : k < n) (hs : 0 < s) : F ≠ [] := by
  intro e
  subst e
  have h1 : 0 < n * s := Nat.mul_pos (by omega) hs
  simp only [List.length_nil] at h
  omega

set_option maxHeartbeats 4000000 in
set_option maxRecDepth 100000 in
theorem sobs_eq (a1 a2 : Option Addr) (c1 c2 n : Nat) (F : List Int) (hl : F.length = n * 2) (hn : n ≤ 100000) (w : World) (h1 : SlAt w a1 (ints F)) (h2 : SlAt w a2 (ints F)) :
    Calls Try.prog 36 #[.slice a1 n c1, .slice a2 n c2] w fun e w' => e = .returned (.bool true) ∧ Hid (Below w.heap.size w w') := by
  have H1 := Lib.hid h1
  have H2 := Lib.hid h2
  have HL := Lib.hid hl
  clear h1 h2 hl
  go_enter Try.func36, Try.ntmps36
  go_wp2
  go_loopw [5] (fun i wr => ∃ k : Nat, i = .int .i64 k ∧ k ≤ n ∧ Hid (Below w.heap.size w wr)) (fun i _ => n - (intOf i).toNat)
  case atStart => exact ⟨0, rfl, Nat.zero_le _, Below.refl _ _⟩
  case round =>
    obtain ⟨k, rfl, hk, HR⟩ := hrel
    by_cases hlt : k < n
    · have hF := ne_of_len HL.out hlt (by decide)
      obtain ⟨b1, o1, rfl, hb1, hc1⟩ := sl_at (H1.out.below HR.out) hF
      obtain ⟨b2, o2, rfl, hb2, hc2⟩ := sl_at (H2.out.below HR.out) hF
      have hb1 := Lib.hid hb1
      have hb2 := Lib.hid hb2
      obtain ⟨x0, hx0⟩ : ∃ x, F.getD (k * 2) 0 = x := ⟨_, rfl⟩
      have p0 := hc1 (k * 2) (by rw [HL.out]; omega)
      have q0 := hc2 (k * 2) (by rw [HL.out]; omega)
      rw [hx0] at p0 q0
      obtain ⟨x1, hx1⟩ : ∃ x, F.getD (k * 2 + 1) 0 = x := ⟨_, rfl⟩
      have p1 := hc1 (k * 2 + 1) (by rw [HL.out]; omega)
      have q1 := hc2 (k * 2 + 1) (by rw [HL.out]; omega)
      rw [hx1] at p1 q1
      rw [← Nat.add_assoc] at p1 q1
      clear hc1 hc2 hF hx0 hx1
      have HS : Hid (wr.cell? ⟨b1, o1 + k * 2, none⟩ = some (.int .i64 x0) ∧ wr.cell? ⟨b1, o1 + k * 2 + 1, none⟩ = some (.int .i64 x1) ∧ wr.cell? ⟨b2, o2 + k * 2, none⟩ = some (.int .i64 x0) ∧ wr.cell? ⟨b2, o2 + k * 2 + 1, none⟩ = some (.int .i64 x1)) := ⟨p0, p1, q0, q1⟩
      go_wp2
      go_region_held3 (fun w' => w'.cell? ⟨b1, o1 + k * 2, none⟩ = some (.int .i64 x0) ∧ w'.cell? ⟨b1, o1 + k * 2 + 1, none⟩ = some (.int .i64 x1) ∧ w'.cell? ⟨b2, o2 + k * 2, none⟩ = some (.int .i64 x0) ∧ w'.cell? ⟨b2, o2 + k * 2 + 1, none⟩ = some (.int .i64 x1)) (go_keep)
        (first
          | (go_at_call 49; refine (sob_eq x0 x1 wr.drew).mono ?_; rintro e w6 ⟨rfl, h6⟩
             have rp0 : w6.cell? ⟨b1, o1 + k * 2, none⟩ = some (.int .i64 x0) := (h6.out.cell (p := ⟨b1, o1 + k * 2, none⟩) hb1.out).trans p0
             have rq0 : w6.cell? ⟨b2, o2 + k * 2, none⟩ = some (.int .i64 x0) := (h6.out.cell (p := ⟨b2, o2 + k * 2, none⟩) hb2.out).trans q0
             have rp1 : w6.cell? ⟨b1, o1 + k * 2 + 1, none⟩ = some (.int .i64 x1) := (h6.out.cell (p := ⟨b1, o1 + k * 2 + 1, none⟩) hb1.out).trans p1
             have rq1 : w6.cell? ⟨b2, o2 + k * 2 + 1, none⟩ = some (.int .i64 x1) := (h6.out.cell (p := ⟨b2, o2 + k * 2 + 1, none⟩) hb2.out).trans q1))
      have Hw6 : Hid (Below w.heap.size w w6) := HR.out.trans (((Below.refl wr.heap.size wr).drew.trans h6.out).mono HR.out.size)
      try clear hHeld
      clear h6 HS p0 q0 rp0 rq0 p1 q1 rp1 rq1
      go_wp2
      go_roundw
      case rel => exact ⟨k + 1, by go_num, by omega, Hw6.out⟩
      case measure => simp [intOf]; omega
    · have hkn : k = n := by omega
      subst hkn
      clear hlt hk
      go_wp2
      go_ret
      exact ⟨rfl, HR.out⟩

set_option maxHeartbeats 4000000 in
set_option maxRecDepth 100000 in
theorem sevs_eq (a1 a2 : Option Addr) (c1 c2 n : Nat) (F : List Int) (hl : F.length = n * 8) (hn : n ≤ 100000) (w : World) (h1 : SlAt w a1 (ints F)) (h2 : SlAt w a2 (ints F)) :
    Calls Try.prog 37 #[.slice a1 n c1, .slice a2 n c2] w fun e w' => e = .returned (.bool true) ∧ Hid (Below w.heap.size w w') := by
  have H1 := Lib.hid h1
  have H2 := Lib.hid h2
  have HL := Lib.hid hl
  clear h1 h2 hl
  go_enter Try.func37, Try.ntmps37
  go_wp2
  go_loopw [5] (fun i wr => ∃ k : Nat, i = .int .i64 k ∧ k ≤ n ∧ Hid (Below w.heap.size w wr)) (fun i _ => n - (intOf i).toNat)
  case atStart => exact ⟨0, rfl, Nat.zero_le _, Below.refl _ _⟩
  case round =>
    obtain ⟨k, rfl, hk, HR⟩ := hrel
    by_cases hlt : k < n
    · have hF := ne_of_len HL.out hlt (by decide)
      obtain ⟨b1, o1, rfl, hb1, hc1⟩ := sl_at (H1.out.below HR.out) hF
      obtain ⟨b2, o2, rfl, hb2, hc2⟩ := sl_at (H2.out.below HR.out) hF
      have hb1 := Lib.hid hb1
      have hb2 := Lib.hid hb2
      obtain ⟨x0, hx0⟩ : ∃ x, F.getD (k * 8) 0 = x := ⟨_, rfl⟩
      have p0 := hc1 (k * 8) (by rw [HL.out]; omega)
      have q0 := hc2 (k * 8) (by rw [HL.out]; omega)
      rw [hx0] at p0 q0
      obtain ⟨x1, hx1⟩ : ∃ x, F.getD (k * 8 + 1) 0 = x := ⟨_, rfl⟩
      have p1 := hc1 (k * 8 + 1) (by rw [HL.out]; omega)
      have q1 := hc2 (k * 8 + 1) (by rw [HL.out]; omega)
      rw [hx1] at p1 q1
      rw [← Nat.add_assoc] at p1 q1
      obtain ⟨x2, hx2⟩ : ∃ x, F.getD (k * 8 + 2) 0 = x := ⟨_, rfl⟩
      have p2 := hc1 (k * 8 + 2) (by rw [HL.out]; omega)
      have q2 := hc2 (k * 8 + 2) (by rw [HL.out]; omega)
      rw [hx2] at p2 q2
      rw [← Nat.add_assoc] at p2 q2
      obtain ⟨x3, hx3⟩ : ∃ x, F.getD (k * 8 + 3) 0 = x := ⟨_, rfl⟩
      have p3 := hc1 (k * 8 + 3) (by rw [HL.out]; omega)
      have q3 := hc2 (k * 8 + 3) (by rw [HL.out]; omega)
      rw [hx3] at p3 q3
      rw [← Nat.add_assoc] at p3 q3
      obtain ⟨x4, hx4⟩ : ∃ x, F.getD (k * 8 + 4) 0 = x := ⟨_, rfl⟩
      have p4 := hc1 (k * 8 + 4) (by rw [HL.out]; omega)
      have q4 := hc2 (k * 8 + 4) (by rw [HL.out]; omega)
      rw [hx4] at p4 q4
      rw [← Nat.add_assoc] at p4 q4
      obtain ⟨x5, hx5⟩ : ∃ x, F.getD (k * 8 + 5) 0 = x := ⟨_, rfl⟩
      have p5 := hc1 (k * 8 + 5) (by rw [HL.out]; omega)
      have q5 := hc2 (k * 8 + 5) (by rw [HL.out]; omega)
      rw [hx5] at p5 q5
      rw [← Nat.add_assoc] at p5 q5
      obtain ⟨x6, hx6⟩ : ∃ x, F.getD (k * 8 + 6) 0 = x := ⟨_, rfl⟩
      have p6 := hc1 (k * 8 + 6) (by rw [HL.out]; omega)
      have q6 := hc2 (k * 8 + 6) (by rw [HL.out]; omega)
      rw [hx6] at p6 q6
      rw [← Nat.add_assoc] at p6 q6
      obtain ⟨x7, hx7⟩ : ∃ x, F.getD (k * 8 + 7) 0 = x := ⟨_, rfl⟩
      have p7 := hc1 (k * 8 + 7) (by rw [HL.out]; omega)
      have q7 := hc2 (k * 8 + 7) (by rw [HL.out]; omega)
      rw [hx7] at p7 q7
      rw [← Nat.add_assoc] at p7 q7
      clear hc1 hc2 hF hx0 hx1 hx2 hx3 hx4 hx5 hx6 hx7
      have HS : Hid (wr.cell? ⟨b1, o1 + k * 8, none⟩ = some (.int .i64 x0) ∧ wr.cell? ⟨b1, o1 + k * 8 + 1, none⟩ = some (.int .i64 x1) ∧ wr.cell? ⟨b1, o1 + k * 8 + 2, none⟩ = some (.int .i64 x2) ∧ wr.cell? ⟨b1, o1 + k * 8 + 3, none⟩ = some (.int .i64 x3) ∧ wr.cell? ⟨b1, o1 + k * 8 + 4, none⟩ = some (.int .i64 x4) ∧ wr.cell? ⟨b1, o1 + k * 8 + 5, none⟩ = some (.int .i64 x5) ∧ wr.cell? ⟨b1, o1 + k * 8 + 6, none⟩ = some (.int .i64 x6) ∧ wr.cell? ⟨b1, o1 + k * 8 + 7, none⟩ = some (.int .i64 x7) ∧ wr.cell? ⟨b2, o2 + k * 8, none⟩ = some (.int .i64 x0) ∧ wr.cell? ⟨b2, o2 + k * 8 + 1, none⟩ = some (.int .i64 x1) ∧ wr.cell? ⟨b2, o2 + k * 8 + 2, none⟩ = some (.int .i64 x2) ∧ wr.cell? ⟨b2, o2 + k * 8 + 3, none⟩ = some (.int .i64 x3) ∧ wr.cell? ⟨b2, o2 + k * 8 + 4, none⟩ = some (.int .i64 x4) ∧ wr.cell? ⟨b2, o2 + k * 8 + 5, none⟩ = some (.int .i64 x5) ∧ wr.cell? ⟨b2, o2 + k * 8 + 6, none⟩ = some (.int .i64 x6) ∧ wr.cell? ⟨b2, o2 + k * 8 + 7, none⟩ = some (.int .i64 x7)) := ⟨p0, p1, p2, p3, p4, p5, p6, p7, q0, q1, q2, q3, q4, q5, q6, q7⟩
      go_wp2
      go_region_held3 (fun w' => w'.cell? ⟨b1, o1 + k * 8, none⟩ = some (.int .i64 x0) ∧ w'.cell? ⟨b1, o1 + k * 8 + 1, none⟩ = some (.int .i64 x1) ∧ w'.cell? ⟨b1, o1 + k * 8 + 2, none⟩ = some (.int .i64 x2) ∧ w'.cell? ⟨b1, o1 + k * 8 + 3, none⟩ = some (.int .i64 x3) ∧ w'.cell? ⟨b1, o1 + k * 8 + 4, none⟩ = some (.int .i64 x4) ∧ w'.cell? ⟨b1, o1 + k * 8 + 5, none⟩ = some (.int .i64 x5) ∧ w'.cell? ⟨b1, o1 + k * 8 + 6, none⟩ = some (.int .i64 x6) ∧ w'.cell? ⟨b1, o1 + k * 8 + 7, none⟩ = some (.int .i64 x7) ∧ w'.cell? ⟨b2, o2 + k * 8, none⟩ = some (.int .i64 x0) ∧ w'.cell? ⟨b2, o2 + k * 8 + 1, none⟩ = some (.int .i64 x1) ∧ w'.cell? ⟨b2, o2 + k * 8 + 2, none⟩ = some (.int .i64 x2) ∧ w'.cell? ⟨b2, o2 + k * 8 + 3, none⟩ = some (.int .i64 x3) ∧ w'.cell? ⟨b2, o2 + k * 8 + 4, none⟩ = some (.int .i64 x4) ∧ w'.cell? ⟨b2, o2 + k * 8 + 5, none⟩ = some (.int .i64 x5) ∧ w'.cell? ⟨b2, o2 + k * 8 + 6, none⟩ = some (.int .i64 x6) ∧ w'.cell? ⟨b2, o2 + k * 8 + 7, none⟩ = some (.int .i64 x7)) (go_keep)
        (first
          | (go_at_call 50; refine (sev_eq x0 x1 x2 x3 x4 x5 x6 x7 wr.drew).mono ?_; rintro e w6 ⟨rfl, h6⟩
             have rp0 : w6.cell? ⟨b1, o1 + k * 8, none⟩ = some (.int .i64 x0) := (h6.out.cell (p := ⟨b1, o1 + k * 8, none⟩) hb1.out).trans p0
             have rq0 : w6.cell? ⟨b2, o2 + k * 8, none⟩ = some (.int .i64 x0) := (h6.out.cell (p := ⟨b2, o2 + k * 8, none⟩) hb2.out).trans q0
             have rp1 : w6.cell? ⟨b1, o1 + k * 8 + 1, none⟩ = some (.int .i64 x1) := (h6.out.cell (p := ⟨b1, o1 + k * 8 + 1, none⟩) hb1.out).trans p1
             have rq1 : w6.cell? ⟨b2, o2 + k * 8 + 1, none⟩ = some (.int .i64 x1) := (h6.out.cell (p := ⟨b2, o2 + k * 8 + 1, none⟩) hb2.out).trans q1
             have rp2 : w6.cell? ⟨b1, o1 + k * 8 + 2, none⟩ = some (.int .i64 x2) := (h6.out.cell (p := ⟨b1, o1 + k * 8 + 2, none⟩) hb1.out).trans p2
             have rq2 : w6.cell? ⟨b2, o2 + k * 8 + 2, none⟩ = some (.int .i64 x2) := (h6.out.cell (p := ⟨b2, o2 + k * 8 + 2, none⟩) hb2.out).trans q2
             have rp3 : w6.cell? ⟨b1, o1 + k * 8 + 3, none⟩ = some (.int .i64 x3) := (h6.out.cell (p := ⟨b1, o1 + k * 8 + 3, none⟩) hb1.out).trans p3
             have rq3 : w6.cell? ⟨b2, o2 + k * 8 + 3, none⟩ = some (.int .i64 x3) := (h6.out.cell (p := ⟨b2, o2 + k * 8 + 3, none⟩) hb2.out).trans q3
             have rp4 : w6.cell? ⟨b1, o1 + k * 8 + 4, none⟩ = some (.int .i64 x4) := (h6.out.cell (p := ⟨b1, o1 + k * 8 + 4, none⟩) hb1.out).trans p4
             have rq4 : w6.cell? ⟨b2, o2 + k * 8 + 4, none⟩ = some (.int .i64 x4) := (h6.out.cell (p := ⟨b2, o2 + k * 8 + 4, none⟩) hb2.out).trans q4
             have rp5 : w6.cell? ⟨b1, o1 + k * 8 + 5, none⟩ = some (.int .i64 x5) := (h6.out.cell (p := ⟨b1, o1 + k * 8 + 5, none⟩) hb1.out).trans p5
             have rq5 : w6.cell? ⟨b2, o2 + k * 8 + 5, none⟩ = some (.int .i64 x5) := (h6.out.cell (p := ⟨b2, o2 + k * 8 + 5, none⟩) hb2.out).trans q5
             have rp6 : w6.cell? ⟨b1, o1 + k * 8 + 6, none⟩ = some (.int .i64 x6) := (h6.out.cell (p := ⟨b1, o1 + k * 8 + 6, none⟩) hb1.out).trans p6
             have rq6 : w6.cell? ⟨b2, o2 + k * 8 + 6, none⟩ = some (.int .i64 x6) := (h6.out.cell (p := ⟨b2, o2 + k * 8 + 6, none⟩) hb2.out).trans q6
             have rp7 : w6.cell? ⟨b1, o1 + k * 8 + 7, none⟩ = some (.int .i64 x7) := (h6.out.cell (p := ⟨b1, o1 + k * 8 + 7, none⟩) hb1.out).trans p7
             have rq7 : w6.cell? ⟨b2, o2 + k * 8 + 7, none⟩ = some (.int .i64 x7) := (h6.out.cell (p := ⟨b2, o2 + k * 8 + 7, none⟩) hb2.out).trans q7))
      have Hw6 : Hid (Below w.heap.size w w6) := HR.out.trans (((Below.refl wr.heap.size wr).drew.trans h6.out).mono HR.out.size)
      try clear hHeld
      clear h6 HS p0 q0 rp0 rq0 p1 q1 rp1 rq1 p2 q2 rp2 rq2 p3 q3 rp3 rq3 p4 q4 rp4 rq4 p5 q5 rp5 rq5 p6 q6 rp6 rq6 p7 q7 rp7 rq7
      go_wp2
      go_roundw
      case rel => exact ⟨k + 1, by go_num, by omega, Hw6.out⟩
      case measure => simp [intOf]; omega
    · have hkn : k = n := by omega
      subst hkn
      clear hlt hk
      go_wp2
      go_ret
      exact ⟨rfl, HR.out⟩
end Go.Proofs.Ytdemoikadojepaa
