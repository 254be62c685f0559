/- Histories that are alike; lists of numbers and of texts that are alike. -/
import Derived.Test.YtdemoikadojepaaSj
namespace Go.Proofs.Ytdemoikadojepaa
open Go.RowKit Go.Maps Go.WideMaps Go.WideElems Go.ChangeShapes Go.WideShapes

set_option maxHeartbeats 1000000 in
theorem shist_eq (ao ae ao' ae' : Option Addr) (co ce co' ce' no n : Nat) (O F : List Int) (hO : O.length = no * 2) (hF : F.length = n * 8) (hno : no ≤ 100000) (hn : n ≤ 100000) (w : World) (h1 : SlAt w ao (ints O)) (h2 : SlAt w ae (ints F)) (h3 : SlAt w ao' (ints O)) (h4 : SlAt w ae' (ints F)) :
    Calls Try.prog 13 #[.agg #[.slice ao no co, .slice ae n ce], .agg #[.slice ao' no co', .slice ae' n ce']] w fun e w' => e = .returned (.bool true) ∧ Hid (Below w.heap.size w w') := by
  obtain ⟨W1, hW1, Hb1, hs1, Hx1⟩ := cells_new w #[.slice ao no co, .slice ae n ce] 26
  obtain ⟨W2, hW2, Hb2, hs2, Hx2⟩ := cells_new W1 #[.slice ao' no co', .slice ae' n ce'] 26
  have Hb : Hid (Below w.heap.size w W2) := Hb1.out.trans (Hb2.out.mono (Nat.le_of_lt hs1.out))
  obtain ⟨e0, e1⟩ := row_two Hx2.out
  have Hy1 := Lib.hid ((Hb2.out.block w.heap.size hs1.out).trans Hx1.out)
  obtain ⟨f0, f1⟩ := row_two Hy1.out
  have HA := Lib.hid (sobs_eq ao ao' co co' no O hO hno W2 (h1.below Hb.out) (h3.below Hb.out))
  have HE := Lib.hid (fun W (hb : Below w.heap.size w W) => sevs_eq ae ae' ce ce' n F hF hn W (h2.below hb) (h4.below hb))
  clear h1 h2 h3 h4 hO hF
  go_enter Try.func13, Try.ntmps13
  go_wp2_with (first
    | (go_at_call 36; refine HA.out.mono ?_; rintro e w3 ⟨rfl, h3⟩
       have Hb3 : Hid (Below w.heap.size w w3) := Hb.out.trans (h3.out.mono Hb.out.size)
       obtain ⟨-, g1⟩ := row_two ((h3.out.block w.heap.size (Nat.lt_trans hs1.out hs2.out)).trans Hy1.out)
       obtain ⟨-, g3⟩ := row_two ((h3.out.block W1.heap.size hs2.out).trans Hx2.out))
    | (go_at_call 37; refine (HE.out _ Hb3.out).mono ?_; rintro e w4 ⟨rfl, h4⟩
       have Hb4 : Hid (Below w.heap.size w w4) := Hb3.out.trans (h4.out.mono Hb3.out.size)))
  go_ret
  exact ⟨rfl, Hb4.out⟩
/-- The same of two histories that hold the same. -/
theorem shist_at {B B' : Nat} {vo v vo' v' : Value} {no n : Nat} {O F : List Int} {w : World} (hno : no ≤ 100000) (hn : n ≤ 100000) (h : HistAt B vo v no n O F w) (h' : HistAt B' vo' v' no n O F w) :
    Calls Try.prog 13 #[.agg #[vo, v], .agg #[vo', v']] w fun e w' => e = .returned (.bool true) ∧ Hid (Below w.heap.size w w') := by
  obtain ⟨a1, c1, rfl, s1, -⟩ := row_sl h.obj
  obtain ⟨a2, c2, rfl, s2, -⟩ := row_sl h.evs
  obtain ⟨a3, c3, rfl, s3, -⟩ := row_sl h'.obj
  obtain ⟨a4, c4, rfl, s4, -⟩ := row_sl h'.evs
  exact shist_eq a1 a2 a3 a4 c1 c2 c3 c4 no n O F (by have := h.obj.1; simpa using this) (by have := h.evs.1; simpa using this) hno hn w s1 s2 s3 s4

/-- A cell behind a slice's address. -/
theorem slv_at {W : World} {a : Option Addr} {xs : List Value} (h : SlAt W a xs) (hF : xs ≠ []) : ∃ b off, a = some ⟨b, off, none⟩ ∧ b < W.heap.size ∧ ∀ j u, xs[j]? = some u → W.cell? ⟨b, off + j, none⟩ = some u := by
  rcases h with ⟨_, h0⟩ | ⟨b, off, e, hl, hc⟩
  · exact absurd h0 hF
  · exact ⟨b, off, e, hl hF, hc⟩

set_option maxHeartbeats 4000000 in
theorem sints_eq (a1 a2 : Option Addr) (c1 c2 n : Nat) (F : List Int) (hl : F.length = n) (hn : n ≤ 100000) (w : World) (h1 : SlAt w a1 (ints F)) (h2 : SlAt w a2 (ints F)) :
    Calls Try.prog 20 #[.slice a1 n c1, .slice a2 n c2] w fun e w' => e = .returned (.bool true) ∧ Hid (Below w.heap.size w w') := by
  have H1 := Lib.hid h1
  have H2 := Lib.hid h2
  have HL := Lib.hid hl
  clear h1 h2 hl
  go_enter Try.func20, Try.ntmps20
  go_wp2
  go_loopw [5] (fun i wr => ∃ k : Nat, i = .int .i64 k ∧ k ≤ n ∧ Hid (Below w.heap.size w wr)) (fun i _ => n - (intOf i).toNat)
  case atStart => exact ⟨0, rfl, Nat.zero_le _, Below.refl _ _⟩
  case round =>
    obtain ⟨k, rfl, hk, HR⟩ := hrel
    by_cases hlt : k < n
    · have hF : F ≠ [] := by intro e; have h9 := HL.out; rw [e] at h9; simp at h9; omega
      obtain ⟨b1, o1, rfl, hb1, hc1⟩ := sl_at (H1.out.below HR.out) hF
      obtain ⟨b2, o2, rfl, hb2, hc2⟩ := sl_at (H2.out.below HR.out) hF
      obtain ⟨x0, hx0⟩ : ∃ x, F.getD k 0 = x := ⟨_, rfl⟩
      have p0 := hc1 k (by rw [HL.out]; omega)
      have q0 := hc2 k (by rw [HL.out]; omega)
      rw [hx0] at p0 q0
      clear hc1 hc2 hF hx0 hb1 hb2
      go_wp2
      go_region_held3 (fun w' => w'.cell? ⟨b1, o1 + k, none⟩ = some (.int .i64 x0) ∧ w'.cell? ⟨b2, o2 + k, none⟩ = some (.int .i64 x0)) (go_keep) (fail)
      try clear hHeld
      have Hw6 : Hid (Below w.heap.size w wr.drew) := HR.out.drew
      clear p0 q0
      go_wp2
      go_roundw
      case rel => exact ⟨k + 1, by go_num, by omega, Hw6.out⟩
      case measure => simp [intOf]; omega
    · have hkn : k = n := by omega
      subst hkn
      clear hlt hk
      go_wp2
      go_ret
      exact ⟨rfl, HR.out⟩

/-- A list of texts as cells. -/
abbrev txs (l : List ByteArray) : List Value := l.map Value.string
set_option maxHeartbeats 4000000 in
theorem stexts_eq (a1 a2 : Option Addr) (c1 c2 n : Nat) (F : List ByteArray) (hl : F.length = n) (hn : n ≤ 100000) (w : World) (h1 : SlAt w a1 (txs F)) (h2 : SlAt w a2 (txs F)) :
    Calls Try.prog 14 #[.slice a1 n c1, .slice a2 n c2] w fun e w' => e = .returned (.bool true) ∧ Hid (Below w.heap.size w w') := by
  have H1 := Lib.hid h1
  have H2 := Lib.hid h2
  have HL := Lib.hid hl
  clear h1 h2 hl
  go_enter Try.func14, Try.ntmps14
  go_wp2
  go_loopw [5] (fun i wr => ∃ k : Nat, i = .int .i64 k ∧ k ≤ n ∧ Hid (Below w.heap.size w wr)) (fun i _ => n - (intOf i).toNat)
  case atStart => exact ⟨0, rfl, Nat.zero_le _, Below.refl _ _⟩
  case round =>
    obtain ⟨k, rfl, hk, HR⟩ := hrel
    by_cases hlt : k < n
    · have hkl : k < F.length := by rw [HL.out]; exact hlt
      have hF : txs F ≠ [] := by intro e; have h9 : F = [] := by simpa using e
                                 rw [h9] at hkl; simp at hkl
      obtain ⟨b1, o1, rfl, hb1, hc1⟩ := slv_at (H1.out.below HR.out) hF
      obtain ⟨b2, o2, rfl, hb2, hc2⟩ := slv_at (H2.out.below HR.out) hF
      obtain ⟨x0, hx0⟩ : ∃ x, F[k] = x := ⟨_, rfl⟩
      have p0 := hc1 k (.string x0) (by simp [hkl, hx0])
      have q0 := hc2 k (.string x0) (by simp [hkl, hx0])
      clear hc1 hc2 hF hx0 hb1 hb2 hkl
      go_wp2
      go_region_held3 (fun w' => w'.cell? ⟨b1, o1 + k, none⟩ = some (.string x0) ∧ w'.cell? ⟨b2, o2 + k, none⟩ = some (.string x0)) (go_keep) (fail)
      try clear hHeld
      have Hw6 : Hid (Below w.heap.size w wr.drew) := HR.out.drew
      clear p0 q0
      go_wp2
      go_roundw
      case rel => exact ⟨k + 1, by go_num, by omega, Hw6.out⟩
      case measure => simp [intOf]; omega
    · have hkn : k = n := by omega
      subst hkn
      clear hlt hk
      go_wp2
      go_ret
      exact ⟨rfl, HR.out⟩
end Go.Proofs.Ytdemoikadojepaa
