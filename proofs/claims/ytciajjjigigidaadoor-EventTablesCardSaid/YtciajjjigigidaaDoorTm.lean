/- The walk of the statement on tables. -/
import Derived.Test.YtciajjjigigidaaDoorTl
namespace Go.Proofs.YtciajjjigigidaaDoor
open Go.RowKit Go.Maps Go.WideMaps Go.WideElems Go.ChangeShapes Go.WideShapes

variable {T : TypeId} {er : Nat → Addr}

theorem fits_cases (op : Int) : ∃ (b1 b2 b3 kn v : Bool) (x : Int), fitsZ op 1 = b1 ∧ fitsZ op 2 = b2 ∧ fitsZ op 3 = b3 ∧ ofZ op = x ∧ valuedZ op = v ∧ (x != 0) = kn ∧ (decide (1 ≤ op) = true ∧ decide (op ≤ 9) = true ∧ kn = true ∨ decide (1 ≤ op) = true ∧ decide (op ≤ 9) = false ∧ kn = false ∨ decide (1 ≤ op) = false ∧ kn = false) ∧
    ((b1, b2, b3, v, kn) = (true, false, false, true, true) ∨ (b1, b2, b3, v, kn) = (false, false, true, false, true) ∨ (b1, b2, b3, v, kn) = (false, true, true, false, true) ∨ (b1, b2, b3, v, kn) = (false, false, false, false, false)) := by
  refine ⟨_, _, _, _, _, _, rfl, rfl, rfl, rfl, rfl, rfl, ?_⟩
  rcases ten op with h | h | h | h | h | h | h | h | h | h
  iterate 9
    · subst h; decide
  · rw [fitsZ_no _ (noOp h), fitsZ_no _ (noOp h), fitsZ_no _ (noOp h), ofZ_no (noOp h), valuedZ_no (noOp h)]
    refine ⟨?_, .inr (.inr (.inr rfl))⟩
    by_cases h1 : 1 ≤ op
    · right; left; exact ⟨by simpa using h1, by simp; omega, rfl⟩
    · right; right; exact ⟨by simpa using h1, rfl⟩

/-- How many answers up to a number fit. -/
def cnt (op : Int) : Nat → Nat
  | 0 => 0
  | k + 1 => cnt op k + (if fitsZ op (k + 1 : Nat) = true then 1 else 0)
theorem cnt_le (op : Int) : ∀ k, cnt op k ≤ k
  | 0 => Nat.le_refl _
  | k + 1 => by have := cnt_le op k; simp only [cnt]; split <;> omega

set_option maxRecDepth 100000 in
set_option maxHeartbeats 4000000 in
theorem tables_any (t c : Int) (ls : List UInt8) (hls : ls.length ≤ 9223372036854775807) (op : Int) (w : World) (hG : Glob T er w) :
    Calls Tryd.prog 5 #[.int .i64 t, .int .i64 c, tv ls, .int .i64 op] w fun e w' => e = .returned (.bool true) ∧ Hid (Below w.heap.size w w') := by
  have Hf := Lib.hid (first_any w hG)
  have HG := Lib.hid hG
  have hsl : (⟨ls.toArray⟩ : ByteArray).size = ls.length := by simp [ByteArray.size]
  by_cases hbig : 16384 < ls.length
  · have hd : decide ((16384 : Int) < (ls.length : Int)) = true := by simp; omega
    clear hG hbig
    go_enter Tryd.func5, Tryd.ntmps5
    go_wp2_with (first | (go_at_call 6; refine Hf.out.mono ?_; rintro e w1 ⟨rfl, hb1⟩))
    go_ret
    exact ⟨rfl, hb1⟩
  have hd : decide ((16384 : Int) < (ls.length : Int)) = false := by simp; omega
  have Hword := Lib.hid (fun W (h : Below w.heap.size w W) => word_any t c W (HG.out.below' h).words)
  have Hof := Lib.hid (fun W => of_any op W)
  have Hv := Lib.hid (fun W => valued_any op W)
  have Hf1 := Lib.hid (fun W => fits_any op 1 W)
  have Hf2 := Lib.hid (fun W => fits_any op 2 W)
  have Hf3 := Lib.hid (fun W => fits_any op 3 W)
  have Hcw := Lib.hid (fun W (h : Below w.heap.size w W) => code_any t (wordL t c) W (HG.out.below' h).words)
  have Hcl := Lib.hid (fun W (h : Below w.heap.size w W) => code_any t ls W (HG.out.below' h).words)
  have Hback : Hid (∀ d : Nat, codeL t ls = some d → ∀ W, Below w.heap.size w W → Calls Tryd.prog 17 #[.int .i64 t, .int .i64 d] W fun e w' => e = .returned (tv ls) ∧ W = w') := fun d hd W h => by
    have := word_any t d W (HG.out.below' h).words
    rw [codeL_word hd] at this
    exact this
  obtain ⟨b1, b2, b3, kn, v, x, e1, e2, e3, e4, e5, e6, hr, hc⟩ := fits_cases op
  have Hm : Hid (cnt op 3 = (if b1 = true then 1 else 0) + (if b2 = true then 1 else 0) + (if b3 = true then 1 else 0)) := by
    show (0 + (if fitsZ op 1 = true then 1 else 0) + (if fitsZ op 2 = true then 1 else 0) + (if fitsZ op 3 = true then 1 else 0)) = _
    rw [e1, e2, e3]; simp
  rw [e1] at Hf1
  rw [e2] at Hf2
  rw [e3] at Hf3
  rw [e4] at Hof
  rw [e5] at Hv
  -- the word of the code has that code
  have hA : wordL t c = [] ∨ ∃ k : Nat, c = k ∧ wordL t c ≠ [] ∧ codeL t (wordL t c) = some k := by
    by_cases h : wordL t c = []
    · exact .inl h
    · obtain ⟨k, hk1, hk2⟩ := wordL_code h
      exact .inr ⟨k, hk1, h, hk2⟩
  clear hG hbig e1 e2 e3 e4 e5 hls
  -- which of the ways it goes
  have hB : (∃ d : Nat, codeL t ls = some d) ∨ codeL t ls = none := by cases h : codeL t ls with | none => exact .inr rfl | some d => exact .inl ⟨d, rfl⟩
  have key : ∀ (X : List UInt8) (n1 : Nat) (i1 : Bool), Hid ((∀ W, Below w.heap.size w W → Calls Tryd.prog 17 #[.int .i64 t, .int .i64 c] W fun e w' => e = .returned (tv X) ∧ W = w') ∧ (∀ W, Below w.heap.size w W → Calls Tryd.prog 7 #[.int .i64 t, tv X] W fun e w' => e = .returned (.tuple #[.int .i64 (n1 : Int), .bool i1]) ∧ W = w')) →
      (X = [] ∨ ((X.isEmpty = false ∧ i1 = true) ∧ c = n1)) → ∀ (n2 : Nat) (i2 : Bool), Hid ((∀ W, Below w.heap.size w W → Calls Tryd.prog 7 #[.int .i64 t, tv ls] W fun e w' => e = .returned (.tuple #[.int .i64 (n2 : Int), .bool i2]) ∧ W = w') ∧ (i2 = true → ∀ W, Below w.heap.size w W → Calls Tryd.prog 17 #[.int .i64 t, .int .i64 n2] W fun e w' => e = .returned (tv ls) ∧ W = w')) →
      Calls Tryd.prog 5 #[.int .i64 t, .int .i64 c, tv ls, .int .i64 op] w fun e w' => e = .returned (.bool true) ∧ Hid (Below w.heap.size w w') := by
    intro X n1 i1 H1 hX n2 i2 H2
    clear Hword Hcw Hcl Hback hA hB HG
    have P1 := Lib.hid H1.out.1
    have P2 := Lib.hid H1.out.2
    have P3 := Lib.hid H2.out.1
    have P4 := Lib.hid H2.out.2
    clear H1 H2
    have hX' : (X = [] ∧ True) ∨ ((X.isEmpty = false ∧ i1 = true) ∧ c = n1) := hX.imp (fun h => ⟨h, trivial⟩) id
    clear hX
    rcases hX' with ⟨rfl, _⟩ | ⟨⟨hXe, rfl⟩, rfl⟩
    all_goals
      cases i2
      all_goals
        go_enter Tryd.func5, Tryd.ntmps5
        go_wp2_with (first | (go_at_call 6; refine Hf.out.mono ?_; rintro e w1 ⟨rfl, hb1⟩; have H1b := Lib.hid hb1; clear hb1) | (go_at_call 17; first | (refine (P1.out _ H1b.out).mono ?_; rintro e w' ⟨rfl, rfl⟩; clear P1) | (refine (P4.out (by trivial) _ H1b.out).mono ?_; rintro e w' ⟨rfl, rfl⟩; clear P4)) | (go_at_call 7; first | (refine (P2.out _ H1b.out).mono ?_; rintro e w' ⟨rfl, rfl⟩; clear P2) | (refine (P3.out _ H1b.out).mono ?_; rintro e w' ⟨rfl, rfl⟩; clear P3)))
        go_loopw [15, 16] (fun n i wr => ∃ k : Nat, k ≤ 3 ∧ i = .int .i64 (k + 1 : Nat) ∧ n = .int .i64 (cnt op k : Nat) ∧ Hid (wr = w1)) (fun _ i _ => 4 - (intOf i).toNat)
        case atStart => exact ⟨0, by decide, rfl, rfl, rfl⟩
        case round =>
          obtain ⟨k, hk, rfl, rfl, hw⟩ := hrel
          have hw' := hw.out
          subst hw'
          have hcl := cnt_le op k
          by_cases hlt : k < 3
          · have hcn : Hid (cnt op (k + 1) = cnt op k + (if fitsZ op (k + 1 : Nat) = true then 1 else 0)) := rfl
            have Hfr := Lib.hid (fun W => fits_any op (k + 1 : Nat) W)
            generalize fitsZ op (k + 1 : Nat) = b at *
            generalize cnt op k = m at *
            (try clear P4)
            clear Hf1 Hf2 Hf3 Hof Hv Hm hr hc
            cases b
            · have hcn' : Hid (cnt op (k + 1) = m) := by show _ = _; rw [hcn.out]; rfl
              clear hcn
              go_wp2_with (first | (go_at_call 15; refine (Hfr.out _).mono ?_; rintro e w' ⟨rfl, rfl⟩))
              go_roundw
              case rel => exact ⟨k + 1, by omega, by go_num, by rw [hcn'.out], trivial⟩
              case measure => simp [intOf]; omega
            · have hcn' : Hid (cnt op (k + 1) = m + 1) := by show _ = _; rw [hcn.out]; rfl
              clear hcn
              go_wp2_with (first | (go_at_call 15; refine (Hfr.out _).mono ?_; rintro e w' ⟨rfl, rfl⟩))
              go_roundw
              case rel => exact ⟨k + 1, by omega, by go_num, by rw [hcn'.out]; go_num, trivial⟩
              case measure => simp [intOf]; omega
          · have hk3 : k = 3 := by omega
            subst hk3
            (try clear P4)
            clear hcl hlt hk
            have hm := Hm.out
            clear Hm
            generalize cnt op 3 = m at *
            rcases hc with h | h | h | h
            all_goals
              simp only [Prod.mk.injEq] at h
              obtain ⟨rfl, rfl, rfl, rfl, rfl⟩ := h
              simp only [if_true, Bool.false_eq_true, if_false] at hm
              subst hm
              rcases hr with ⟨r1, r2, r3⟩ | ⟨r1, r2, r3⟩ | ⟨r1, r3⟩
              all_goals
                first
                | (exfalso; exact absurd r3 (by decide))
                | (clear r3
                   go_wp2_with (first | (go_at_call 15; refine (Hf1.out _).mono ?_; rintro e w' ⟨rfl, rfl⟩) | (go_at_call 9; refine (Hof.out _).mono ?_; rintro e w' ⟨rfl, rfl⟩) | (go_at_call 13; refine (Hv.out _).mono ?_; rintro e w' ⟨rfl, rfl⟩))
                   go_ret
                   exact ⟨rfl, H1b.out⟩)
  have fin : ∀ (X : List UInt8), wordL t c = X → (X = [] ∨ ∃ k : Nat, c = k ∧ X ≠ [] ∧ codeL t X = some k) → Calls Tryd.prog 5 #[.int .i64 t, .int .i64 c, tv ls, .int .i64 op] w fun e w' => e = .returned (.bool true) ∧ Hid (Below w.heap.size w w') := by
    intro X hX hh
    rw [hX] at Hword Hcw
    refine key X _ _ ⟨Hword.out, Hcw.out⟩ ?_ _ _ ⟨Hcl.out, ?_⟩
    · rcases hh with h | ⟨k, hk1, hk2, hk3⟩
      · exact .inl h
      · rw [hk3]; exact .inr ⟨⟨by simpa using hk2, rfl⟩, hk1⟩
    · intro h
      rcases hB with ⟨d, hd⟩ | hd
      · rw [hd]; exact Hback.out d hd
      · rw [hd] at h; cases h
  exact fin _ rfl hA
end Go.Proofs.YtciajjjigigidaaDoor
