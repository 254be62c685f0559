/- The document's words, codes and what it tells of operations, by contracts. -/
import Derived.Test.YtciajjjigigidaaDoorEc
namespace Go.Proofs.YtciajjjigigidaaDoor
open Go.RowKit Go.Maps Go.WideMaps Go.WideElems Go.ChangeShapes Go.WideShapes

/-- The document's words of a table. -/
def rrow (t : Int) : List (List UInt8) := if 0 ≤ t ∧ t < 7 then (wrow t.toNat).filter (fun x => x ≠ []) else []

theorem tat_new (w : World) (l : List (List UInt8)) (cs : Array Value) (h : cs = (tc l).toArray) : TAt (w.alloc (.cells cs 9)) (some ⟨w.heap.size, 0, none⟩) l := by
  refine .inr ⟨w.heap.size, 0, rfl, fun i hi => ?_⟩
  rw [Nat.zero_add, World.cell?_alloc_new, h]
  simp [hi]

/-- What a call of the document's words gives. -/
def WordsIs (t : Int) (w : World) (e : Ending) (w' : World) : Prop := ∃ a c, e = .returned (.slice a (rrow t).length c) ∧ Hid (TAt w' a (rrow t) ∧ Below w.heap.size w w')

theorem refw_1 (w : World) : Calls Tryd.prog 26 #[.int .i64 1] w (WordsIs 1 w) := by
  go_enter Tryd.func26, Tryd.ntmps26
  go_wp2
  go_ret
  exact ⟨_, _, rfl, tat_new _ (rrow 1) _ rfl, (Below.refl _ _).alloc (Nat.le_refl _) _⟩
theorem refw_2 (w : World) : Calls Tryd.prog 26 #[.int .i64 2] w (WordsIs 2 w) := by
  go_enter Tryd.func26, Tryd.ntmps26
  go_wp2
  go_ret
  exact ⟨_, _, rfl, tat_new _ (rrow 2) _ rfl, (Below.refl _ _).alloc (Nat.le_refl _) _⟩
theorem refw_3 (w : World) : Calls Tryd.prog 26 #[.int .i64 3] w (WordsIs 3 w) := by
  go_enter Tryd.func26, Tryd.ntmps26
  go_wp2
  go_ret
  exact ⟨_, _, rfl, tat_new _ (rrow 3) _ rfl, (Below.refl _ _).alloc (Nat.le_refl _) _⟩
theorem refw_4 (w : World) : Calls Tryd.prog 26 #[.int .i64 4] w (WordsIs 4 w) := by
  go_enter Tryd.func26, Tryd.ntmps26
  go_wp2
  go_ret
  exact ⟨_, _, rfl, tat_new _ (rrow 4) _ rfl, (Below.refl _ _).alloc (Nat.le_refl _) _⟩
theorem refw_5 (w : World) : Calls Tryd.prog 26 #[.int .i64 5] w (WordsIs 5 w) := by
  go_enter Tryd.func26, Tryd.ntmps26
  go_wp2
  go_ret
  exact ⟨_, _, rfl, tat_new _ (rrow 5) _ rfl, (Below.refl _ _).alloc (Nat.le_refl _) _⟩
theorem refw_6 (w : World) : Calls Tryd.prog 26 #[.int .i64 6] w (WordsIs 6 w) := by
  go_enter Tryd.func26, Tryd.ntmps26
  go_wp2
  go_ret
  exact ⟨_, _, rfl, tat_new _ (rrow 6) _ rfl, (Below.refl _ _).alloc (Nat.le_refl _) _⟩
theorem rrow_out {t : Int} (h : t ≠ 1 ∧ t ≠ 2 ∧ t ≠ 3 ∧ t ≠ 4 ∧ t ≠ 5 ∧ t ≠ 6) : rrow t = [] := by
  unfold rrow
  split
  · have : t = 0 := by omega
    subst this; decide
  · rfl
theorem refw_no (t : Int) (h : t ≠ 1 ∧ t ≠ 2 ∧ t ≠ 3 ∧ t ≠ 4 ∧ t ≠ 5 ∧ t ≠ 6) (w : World) : Calls Tryd.prog 26 #[.int .i64 t] w (WordsIs t w) := by
  have hr := rrow_out h
  unfold WordsIs
  rw [hr]
  obtain ⟨h1, h2, h3, h4, h5, h6⟩ := h
  have k1 : (t == 1) = false := by simpa using h1
  have k2 : (t == 2) = false := by simpa using h2
  have k3 : (t == 3) = false := by simpa using h3
  have k4 : (t == 4) = false := by simpa using h4
  have k5 : (t == 5) = false := by simpa using h5
  have k6 : (t == 6) = false := by simpa using h6
  clear hr h1 h2 h3 h4 h5 h6
  go_enter Tryd.func26, Tryd.ntmps26
  go_wp2
  go_ret
  exact ⟨_, _, rfl, .inl rfl, Below.refl _ _⟩
theorem refw_any (t : Int) (w : World) : Calls Tryd.prog 26 #[.int .i64 t] w (WordsIs t w) := by
  by_cases h : t ≠ 1 ∧ t ≠ 2 ∧ t ≠ 3 ∧ t ≠ 4 ∧ t ≠ 5 ∧ t ≠ 6
  · exact refw_no t h w
  · have : t = 1 ∨ t = 2 ∨ t = 3 ∨ t = 4 ∨ t = 5 ∨ t = 6 := by omega
    rcases this with rfl | rfl | rfl | rfl | rfl | rfl
    · exact refw_1 w
    · exact refw_2 w
    · exact refw_3 w
    · exact refw_4 w
    · exact refw_5 w
    · exact refw_6 w

theorem rrow_word : ∀ t : Nat, t < 7 → ∀ c : Nat, c < 10 → (if 1 ≤ c ∧ c ≤ (rrow t).length then (rrow t).getD (c - 1) [] else []) = (wrow t).getD c [] := by decide
theorem rrow_len (t : Int) : (rrow t).length ≤ 9 := by
  unfold rrow
  split
  · rename_i h
    have : ∀ t : Nat, t < 7 → ((wrow t).filter (fun x => x ≠ [])).length ≤ 9 := by decide
    exact this _ (by omega)
  · simp
theorem wordL_ref (t c : Int) : wordL t c = if 1 ≤ c ∧ c ≤ (rrow t).length then (rrow t).getD (c.toNat - 1) [] else [] := by
  have hlen := rrow_len t
  by_cases h : t < 0 ∨ 7 ≤ t ∨ c < 0 ∨ 10 ≤ c
  · rw [wordL_out h]
    split
    · rename_i h2
      have : rrow t = [] := by unfold rrow; rw [if_neg (by omega)]
      rw [this] at h2; simp at h2; omega
    · rfl
  · obtain ⟨k, rfl⟩ : ∃ k : Nat, t = k := ⟨t.toNat, by omega⟩
    obtain ⟨j, rfl⟩ : ∃ j : Nat, c = j := ⟨c.toNat, by omega⟩
    have := rrow_word k (by omega) j (by omega)
    rw [wordL_in (by omega) (by omega), ← this]
    by_cases hc : 1 ≤ j ∧ j ≤ (rrow k).length
    · rw [if_pos hc, if_pos (by omega), Int.toNat_natCast]
    · rw [if_neg hc, if_neg (by omega)]

theorem refWord_any (t c : Int) (w : World) : Calls Tryd.prog 18 #[.int .i64 t, .int .i64 c] w fun e w' => e = .returned (tv (wordL t c)) ∧ Hid (Below w.heap.size w w') := by
  have Hw := Lib.hid (refw_any t w)
  have hlen := rrow_len t
  rw [wordL_ref t c]
  unfold WordsIs at Hw
  generalize rrow t = r at *
  by_cases h1 : c < 1
  · rw [if_neg (by omega)]
    go_enter Tryd.func18, Tryd.ntmps18
    go_wp2_with (first | (go_at_call 26; refine Hw.out.mono ?_; rintro e w1 ⟨a, cp, rfl, hb⟩))
    go_ret
    exact ⟨rfl, hb.out.2⟩
  by_cases h2 : (r.length : Int) < c
  · rw [if_neg (by omega)]
    go_enter Tryd.func18, Tryd.ntmps18
    go_wp2_with (first | (go_at_call 26; refine Hw.out.mono ?_; rintro e w1 ⟨a, cp, rfl, hb⟩))
    go_ret
    exact ⟨rfl, hb.out.2⟩
  · obtain ⟨k, rfl⟩ : ∃ k : Nat, c = k + 1 := ⟨c.toNat - 1, by omega⟩
    have hk : k < r.length := by omega
    rw [if_pos (by omega), show ((k : Int) + 1).toNat - 1 = k by omega]
    obtain ⟨x, hx⟩ : ∃ x, x = r.getD k [] := ⟨_, rfl⟩
    rw [← hx]
    have Hx := Lib.hid hx
    clear hx
    have h3 : decide ((k : Int) + 1 < 1) = false := by simp; omega
    have h4 : decide ((r.length : Int) < (k : Int) + 1) = false := by simp; omega
    clear h1 h2
    go_enter Tryd.func18, Tryd.ntmps18
    go_wp2_with (first | (go_at_call 26; refine Hw.out.mono ?_; rintro e w1 ⟨a, cp, rfl, hb⟩; obtain ⟨b, off, rfl, hcell⟩ : ∃ b off, a = some ⟨b, off, none⟩ ∧ w1.cell? ⟨b, off + k, none⟩ = some (tv x) := (by rcases hb.out.1 with h | ⟨b, off, h, hc⟩; (subst h; simp at hk); exact ⟨b, off, h, by rw [Hx.out]; exact hc k hk⟩)))
    go_ret
    exact ⟨rfl, hb.out.2⟩

theorem codeL_ref (t : Int) (l : List UInt8) : codeL t l = firstOf l 1 (rrow t) := by
  by_cases hl : l = []
  · subst hl
    rw [codeL_out (.inl rfl)]
    unfold rrow
    split
    · rename_i h
      have : ∀ t : Nat, t < 7 → firstOf [] 1 ((wrow t).filter (fun x => x ≠ [])) = none := by decide
      exact (this _ (by omega)).symm
    · rfl
  · by_cases h : t < 0 ∨ 7 ≤ t
    · rw [codeL_out (.inr h)]
      unfold rrow
      rw [if_neg (by omega)]; rfl
    · obtain ⟨k, rfl⟩ : ∃ k : Nat, t = k := ⟨t.toNat, by omega⟩
      have hk : k < 7 := by omega
      rw [codeL_in hk hl]
      have hl' : ¬ [] = l := fun e => hl e.symm
      have : k = 0 ∨ k = 1 ∨ k = 2 ∨ k = 3 ∨ k = 4 ∨ k = 5 ∨ k = 6 := by omega
      rcases this with rfl | rfl | rfl | rfl | rfl | rfl | rfl
      · have e1 : wrow 0 = [[], [], [], [], [], [], [], [], [], []] := rfl
        have e2 : rrow (0 : Nat) = [] := by decide
        rw [e1, e2]; simp [firstOf, hl']
      · have e1 : wrow 1 = [[], [114, 101, 103, 105, 115, 116, 101, 114], [99, 111, 117, 110, 116, 101, 114], [113, 117, 101, 117, 101], [109, 97, 112], [], [], [], [], []] := rfl
        have e2 : rrow (1 : Nat) = [[114, 101, 103, 105, 115, 116, 101, 114], [99, 111, 117, 110, 116, 101, 114], [113, 117, 101, 117, 101], [109, 97, 112]] := by decide
        rw [e1, e2]; simp only [firstOf, hl', if_false]
      · have e1 : wrow 2 = [[], [98, 101, 103, 105, 110], [99, 97, 108, 108], [114, 101, 116, 117, 114, 110], [116, 114, 121], [99, 111, 109, 109, 105, 116], [97, 98, 111, 114, 116], [99, 97, 110, 99, 101, 108], [], []] := rfl
        have e2 : rrow (2 : Nat) = [[98, 101, 103, 105, 110], [99, 97, 108, 108], [114, 101, 116, 117, 114, 110], [116, 114, 121], [99, 111, 109, 109, 105, 116], [97, 98, 111, 114, 116], [99, 97, 110, 99, 101, 108]] := by decide
        rw [e1, e2]; simp only [firstOf, hl', if_false]
      · have e1 : wrow 3 = [[], [114, 101, 97, 100], [119, 114, 105, 116, 101], [97, 100, 100], [103, 101, 116], [101, 110, 113], [100, 101, 113], [112, 117, 116], [108, 111, 111, 107], [100, 101, 108]] := rfl
        have e2 : rrow (3 : Nat) = [[114, 101, 97, 100], [119, 114, 105, 116, 101], [97, 100, 100], [103, 101, 116], [101, 110, 113], [100, 101, 113], [112, 117, 116], [108, 111, 111, 107], [100, 101, 108]] := by decide
        rw [e1, e2]; simp only [firstOf, hl', if_false]
      · have e1 : wrow 4 = [[], [111, 107], [110, 111, 110, 101], [118, 97, 108], [], [], [], [], [], []] := rfl
        have e2 : rrow (4 : Nat) = [[111, 107], [110, 111, 110, 101], [118, 97, 108]] := by decide
        rw [e1, e2]; simp only [firstOf, hl', if_false]
      · have e1 : wrow 5 = [[], [108, 105, 118, 101], [112, 101, 110, 100, 105, 110, 103], [99, 111, 109, 109, 105, 116, 116, 101, 100], [97, 98, 111, 114, 116, 101, 100], [], [], [], [], []] := rfl
        have e2 : rrow (5 : Nat) = [[108, 105, 118, 101], [112, 101, 110, 100, 105, 110, 103], [99, 111, 109, 109, 105, 116, 116, 101, 100], [97, 98, 111, 114, 116, 101, 100]] := by decide
        rw [e1, e2]; simp only [firstOf, hl', if_false]
      · have e1 : wrow 6 = [[], [115, 101, 114, 105, 97, 108], [115, 116, 114, 105, 99, 116], [102, 105, 110, 97, 108], [111, 112, 97, 113, 117, 101], [], [], [], [], []] := rfl
        have e2 : rrow (6 : Nat) = [[115, 101, 114, 105, 97, 108], [115, 116, 114, 105, 99, 116], [102, 105, 110, 97, 108], [111, 112, 97, 113, 117, 101]] := by decide
        rw [e1, e2]; simp only [firstOf, hl', if_false]

theorem firstOf_drop {l : List UInt8} {r : List (List UInt8)} {k j : Nat} (hk : k < r.length) : firstOf l j (r.drop k) = if r.getD k [] = l then some j else firstOf l (j + 1) (r.drop (k + 1)) := by
  rw [List.drop_eq_getElem_cons hk, firstOf]
  simp [hk]

set_option maxHeartbeats 1000000 in
theorem refCode_any (t : Int) (l : List UInt8) (w : World) : Calls Tryd.prog 8 #[.int .i64 t, tv l] w fun e w' => e = .returned (.int .i64 (((codeL t l).getD 0 : Nat) : Int)) ∧ Hid (Below w.heap.size w w') := by
  have Hw := Lib.hid (refw_any t w)
  have hlen := rrow_len t
  obtain ⟨R, hR⟩ : ∃ R, R = codeL t l := ⟨_, rfl⟩
  rw [← hR]
  rw [codeL_ref] at hR
  have HR := Lib.hid hR
  unfold WordsIs at Hw
  generalize rrow t = r at *
  clear hR
  go_enter Tryd.func8, Tryd.ntmps8
  go_wp2_with (first | (go_at_call 26; refine Hw.out.mono ?_; rintro e w1 ⟨a, cp, rfl, hb⟩))
  go_loopw [6] (fun i wr => ∃ k : Nat, k ≤ r.length ∧ i = .int .i64 k ∧ Hid (wr = w1) ∧ Hid (R = firstOf l (k + 1) (r.drop k))) (fun i _ => r.length - (intOf i).toNat)
  case atStart => exact ⟨0, Nat.zero_le _, rfl, rfl, HR.out⟩
  case round =>
    obtain ⟨k, hk, rfl, hw, HD⟩ := hrel
    have hw' := hw.out
    subst hw'
    by_cases hlt : k < r.length
    · obtain ⟨b, off, rfl, hcell⟩ : ∃ b off, a = some ⟨b, off, none⟩ ∧ wr.cell? ⟨b, off + k, none⟩ = some (tv (r.getD k [])) := by
        rcases hb.out.1 with h | ⟨b, off, h, hc⟩
        · subst h; simp at hlt
        · exact ⟨b, off, h, hc k hlt⟩
      have hD := HD.out
      rw [firstOf_drop hlt] at hD
      have HD2 := Lib.hid hD
      have hteq := tv_eq (r.getD k []) l
      obtain ⟨x, hx⟩ : ∃ x, x = r.getD k [] := ⟨_, rfl⟩
      rw [← hx] at hcell HD2 hteq
      clear hx hD
      by_cases he : x = l
      · have b0 : (x == l) = true := by simpa using he
        have HR' : Hid (R = some (k + 1)) := by show _ = _; rw [HD2.out, if_pos he]
        clear he hteq
        go_wp2
        go_ret
        exact ⟨by rw [HR'.out]; rfl, hb.out.2⟩
      · have b0 : (x == l) = false := by simpa using he
        have HR' : Hid (R = firstOf l (k + 1 + 1) (r.drop (k + 1))) := by show _ = _; rw [HD2.out, if_neg he]
        clear he hteq
        go_wp2
        go_roundw
        case rel => exact ⟨k + 1, by omega, by go_num, trivial, HR'.out⟩
        case measure => simp [intOf]; omega
    · have hke : k = r.length := by omega
      have HR' : Hid (R = none) := by show _ = _; rw [HD.out, hke, List.drop_length]; rfl
      clear HD
      subst hke
      go_wp2
      go_ret
      exact ⟨by rw [HR'.out]; rfl, hb.out.2⟩

set_option maxHeartbeats 4000000 in
theorem refOf_any (op : Int) (w : World) : Calls Tryd.prog 10 #[.int .i64 op] w fun e w' => e = .returned (.int .i64 (ofZ op)) ∧ Hid (Below w.heap.size w w') := by
  have hal : Below w.heap.size w (w.alloc (.cells #[.int .i64 0, .int .i64 1, .int .i64 1, .int .i64 2, .int .i64 2, .int .i64 3, .int .i64 3, .int .i64 4, .int .i64 4, .int .i64 4] 3)) := (Below.refl _ _).alloc (Nat.le_refl _) _
  have Hal := Lib.hid hal
  clear hal
  rcases ten op with h | h | h | h | h | h | h | h | h | h
  iterate 9
    · subst h
      go_enter Tryd.func10, Tryd.ntmps10
      go_wp2
      go_ret
      exact ⟨rfl, Hal.out⟩
  · have hz := Lib.hid (ofZ_no (noOp h))
    by_cases h1 : op < 1
    · clear h
      go_enter Tryd.func10, Tryd.ntmps10
      go_wp2
      go_ret
      exact ⟨by rw [hz.out]; rfl, Hal.out⟩
    · have h2 : 9 < op := by omega
      clear h
      go_enter Tryd.func10, Tryd.ntmps10
      go_wp2
      go_ret
      exact ⟨by rw [hz.out]; rfl, Hal.out⟩

set_option maxHeartbeats 1000000 in
theorem refKeyed_any (op : Int) (w : World) : Calls Tryd.prog 12 #[.int .i64 op] w fun e w' => e = .returned (.bool (keyedZ op)) ∧ w = w' := by
  rcases ten op with h | h | h | h | h | h | h | h | h | h
  iterate 9
    · subst h
      go_enter Tryd.func12, Tryd.ntmps12
      go_wp2
      go_ret
      exact ⟨rfl, rfl⟩
  · obtain ⟨h1, h2, h3, h4, h5, h6, h7, h8, h9⟩ := noOp h
    have hz := Lib.hid (keyedZ_no (noOp h))
    clear h
    go_enter Tryd.func12, Tryd.ntmps12
    go_wp2
    go_ret
    exact ⟨by rw [hz.out]; rfl, rfl⟩
set_option maxHeartbeats 1000000 in
theorem refValued_any (op : Int) (w : World) : Calls Tryd.prog 14 #[.int .i64 op] w fun e w' => e = .returned (.bool (valuedZ op)) ∧ w = w' := by
  rcases ten op with h | h | h | h | h | h | h | h | h | h
  iterate 9
    · subst h
      go_enter Tryd.func14, Tryd.ntmps14
      go_wp2
      go_ret
      exact ⟨rfl, rfl⟩
  · obtain ⟨h1, h2, h3, h4, h5, h6, h7, h8, h9⟩ := noOp h
    have hz := Lib.hid (valuedZ_no (noOp h))
    clear h
    go_enter Tryd.func14, Tryd.ntmps14
    go_wp2
    go_ret
    exact ⟨by rw [hz.out]; rfl, rfl⟩
set_option maxHeartbeats 4000000 in
theorem refFits_any (op r : Int) (w : World) : Calls Tryd.prog 16 #[.int .i64 op, .int .i64 r] w fun e w' => e = .returned (.bool (fitsZ op r)) ∧ w = w' := by
  have Hv := Lib.hid (refValued_any op w)
  rcases ten op with h | h | h | h | h | h | h | h | h | h
  iterate 9
    · subst h
      have Hv' : Hid (Calls Tryd.prog 14 #[.int .i64 _] w fun e w' => e = .returned (.bool _) ∧ w = w') := Hv
      go_enter Tryd.func16, Tryd.ntmps16
      go_wp2_with (first | (go_at_call 14; refine Hv.out.mono ?_; rintro e w' ⟨rfl, rfl⟩; rw [show valuedZ _ = _ from by first | (exact (show valuedZ 1 = false from rfl)) | (exact (show valuedZ 2 = true from rfl)) | (exact (show valuedZ 3 = true from rfl)) | (exact (show valuedZ 4 = false from rfl)) | (exact (show valuedZ 5 = true from rfl)) | (exact (show valuedZ 6 = false from rfl)) | (exact (show valuedZ 7 = true from rfl)) | (exact (show valuedZ 8 = false from rfl)) | (exact (show valuedZ 9 = false from rfl))]))
      all_goals
        go_ret
        refine ⟨?_, rfl⟩
        simp_all [fitsZ, valuedZ] <;> exact Bool.or_comm _ _
  · obtain ⟨h1, h2, h3, h4, h5, h6, h7, h8, h9⟩ := noOp h
    have hz := Lib.hid (fitsZ_no r (noOp h))
    have hv := valuedZ_no (noOp h)
    rw [hv] at Hv
    clear h hv
    go_enter Tryd.func16, Tryd.ntmps16
    go_wp2_with (first | (go_at_call 14; refine Hv.out.mono ?_; rintro e w' ⟨rfl, rfl⟩))
    go_ret
    exact ⟨by rw [hz.out]; rfl, rfl⟩
end Go.Proofs.YtciajjjigigidaaDoor
