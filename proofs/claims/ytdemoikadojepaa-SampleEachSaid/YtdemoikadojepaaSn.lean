/- Wide of the program and of the document, by contracts. -/
import Derived.Test.YtdemoikadojepaaSm
namespace Go.Proofs.Ytdemoikadojepaa
open Go.RowKit Go.Maps Go.WideMaps Go.WideElems Go.ChangeShapes Go.WideShapes

/-- The events of a wide history. -/
def wideE : Nat → List Int
  | 0 => []
  | k + 1 => wideE k ++ [1, (k : Int) + 1, 0, 0, 0, 0, 0, 0] ++ [2, (k : Int) + 1, 0, 0, 1, 0, 0, 0, 3, (k : Int) + 1, 0, 0, 0, 0, (k : Int), 3] ++ [2, (k : Int) + 1, 0, 0, 2, 0, (k : Int) + 1, 0, 3, (k : Int) + 1, 0, 0, 0, 0, 0, 1] ++ [4, (k : Int) + 1, 0, 0, 0, 0, 0, 0, 5, (k : Int) + 1, 0, 0, 0, 0, 0, 0]
/-- What a number's wide history is. -/
inductive Wided : Int → Nat → Nat → List Int → List Int → Bool → Prop
  | fit (k : Nat) : k ≤ 13 → Wided k 1 (7 * k) [1, 0] (wideE k) true
  | out (n : Int) : n < 0 ∨ 13 < n → Wided n 0 0 [] [] false
theorem wided_ex (n : Int) : ∃ no m O F b, Wided n no m O F b := by
  by_cases h : n < 0 ∨ 13 < n
  · exact ⟨_, _, _, _, _, .out n h⟩
  · obtain ⟨k, rfl⟩ : ∃ k : Nat, n = k := ⟨n.toNat, by omega⟩
    exact ⟨_, _, _, _, _, .fit k (by omega)⟩
theorem Wided.small {i : Int} {no n : Nat} {O F : List Int} {b : Bool} (h : Wided i no n O F b) : no ≤ 4 ∧ n ≤ 100 := by
  cases h with
  | fit k hk => omega
  | out _ _ => decide
theorem bd_eq {p B n n' : Nat} {vo v : Value} {F F' : List Int} {w : World} (h : BdAt p B vo n F v w) (hn : n = n') (hF : F = F') : BdAt p B vo n' F' v w := by subst hn; subst hF; exact h

set_option maxHeartbeats 4000000 in
theorem wide_fit (n : Nat) (hn : n ≤ 13) (w : World) : Calls Try.prog 9 #[.int .i64 n] w (GetRes 1 (7 * n) [1, 0] (wideE n) true w) := by
  obtain ⟨W1, hW1, Hb1, hs1, Hr1⟩ := cells_new w #[.slice none 0 0, .slice none 0 0] 26
  obtain ⟨W2, hW2, Hb2, hs2, Hp2⟩ := cells_new W1 #[.slice none 0 0, .slice none 0 0] 60
  obtain ⟨W3, hW3, Hb3, hs3, Hq3⟩ := cells_new W2 #[.int .i64 1] 3
  have Hr3 := Lib.hid ((Hb3.out.block w.heap.size (Nat.lt_trans hs1.out hs2.out)).trans ((Hb2.out.block w.heap.size hs1.out).trans Hr1.out))
  have Hp3 := Lib.hid ((Hb3.out.block W1.heap.size hs2.out).trans Hp2.out)
  have Hb : Hid (Below w.heap.size w W3) := Hb1.out.trans ((Hb2.out.mono (Nat.le_of_lt hs1.out)).trans (Hb3.out.mono (Nat.le_of_lt (Nat.lt_trans hs1.out hs2.out))))
  clear Hb1 Hb2 Hb3 Hr1 Hp2
  have d1 : decide ((n : Int) < 0) = false := by simp
  have d2 : decide ((13 : Int) < (n : Int)) = false := by simp; omega
  go_enter Try.func9, Try.ntmps9
  go_wp2_with (first
    | (go_at_call 26; refine (objs_any W1.heap.size W2.heap.size [1] (by decide) (Nat.ne_of_gt hs2.out) 1 _ rfl W3 Hp3.out Hq3.out).mono ?_; rintro e w5 ⟨vo, rfl, h5⟩
       obtain ⟨ao, co, rfl, -, -⟩ := row_sl h5.out.2.1
       have H0 := Lib.hid (bd_start h5.out.1)
       have HR5 := Lib.hid (told_row h5.out.2.2 Hr3.out (Nat.ne_of_lt hs1.out))))
  clear d1 d2
  go_loopw [19] (fun i wr => ∃ (k : Nat) (v : Value), k ≤ n ∧ i = .int .i64 k ∧ Hid (BdAt W1.heap.size w5.heap.size (.slice ao 1 co) (7 * k) (wideE k) v wr ∧ Told W1.heap.size (.slice none 0 0) w5 v wr)) (fun i _ => n - (intOf i).toNat)
  case atStart => exact ⟨0, .slice none 0 0, Nat.zero_le _, rfl, H0.out, Told.refl _ _ _⟩
  case round =>
    obtain ⟨k, v, hk, rfl, HRel⟩ := hrel
    by_cases hlt : k < n
    · have H := Lib.hid HRel.out.1
      have HT := Lib.hid HRel.out.2
      clear HRel
      go_wp2_with (first
          | (go_at_call 27; refine (begin_any _ _ _ _ _ (by omega) _ _ _ _ H.out).mono ?_; rintro e w6 ⟨v6, rfl, h6⟩
             replace H := Lib.hid h6.out.1
             replace HT := Lib.hid (HT.out.trans h6.out.2)
             clear h6)
          | (go_at_call 28; refine (read_any _ _ _ _ _ (by omega) _ _ _ _ _ H.out).mono ?_; rintro e w6 ⟨v6, rfl, h6⟩
             replace H := Lib.hid h6.out.1
             replace HT := Lib.hid (HT.out.trans h6.out.2)
             clear h6)
          | (go_at_call 29; refine (write_any _ _ _ _ _ (by omega) _ _ _ _ _ H.out).mono ?_; rintro e w6 ⟨v6, rfl, h6⟩
             replace H := Lib.hid h6.out.1
             replace HT := Lib.hid (HT.out.trans h6.out.2)
             clear h6)
          | (go_at_call 30; refine (commit_any _ _ _ _ _ (by omega) _ _ _ H.out).mono ?_; rintro e w6 ⟨v6, rfl, h6⟩
             replace H := Lib.hid h6.out.1
             replace HT := Lib.hid (HT.out.trans h6.out.2)
             clear h6))
      have Hrel : Hid (BdAt W1.heap.size w5.heap.size (.slice ao 1 co) (7 * (k + 1)) (wideE (k + 1)) v6 w6 ∧ Told W1.heap.size (.slice none 0 0) w5 v6 w6) := ⟨bd_eq H.out (by omega) rfl, HT.out⟩
      clear H HT
      go_roundw
      case rel => exact ⟨k + 1, v6, by omega, by go_num, Hrel.out⟩
      case measure => simp [intOf]; omega
    · have hkn : k = n := by omega
      subst hkn
      clear hlt hk
      obtain ⟨a6, c6, rfl, -, -⟩ := row_sl HRel.out.1.row
      obtain ⟨q0, q1⟩ := row_two HRel.out.1.box
      have HR := Lib.hid (told_row HRel.out.2 HR5.out (Nat.ne_of_lt hs1.out))
      obtain ⟨⟨r0, r1⟩, r2, r3⟩ := pair_facts HR.out (.slice ao 1 co)
      go_wp2
      have Hend := Lib.hid (hist_end Hb.out (Nat.le_refl _) (Nat.lt_trans hs1.out (Nat.lt_trans hs2.out hs3.out)) (Nat.le_of_lt hs1.out) h5.out.2.1 h5.out.2.2 HRel.out.1 HRel.out.2 (Nat.lt_trans hs2.out hs3.out))
      refine bodyPost_ret (results_row_tmp rfl _ _ w.heap.size 26 #[.slice ao 1 co, .slice a6 (7 * k) c6] (0, 0) _ rfl (set_pair HR.out) Try.underlying26 rfl (by kernel_rfl)) rfl ?_
      exact ⟨_, _, rfl, Hend.out⟩

set_option maxHeartbeats 4000000 in
theorem dwide_fit (n : Nat) (hn : n ≤ 13) (w : World) : Calls Try.prog 10 #[.int .i64 n] w (GetRes 1 (7 * n) [1, 0] (wideE n) true w) := by
  obtain ⟨W1, hW1, Hb1, hs1, Hr1⟩ := cells_new w #[.slice none 0 0, .slice none 0 0] 26
  have d1 : decide ((n : Int) < 0) = false := by simp
  have d2 : decide ((13 : Int) < (n : Int)) = false := by simp; omega
  go_enter Try.func10, Try.ntmps10
  go_wp2_with fail
  clear d1 d2
  go_loopw [4, 5] (fun v i wr => ∃ (k : Nat), k ≤ n ∧ i = .int .i64 ((k : Int) + 1) ∧ Hid (wr.ownsRow W1.heap.size 41 8 v (7 * k) (ints (wideE k)) ∧ Below W1.heap.size W1 wr)) (fun _ i _ => n + 1 - (intOf i).toNat)
  case atStart => exact ⟨0, Nat.zero_le _, rfl, World.ownsRow_nil _ _ _ _, Below.refl _ _⟩
  case round =>
    obtain ⟨k, hk, rfl, HRel⟩ := hrel
    obtain ⟨v, hv⟩ : ∃ v, u4 = v := ⟨_, rfl⟩
    rw [hv] at HRel ⊢
    clear hv
    by_cases hlt : k < n
    · have H := Lib.hid HRel.out.1
      have HB := Lib.hid HRel.out.2
      clear HRel
      go_wp2_with (first
          | (go_at_call 34; refine (dbegin_any W1.heap.size _ _ _ (by omega) _ _ _ H.out HB.out.size).mono ?_; rintro e w6 ⟨v6, rfl, h6⟩
             replace HB := Lib.hid (HB.out.trans (told_below h6.out.2 H.out HB.out.size))
             replace H := Lib.hid h6.out.1
             clear h6)
          | (go_at_call 33; refine (dread_any W1.heap.size _ _ _ (by omega) _ _ _ _ H.out HB.out.size).mono ?_; rintro e w6 ⟨v6, rfl, h6⟩
             replace HB := Lib.hid (HB.out.trans (told_below h6.out.2 H.out HB.out.size))
             replace H := Lib.hid h6.out.1
             clear h6)
          | (go_at_call 32; refine (dwrite_any W1.heap.size _ _ _ (by omega) _ _ _ _ H.out HB.out.size).mono ?_; rintro e w6 ⟨v6, rfl, h6⟩
             replace HB := Lib.hid (HB.out.trans (told_below h6.out.2 H.out HB.out.size))
             replace H := Lib.hid h6.out.1
             clear h6)
          | (go_at_call 31; refine (dcommit_any W1.heap.size _ _ _ (by omega) _ _ H.out HB.out.size).mono ?_; rintro e w6 ⟨v6, rfl, h6⟩
             replace HB := Lib.hid (HB.out.trans (told_below h6.out.2 H.out HB.out.size))
             replace H := Lib.hid h6.out.1
             clear h6))
      have Hrel : Hid (w6.ownsRow W1.heap.size 41 8 v6 (7 * (k + 1)) (ints (wideE (k + 1))) ∧ Below W1.heap.size W1 w6) := ⟨row_eq H.out (by omega) rfl, HB.out⟩
      clear H HB
      go_roundw
      case rel => exact ⟨k + 1, by omega, by go_num, Hrel.out⟩
      case measure => simp [intOf]; omega
    · have hkn : k = n := by omega
      subst hkn
      clear hlt hk
      obtain ⟨a6, c6, rfl, -, -⟩ := row_sl HRel.out.1
      go_wp2_with (first
        | (go_at_call 35; refine (regs_any 1 (by decide) _).mono ?_; rintro e w8 ⟨vo, rfl, h6⟩
           obtain ⟨ao, co, rfl, -, -⟩ := row_sl h6.out.1
           have HO := Lib.hid (regs_apart h6.out HRel.out.1 HRel.out.2.size)
           have H := Lib.hid (row_below HRel.out.1 h6.out.2)
           have HB := Lib.hid (HRel.out.2.trans (h6.out.2.mono HRel.out.2.size))
           clear h6
           have HR := Lib.hid ((HB.out.block w.heap.size hs1.out).trans Hr1.out)
           obtain ⟨⟨r0, r1⟩, r2, r3⟩ := pair_facts HR.out (.slice ao 1 co)))
      have Hend := Lib.hid (dhist_end Hb1.out (Nat.le_refl _) hs1.out HO.out H.out HB.out)
      refine bodyPost_ret (results_row_tmp rfl _ _ w.heap.size 26 #[.slice ao 1 co, .slice a6 (7 * k) c6] (0, 0) _ rfl (set_pair HR.out) Try.underlying26 rfl (by kernel_rfl)) rfl ?_
      exact ⟨_, _, rfl, Hend.out⟩

set_option maxHeartbeats 1000000 in
theorem wide_out (n : Int) (h : n < 0 ∨ 13 < n) (w : World) : Calls Try.prog 9 #[.int .i64 n] w (GetRes 0 0 [] [] false w) := by
  obtain ⟨W1, hW1, Hb1, hs1, Hr1⟩ := cells_new w #[.slice none 0 0, .slice none 0 0] 26
  obtain ⟨⟨r0, r1⟩, r2, r3⟩ := pair_facts Hr1.out (.slice none 0 0)
  have Hend := Lib.hid (get_end (Nat.le_refl _) hs1.out Hb1.out (hist_nil W1) (Below.refl _ _))
  rcases h with h | h
  · have d1 : decide (n < 0) = true := by simpa using h
    clear h
    go_enter Try.func9, Try.ntmps9
    go_wp2
    refine bodyPost_ret (results_row_tmp rfl _ _ w.heap.size 26 #[.slice none 0 0, .slice none 0 0] (0, 0) _ rfl (set_pair Hr1.out) Try.underlying26 rfl (by kernel_rfl)) rfl ?_
    exact ⟨_, _, rfl, Hend.out⟩
  · have d1 : decide (n < 0) = false := by simp; omega
    have d2 : decide (13 < n) = true := by simpa using h
    clear h
    go_enter Try.func9, Try.ntmps9
    go_wp2
    refine bodyPost_ret (results_row_tmp rfl _ _ w.heap.size 26 #[.slice none 0 0, .slice none 0 0] (0, 0) _ rfl (set_pair Hr1.out) Try.underlying26 rfl (by kernel_rfl)) rfl ?_
    exact ⟨_, _, rfl, Hend.out⟩
theorem wide_any {i : Int} {no n : Nat} {O F : List Int} {b : Bool} (h : Wided i no n O F b) (w : World) : Calls Try.prog 9 #[.int .i64 i] w (GetRes no n O F b w) := by
  cases h with
  | fit k hk => exact wide_fit k hk w
  | out _ h => exact wide_out i h w

set_option maxHeartbeats 1000000 in
theorem dwide_out (n : Int) (h : n < 0 ∨ 13 < n) (w : World) : Calls Try.prog 10 #[.int .i64 n] w (GetRes 0 0 [] [] false w) := by
  obtain ⟨W1, hW1, Hb1, hs1, Hr1⟩ := cells_new w #[.slice none 0 0, .slice none 0 0] 26
  obtain ⟨⟨r0, r1⟩, r2, r3⟩ := pair_facts Hr1.out (.slice none 0 0)
  have Hend := Lib.hid (get_end (Nat.le_refl _) hs1.out Hb1.out (hist_nil W1) (Below.refl _ _))
  rcases h with h | h
  · have d1 : decide (n < 0) = true := by simpa using h
    clear h
    go_enter Try.func10, Try.ntmps10
    go_wp2
    refine bodyPost_ret (results_row_tmp rfl _ _ w.heap.size 26 #[.slice none 0 0, .slice none 0 0] (0, 0) _ rfl (set_pair Hr1.out) Try.underlying26 rfl (by kernel_rfl)) rfl ?_
    exact ⟨_, _, rfl, Hend.out⟩
  · have d1 : decide (n < 0) = false := by simp; omega
    have d2 : decide (13 < n) = true := by simpa using h
    clear h
    go_enter Try.func10, Try.ntmps10
    go_wp2
    refine bodyPost_ret (results_row_tmp rfl _ _ w.heap.size 26 #[.slice none 0 0, .slice none 0 0] (0, 0) _ rfl (set_pair Hr1.out) Try.underlying26 rfl (by kernel_rfl)) rfl ?_
    exact ⟨_, _, rfl, Hend.out⟩
theorem dwide_any {i : Int} {no n : Nat} {O F : List Int} {b : Bool} (h : Wided i no n O F b) (w : World) : Calls Try.prog 10 #[.int .i64 i] w (GetRes no n O F b w) := by
  cases h with
  | fit k hk => exact dwide_fit k hk w
  | out _ h => exact dwide_out i h w
end Go.Proofs.Ytdemoikadojepaa
