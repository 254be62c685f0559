/- The four histories that the program makes. -/
import Derived.Test.YtdemoikadojepaaSf
namespace Go.Proofs.Ytdemoikadojepaa
open Go.RowKit Go.Maps Go.WideMaps Go.WideElems Go.ChangeShapes Go.WideShapes

set_option maxHeartbeats 4000000 in
theorem stale_any (w : World) : Calls Try.prog 42 #[] w (HistRes 1 10 staleO staleE w) := by
  obtain ⟨W1, hW1, Hb1, hs1, Hr1⟩ := cells_new w #[.slice none 0 0, .slice none 0 0] 26
  obtain ⟨W2, hW2, Hb2, hs2, Hp2⟩ := cells_new W1 #[.slice none 0 0, .slice none 0 0] 60
  obtain ⟨W3, hW3, Hb3, hs3, Hq3⟩ := cells_new W2 #[.int .i64 1] 3
  have Hr3 := Lib.hid ((Hb3.out.block w.heap.size (Nat.lt_trans hs1.out hs2.out)).trans ((Hb2.out.block w.heap.size hs1.out).trans Hr1.out))
  have Hp3 := Lib.hid ((Hb3.out.block W1.heap.size hs2.out).trans Hp2.out)
  have Hb : Hid (Below w.heap.size w W3) := Hb1.out.trans ((Hb2.out.mono (Nat.le_of_lt hs1.out)).trans (Hb3.out.mono (Nat.le_of_lt (Nat.lt_trans hs1.out hs2.out))))
  clear Hb1 Hb2 Hb3 Hr1 Hp2
  go_enter Try.func42, Try.ntmps42
  go_wp2_with (first
    | (go_at_call 26; refine (objs_any W1.heap.size W2.heap.size [1] (by decide) (Nat.ne_of_gt hs2.out) 1 _ rfl W3 Hp3.out Hq3.out).mono ?_; rintro e w5 ⟨vo, rfl, h5⟩
       obtain ⟨ao, co, rfl, -, -⟩ := row_sl h5.out.2.1
       have H := Lib.hid (bd_start h5.out.1)
       have HT := Lib.hid (Told.refl W1.heap.size (.slice none 0 0) w5)
       have HR5 := Lib.hid (told_row h5.out.2.2 Hr3.out (Nat.ne_of_lt hs1.out))
       have HR := HR5
       obtain ⟨q0, q1⟩ := row_two H.out.box)
    | (go_at_call 27; refine (begin_any _ _ _ _ _ (by decide) _ _ _ _ H.out).mono ?_; rintro e w6 ⟨v6, rfl, h6⟩
       obtain ⟨a6, c6, rfl, -, -⟩ := row_sl h6.out.1.row
       replace H := Lib.hid h6.out.1
       replace HT := Lib.hid (HT.out.trans h6.out.2)
       replace HR := Lib.hid (told_row (HT.out) HR5.out (Nat.ne_of_lt hs1.out))
       clear h6
       obtain ⟨q0, q1⟩ := row_two H.out.box
       obtain ⟨⟨r0, r1⟩, r2, r3⟩ := pair_facts HR.out (.slice ao 1 co))
    | (go_at_call 28; refine (read_any _ _ _ _ _ (by decide) _ _ _ _ _ H.out).mono ?_; rintro e w6 ⟨v6, rfl, h6⟩
       obtain ⟨a6, c6, rfl, -, -⟩ := row_sl h6.out.1.row
       replace H := Lib.hid h6.out.1
       replace HT := Lib.hid (HT.out.trans h6.out.2)
       replace HR := Lib.hid (told_row (HT.out) HR5.out (Nat.ne_of_lt hs1.out))
       clear h6
       obtain ⟨q0, q1⟩ := row_two H.out.box
       obtain ⟨⟨r0, r1⟩, r2, r3⟩ := pair_facts HR.out (.slice ao 1 co))
    | (go_at_call 29; refine (write_any _ _ _ _ _ (by decide) _ _ _ _ _ H.out).mono ?_; rintro e w6 ⟨v6, rfl, h6⟩
       obtain ⟨a6, c6, rfl, -, -⟩ := row_sl h6.out.1.row
       replace H := Lib.hid h6.out.1
       replace HT := Lib.hid (HT.out.trans h6.out.2)
       replace HR := Lib.hid (told_row (HT.out) HR5.out (Nat.ne_of_lt hs1.out))
       clear h6
       obtain ⟨q0, q1⟩ := row_two H.out.box
       obtain ⟨⟨r0, r1⟩, r2, r3⟩ := pair_facts HR.out (.slice ao 1 co))
    | (go_at_call 30; refine (commit_any _ _ _ _ _ (by decide) _ _ _ H.out).mono ?_; rintro e w6 ⟨v6, rfl, h6⟩
       obtain ⟨a6, c6, rfl, -, -⟩ := row_sl h6.out.1.row
       replace H := Lib.hid h6.out.1
       replace HT := Lib.hid (HT.out.trans h6.out.2)
       replace HR := Lib.hid (told_row (HT.out) HR5.out (Nat.ne_of_lt hs1.out))
       clear h6
       obtain ⟨q0, q1⟩ := row_two H.out.box
       obtain ⟨⟨r0, r1⟩, r2, r3⟩ := pair_facts HR.out (.slice ao 1 co))
    | (go_at_call 47; refine (tell_any _ _ _ _ _ (by decide) _ _ _ _ _ _ _ _ _ _ H.out).mono ?_; rintro e w6 ⟨v6, rfl, h6⟩
       obtain ⟨a6, c6, rfl, -, -⟩ := row_sl h6.out.1.row
       replace H := Lib.hid h6.out.1
       replace HT := Lib.hid (HT.out.trans h6.out.2)
       replace HR := Lib.hid (told_row (HT.out) HR5.out (Nat.ne_of_lt hs1.out))
       clear h6
       obtain ⟨q0, q1⟩ := row_two H.out.box
       obtain ⟨⟨r0, r1⟩, r2, r3⟩ := pair_facts HR.out (.slice ao 1 co))
    | (go_at_call 48; refine (call_any _ _ _ _ _ (by decide) _ _ _ _ _ _ _ _ _ _ _ _ H.out).mono ?_; rintro e w6 ⟨v6, rfl, h6⟩
       obtain ⟨a6, c6, rfl, -, -⟩ := row_sl h6.out.1.row
       replace H := Lib.hid h6.out.1
       replace HT := Lib.hid (HT.out.trans h6.out.2)
       replace HR := Lib.hid (told_row (HT.out) HR5.out (Nat.ne_of_lt hs1.out))
       clear h6
       obtain ⟨q0, q1⟩ := row_two H.out.box
       obtain ⟨⟨r0, r1⟩, r2, r3⟩ := pair_facts HR.out (.slice ao 1 co)))
  have Hend := Lib.hid (hist_end Hb.out (Nat.le_refl _) (Nat.lt_trans hs1.out (Nat.lt_trans hs2.out hs3.out)) (Nat.le_of_lt hs1.out) h5.out.2.1 h5.out.2.2 H.out HT.out (Nat.lt_trans hs2.out hs3.out))
  refine bodyPost_ret (results_cell_row rfl _ _ w.heap.size 26 #[.slice ao 1 co, .slice a6 10 c6] (0, 0) _ rfl (set_pair HR.out) Try.underlying26 rfl (by kernel_rfl)) rfl ?_
  exact ⟨_, _, rfl, Hend.out⟩

set_option maxHeartbeats 4000000 in
theorem torn_any (w : World) : Calls Try.prog 43 #[] w (HistRes 2 14 tornO tornE w) := by
  obtain ⟨W1, hW1, Hb1, hs1, Hr1⟩ := cells_new w #[.slice none 0 0, .slice none 0 0] 26
  obtain ⟨W2, hW2, Hb2, hs2, Hp2⟩ := cells_new W1 #[.slice none 0 0, .slice none 0 0] 60
  obtain ⟨W3, hW3, Hb3, hs3, Hq3⟩ := cells_new W2 #[.int .i64 1, .int .i64 1] 3
  have Hr3 := Lib.hid ((Hb3.out.block w.heap.size (Nat.lt_trans hs1.out hs2.out)).trans ((Hb2.out.block w.heap.size hs1.out).trans Hr1.out))
  have Hp3 := Lib.hid ((Hb3.out.block W1.heap.size hs2.out).trans Hp2.out)
  have Hb : Hid (Below w.heap.size w W3) := Hb1.out.trans ((Hb2.out.mono (Nat.le_of_lt hs1.out)).trans (Hb3.out.mono (Nat.le_of_lt (Nat.lt_trans hs1.out hs2.out))))
  clear Hb1 Hb2 Hb3 Hr1 Hp2
  go_enter Try.func43, Try.ntmps43
  go_wp2_with (first
    | (go_at_call 26; refine (objs_any W1.heap.size W2.heap.size [1, 1] (by decide) (Nat.ne_of_gt hs2.out) 2 _ rfl W3 Hp3.out Hq3.out).mono ?_; rintro e w5 ⟨vo, rfl, h5⟩
       obtain ⟨ao, co, rfl, -, -⟩ := row_sl h5.out.2.1
       have H := Lib.hid (bd_start h5.out.1)
       have HT := Lib.hid (Told.refl W1.heap.size (.slice none 0 0) w5)
       have HR5 := Lib.hid (told_row h5.out.2.2 Hr3.out (Nat.ne_of_lt hs1.out))
       have HR := HR5
       obtain ⟨q0, q1⟩ := row_two H.out.box)
    | (go_at_call 27; refine (begin_any _ _ _ _ _ (by decide) _ _ _ _ H.out).mono ?_; rintro e w6 ⟨v6, rfl, h6⟩
       obtain ⟨a6, c6, rfl, -, -⟩ := row_sl h6.out.1.row
       replace H := Lib.hid h6.out.1
       replace HT := Lib.hid (HT.out.trans h6.out.2)
       replace HR := Lib.hid (told_row (HT.out) HR5.out (Nat.ne_of_lt hs1.out))
       clear h6
       obtain ⟨q0, q1⟩ := row_two H.out.box
       obtain ⟨⟨r0, r1⟩, r2, r3⟩ := pair_facts HR.out (.slice ao 2 co))
    | (go_at_call 28; refine (read_any _ _ _ _ _ (by decide) _ _ _ _ _ H.out).mono ?_; rintro e w6 ⟨v6, rfl, h6⟩
       obtain ⟨a6, c6, rfl, -, -⟩ := row_sl h6.out.1.row
       replace H := Lib.hid h6.out.1
       replace HT := Lib.hid (HT.out.trans h6.out.2)
       replace HR := Lib.hid (told_row (HT.out) HR5.out (Nat.ne_of_lt hs1.out))
       clear h6
       obtain ⟨q0, q1⟩ := row_two H.out.box
       obtain ⟨⟨r0, r1⟩, r2, r3⟩ := pair_facts HR.out (.slice ao 2 co))
    | (go_at_call 29; refine (write_any _ _ _ _ _ (by decide) _ _ _ _ _ H.out).mono ?_; rintro e w6 ⟨v6, rfl, h6⟩
       obtain ⟨a6, c6, rfl, -, -⟩ := row_sl h6.out.1.row
       replace H := Lib.hid h6.out.1
       replace HT := Lib.hid (HT.out.trans h6.out.2)
       replace HR := Lib.hid (told_row (HT.out) HR5.out (Nat.ne_of_lt hs1.out))
       clear h6
       obtain ⟨q0, q1⟩ := row_two H.out.box
       obtain ⟨⟨r0, r1⟩, r2, r3⟩ := pair_facts HR.out (.slice ao 2 co))
    | (go_at_call 30; refine (commit_any _ _ _ _ _ (by decide) _ _ _ H.out).mono ?_; rintro e w6 ⟨v6, rfl, h6⟩
       obtain ⟨a6, c6, rfl, -, -⟩ := row_sl h6.out.1.row
       replace H := Lib.hid h6.out.1
       replace HT := Lib.hid (HT.out.trans h6.out.2)
       replace HR := Lib.hid (told_row (HT.out) HR5.out (Nat.ne_of_lt hs1.out))
       clear h6
       obtain ⟨q0, q1⟩ := row_two H.out.box
       obtain ⟨⟨r0, r1⟩, r2, r3⟩ := pair_facts HR.out (.slice ao 2 co))
    | (go_at_call 47; refine (tell_any _ _ _ _ _ (by decide) _ _ _ _ _ _ _ _ _ _ H.out).mono ?_; rintro e w6 ⟨v6, rfl, h6⟩
       obtain ⟨a6, c6, rfl, -, -⟩ := row_sl h6.out.1.row
       replace H := Lib.hid h6.out.1
       replace HT := Lib.hid (HT.out.trans h6.out.2)
       replace HR := Lib.hid (told_row (HT.out) HR5.out (Nat.ne_of_lt hs1.out))
       clear h6
       obtain ⟨q0, q1⟩ := row_two H.out.box
       obtain ⟨⟨r0, r1⟩, r2, r3⟩ := pair_facts HR.out (.slice ao 2 co))
    | (go_at_call 48; refine (call_any _ _ _ _ _ (by decide) _ _ _ _ _ _ _ _ _ _ _ _ H.out).mono ?_; rintro e w6 ⟨v6, rfl, h6⟩
       obtain ⟨a6, c6, rfl, -, -⟩ := row_sl h6.out.1.row
       replace H := Lib.hid h6.out.1
       replace HT := Lib.hid (HT.out.trans h6.out.2)
       replace HR := Lib.hid (told_row (HT.out) HR5.out (Nat.ne_of_lt hs1.out))
       clear h6
       obtain ⟨q0, q1⟩ := row_two H.out.box
       obtain ⟨⟨r0, r1⟩, r2, r3⟩ := pair_facts HR.out (.slice ao 2 co)))
  have Hend := Lib.hid (hist_end Hb.out (Nat.le_refl _) (Nat.lt_trans hs1.out (Nat.lt_trans hs2.out hs3.out)) (Nat.le_of_lt hs1.out) h5.out.2.1 h5.out.2.2 H.out HT.out (Nat.lt_trans hs2.out hs3.out))
  refine bodyPost_ret (results_cell_row rfl _ _ w.heap.size 26 #[.slice ao 2 co, .slice a6 14 c6] (0, 0) _ rfl (set_pair HR.out) Try.underlying26 rfl (by kernel_rfl)) rfl ?_
  exact ⟨_, _, rfl, Hend.out⟩

set_option maxHeartbeats 4000000 in
theorem early_any (w : World) : Calls Try.prog 44 #[] w (HistRes 1 10 earlyO earlyE w) := by
  obtain ⟨W1, hW1, Hb1, hs1, Hr1⟩ := cells_new w #[.slice none 0 0, .slice none 0 0] 26
  obtain ⟨W2, hW2, Hb2, hs2, Hp2⟩ := cells_new W1 #[.slice none 0 0, .slice none 0 0] 60
  obtain ⟨W3, hW3, Hb3, hs3, Hq3⟩ := cells_new W2 #[.int .i64 1] 3
  have Hr3 := Lib.hid ((Hb3.out.block w.heap.size (Nat.lt_trans hs1.out hs2.out)).trans ((Hb2.out.block w.heap.size hs1.out).trans Hr1.out))
  have Hp3 := Lib.hid ((Hb3.out.block W1.heap.size hs2.out).trans Hp2.out)
  have Hb : Hid (Below w.heap.size w W3) := Hb1.out.trans ((Hb2.out.mono (Nat.le_of_lt hs1.out)).trans (Hb3.out.mono (Nat.le_of_lt (Nat.lt_trans hs1.out hs2.out))))
  clear Hb1 Hb2 Hb3 Hr1 Hp2
  go_enter Try.func44, Try.ntmps44
  go_wp2_with (first
    | (go_at_call 26; refine (objs_any W1.heap.size W2.heap.size [1] (by decide) (Nat.ne_of_gt hs2.out) 1 _ rfl W3 Hp3.out Hq3.out).mono ?_; rintro e w5 ⟨vo, rfl, h5⟩
       obtain ⟨ao, co, rfl, -, -⟩ := row_sl h5.out.2.1
       have H := Lib.hid (bd_start h5.out.1)
       have HT := Lib.hid (Told.refl W1.heap.size (.slice none 0 0) w5)
       have HR5 := Lib.hid (told_row h5.out.2.2 Hr3.out (Nat.ne_of_lt hs1.out))
       have HR := HR5
       obtain ⟨q0, q1⟩ := row_two H.out.box)
    | (go_at_call 27; refine (begin_any _ _ _ _ _ (by decide) _ _ _ _ H.out).mono ?_; rintro e w6 ⟨v6, rfl, h6⟩
       obtain ⟨a6, c6, rfl, -, -⟩ := row_sl h6.out.1.row
       replace H := Lib.hid h6.out.1
       replace HT := Lib.hid (HT.out.trans h6.out.2)
       replace HR := Lib.hid (told_row (HT.out) HR5.out (Nat.ne_of_lt hs1.out))
       clear h6
       obtain ⟨q0, q1⟩ := row_two H.out.box
       obtain ⟨⟨r0, r1⟩, r2, r3⟩ := pair_facts HR.out (.slice ao 1 co))
    | (go_at_call 28; refine (read_any _ _ _ _ _ (by decide) _ _ _ _ _ H.out).mono ?_; rintro e w6 ⟨v6, rfl, h6⟩
       obtain ⟨a6, c6, rfl, -, -⟩ := row_sl h6.out.1.row
       replace H := Lib.hid h6.out.1
       replace HT := Lib.hid (HT.out.trans h6.out.2)
       replace HR := Lib.hid (told_row (HT.out) HR5.out (Nat.ne_of_lt hs1.out))
       clear h6
       obtain ⟨q0, q1⟩ := row_two H.out.box
       obtain ⟨⟨r0, r1⟩, r2, r3⟩ := pair_facts HR.out (.slice ao 1 co))
    | (go_at_call 29; refine (write_any _ _ _ _ _ (by decide) _ _ _ _ _ H.out).mono ?_; rintro e w6 ⟨v6, rfl, h6⟩
       obtain ⟨a6, c6, rfl, -, -⟩ := row_sl h6.out.1.row
       replace H := Lib.hid h6.out.1
       replace HT := Lib.hid (HT.out.trans h6.out.2)
       replace HR := Lib.hid (told_row (HT.out) HR5.out (Nat.ne_of_lt hs1.out))
       clear h6
       obtain ⟨q0, q1⟩ := row_two H.out.box
       obtain ⟨⟨r0, r1⟩, r2, r3⟩ := pair_facts HR.out (.slice ao 1 co))
    | (go_at_call 30; refine (commit_any _ _ _ _ _ (by decide) _ _ _ H.out).mono ?_; rintro e w6 ⟨v6, rfl, h6⟩
       obtain ⟨a6, c6, rfl, -, -⟩ := row_sl h6.out.1.row
       replace H := Lib.hid h6.out.1
       replace HT := Lib.hid (HT.out.trans h6.out.2)
       replace HR := Lib.hid (told_row (HT.out) HR5.out (Nat.ne_of_lt hs1.out))
       clear h6
       obtain ⟨q0, q1⟩ := row_two H.out.box
       obtain ⟨⟨r0, r1⟩, r2, r3⟩ := pair_facts HR.out (.slice ao 1 co))
    | (go_at_call 47; refine (tell_any _ _ _ _ _ (by decide) _ _ _ _ _ _ _ _ _ _ H.out).mono ?_; rintro e w6 ⟨v6, rfl, h6⟩
       obtain ⟨a6, c6, rfl, -, -⟩ := row_sl h6.out.1.row
       replace H := Lib.hid h6.out.1
       replace HT := Lib.hid (HT.out.trans h6.out.2)
       replace HR := Lib.hid (told_row (HT.out) HR5.out (Nat.ne_of_lt hs1.out))
       clear h6
       obtain ⟨q0, q1⟩ := row_two H.out.box
       obtain ⟨⟨r0, r1⟩, r2, r3⟩ := pair_facts HR.out (.slice ao 1 co))
    | (go_at_call 48; refine (call_any _ _ _ _ _ (by decide) _ _ _ _ _ _ _ _ _ _ _ _ H.out).mono ?_; rintro e w6 ⟨v6, rfl, h6⟩
       obtain ⟨a6, c6, rfl, -, -⟩ := row_sl h6.out.1.row
       replace H := Lib.hid h6.out.1
       replace HT := Lib.hid (HT.out.trans h6.out.2)
       replace HR := Lib.hid (told_row (HT.out) HR5.out (Nat.ne_of_lt hs1.out))
       clear h6
       obtain ⟨q0, q1⟩ := row_two H.out.box
       obtain ⟨⟨r0, r1⟩, r2, r3⟩ := pair_facts HR.out (.slice ao 1 co)))
  have Hend := Lib.hid (hist_end Hb.out (Nat.le_refl _) (Nat.lt_trans hs1.out (Nat.lt_trans hs2.out hs3.out)) (Nat.le_of_lt hs1.out) h5.out.2.1 h5.out.2.2 H.out HT.out (Nat.lt_trans hs2.out hs3.out))
  refine bodyPost_ret (results_cell_row rfl _ _ w.heap.size 26 #[.slice ao 1 co, .slice a6 10 c6] (0, 0) _ rfl (set_pair HR.out) Try.underlying26 rfl (by kernel_rfl)) rfl ?_
  exact ⟨_, _, rfl, Hend.out⟩
end Go.Proofs.Ytdemoikadojepaa
