/- The program and the schedule that catch the third engine, as the program gives them. -/
import Derived.Test.YtdemoikadojepaaSt
namespace Go.Proofs.Ytdemoikadojepaa
open Go.RowKit Go.Maps Go.WideMaps Go.WideElems Go.ChangeShapes Go.WideShapes

set_option maxHeartbeats 8000000 in
theorem caught_any (w : World) : Calls Try.prog 17 #[] w (CaughtRes w) := by
  obtain ⟨W1, hW1, Hb1, hs1, Hx1⟩ := cells_new w #[.slice none 0 0, .slice none 0 0] 45
  obtain ⟨W2, hW2, Hb2, hs2, Hx2⟩ := cells_new W1 #[.int .i64 0, .int .i64 0] 3
  obtain ⟨W3, hW3, Hb3, hs3, Hx3⟩ := cells_new W2 #[.int .i64 2, .int .i64 0, .int .i64 1, .int .i64 2, .int .i64 1, .int .i64 1] 73
  obtain ⟨W4, hW4, Hb4, hs4, Hx4⟩ := cells_new W3 #[.slice (some ⟨W2.heap.size, 0, none⟩) 2 2] 74
  obtain ⟨W5, hW5, Hb5, hs5, Hx5⟩ := cells_new W4 #[.int .i64 1, .int .i64 0, .int .i64 0, .int .i64 1, .int .i64 1, .int .i64 0] 73
  obtain ⟨W6, hW6, Hb6, hs6, Hx6⟩ := cells_new W5 #[.slice (some ⟨W4.heap.size, 0, none⟩) 2 2] 74
  obtain ⟨W7, hW7, Hb7, hs7, Hx7⟩ := cells_new W6 #[.slice (some ⟨W3.heap.size, 0, none⟩) 1 1, .slice (some ⟨W5.heap.size, 0, none⟩) 1 1] 53
  obtain ⟨W8, hW8, Hb8, hs8, Hx8⟩ := cells_new W7 #[.slice (some ⟨W1.heap.size, 0, none⟩) 2 2, .slice (some ⟨W6.heap.size, 0, none⟩) 2 2] 45
  go_enter Try.func17, Try.ntmps17
  go_wp2
  have HR8 : Hid (W8.heap[w.heap.size]? = some (.cells #[.slice none 0 0, .slice none 0 0] 45)) := keepB Hb8.out (keepB Hb7.out (keepB Hb6.out (keepB Hb5.out (keepB Hb4.out (keepB Hb3.out (keepB Hb2.out Hx1.out))))))
  have HX8 : Hid (W8.heap[W7.heap.size]? = some (.cells #[.slice (some ⟨W1.heap.size, 0, none⟩) 2 2, .slice (some ⟨W6.heap.size, 0, none⟩) 2 2] 45)) := Hx8.out
  have HB8 : Hid (Below w.heap.size w W8) := stepB (stepB (stepB (stepB (stepB (stepB (stepB Hb1.out Hb2.out) Hb3.out) Hb4.out) Hb5.out) Hb6.out) Hb7.out) Hb8.out
  have HP8 : Hid (PgAt W1.heap.size W1.heap.size W3.heap.size W5.heap.size W2.heap.size W4.heap.size (.slice (some ⟨W6.heap.size, 0, none⟩) 2 2) W8) := by
    have h16 := stepB (stepB (stepB (stepB Hb2.out Hb3.out) Hb4.out) Hb5.out) Hb6.out
    have l6 : W1.heap.size ≤ W6.heap.size := h16.size
    refine ⟨(stepB (stepB h16 Hb7.out) Hb8.out).size, keepB Hb8.out (keepB Hb7.out (keepB Hb6.out (keepB Hb5.out (keepB Hb4.out (keepB Hb3.out Hx2.out))))), row_below ⟨rfl, .inr ⟨W6.heap.size, 2, _, rfl, l6, Hx7.out, by decide, by unfold maxLen; decide, rfl, rfl⟩⟩ Hb8.out, keepB Hb8.out (keepB Hb7.out (keepB Hb6.out (keepB Hb5.out Hx4.out))), keepB Hb8.out (keepB Hb7.out Hx6.out), keepB Hb8.out (keepB Hb7.out (keepB Hb6.out (keepB Hb5.out (keepB Hb4.out Hx3.out)))), keepB Hb8.out (keepB Hb7.out (keepB Hb6.out Hx5.out))⟩
  have hrl : Hid (w.heap.size < W8.heap.size) := Nat.lt_of_lt_of_le hs1.out (stepB (stepB (stepB (stepB (stepB (stepB Hb2.out Hb3.out) Hb4.out) Hb5.out) Hb6.out) Hb7.out) Hb8.out).size
  have hrne : Hid (w.heap.size ≠ W7.heap.size) := Nat.ne_of_lt (Nat.lt_of_lt_of_le hs1.out (stepB (stepB (stepB (stepB (stepB Hb2.out Hb3.out) Hb4.out) Hb5.out) Hb6.out) Hb7.out).size)
  have hw1 := Lib.hid hs1.out
  clear Hb1 Hb2 Hb3 Hb4 Hb5 Hb6 Hb7 Hb8 Hx1 Hx2 Hx3 Hx4 Hx5 Hx6 Hx7 Hx8 hs1 hs2 hs3 hs4 hs5 hs6 hs7 hs8
  clear hW1 hW2 hW3 hW4 hW5 hW6 hW7 hW8
  have bd : Hid (Below W8.heap.size W8 W8.drew) := (Below.refl _ W8).drew
  obtain ⟨x0, x1⟩ := row_two HX8.out
  go_region_held3 (fun w' => w'.cell? ⟨W7.heap.size, 0, none⟩ = some (.slice (some ⟨W1.heap.size, 0, none⟩) 2 2) ∧ w'.cell? ⟨W7.heap.size, 1, none⟩ = some (.slice (some ⟨W6.heap.size, 0, none⟩) 2 2)) ((first | (exact row_two (by (repeat (first | (with_reducible exact HX8.out) | (with_reducible refine keepD ?_) | (with_reducible refine keepS hrne.out ?_) | (with_reducible refine keepA _ ?_) | (with_reducible refine keepB b6.out ?_) | (with_reducible refine keepB b5.out ?_) | (with_reducible refine keepB b4.out ?_) | (with_reducible refine keepB b3.out ?_)))))))
    (first
      | (go_at_call 40; (with_reducible refine (rep_3 _ _ (by (repeat (first | (with_reducible exact HX8.out) | (with_reducible exact HR8.out) | (with_reducible refine keepE R3.out ?_; first | rfl | (simp; done)) | (with_reducible refine keepE R4.out ?_; first | rfl | (simp; done)) | (with_reducible refine keepE R5.out ?_; first | rfl | (simp; done)) | (with_reducible refine keepD ?_) | (with_reducible refine keepS hrne.out ?_) | (with_reducible refine newA _ ?_; first | rfl | (simp; done)) | (with_reducible refine keepA _ ?_) | (with_reducible refine keepB b6.out ?_) | (with_reducible refine keepB b5.out ?_) | (with_reducible refine keepB b4.out ?_) | (with_reducible refine keepB b3.out ?_))))).mono ?_); rintro e w3 ⟨rfl, h3⟩
         have R3 := Lib.hid h3.out.1
         have b3 := Lib.hid h3.out.2
         clear h3)
      | (go_at_call 40; (with_reducible refine (rep_8 _ _ (by (repeat (first | (with_reducible exact HX8.out) | (with_reducible exact HR8.out) | (with_reducible refine keepE R3.out ?_; first | rfl | (simp; done)) | (with_reducible refine keepE R4.out ?_; first | rfl | (simp; done)) | (with_reducible refine keepE R5.out ?_; first | rfl | (simp; done)) | (with_reducible refine keepD ?_) | (with_reducible refine keepS hrne.out ?_) | (with_reducible refine newA _ ?_; first | rfl | (simp; done)) | (with_reducible refine keepA _ ?_) | (with_reducible refine keepB b6.out ?_) | (with_reducible refine keepB b5.out ?_) | (with_reducible refine keepB b4.out ?_) | (with_reducible refine keepB b3.out ?_))))).mono ?_); rintro e w4 ⟨rfl, h4⟩
         have R4 := Lib.hid h4.out.1
         have b4 := Lib.hid h4.out.2
         clear h4)
      | (go_at_call 40; (with_reducible refine (rep_2 _ _ (by (repeat (first | (with_reducible exact HX8.out) | (with_reducible exact HR8.out) | (with_reducible refine keepE R3.out ?_; first | rfl | (simp; done)) | (with_reducible refine keepE R4.out ?_; first | rfl | (simp; done)) | (with_reducible refine keepE R5.out ?_; first | rfl | (simp; done)) | (with_reducible refine keepD ?_) | (with_reducible refine keepS hrne.out ?_) | (with_reducible refine newA _ ?_; first | rfl | (simp; done)) | (with_reducible refine keepA _ ?_) | (with_reducible refine keepB b6.out ?_) | (with_reducible refine keepB b5.out ?_) | (with_reducible refine keepB b4.out ?_) | (with_reducible refine keepB b3.out ?_))))).mono ?_); rintro e w5 ⟨rfl, h5⟩
         have R5 := Lib.hid h5.out.1
         have b5 := Lib.hid h5.out.2
         clear h5)
      | (go_at_call 39; (with_reducible refine (cat_3 _ _ _ _ _ (by (repeat (first | (with_reducible exact HX8.out) | (with_reducible exact HR8.out) | (with_reducible refine keepE R3.out ?_; first | rfl | (simp; done)) | (with_reducible refine keepE R4.out ?_; first | rfl | (simp; done)) | (with_reducible refine keepE R5.out ?_; first | rfl | (simp; done)) | (with_reducible refine keepD ?_) | (with_reducible refine keepS hrne.out ?_) | (with_reducible refine newA _ ?_; first | rfl | (simp; done)) | (with_reducible refine keepA _ ?_) | (with_reducible refine keepB b6.out ?_) | (with_reducible refine keepB b5.out ?_) | (with_reducible refine keepB b4.out ?_) | (with_reducible refine keepB b3.out ?_)))) (by (repeat (first | (with_reducible exact HX8.out) | (with_reducible exact HR8.out) | (with_reducible refine keepE R3.out ?_; first | rfl | (simp; done)) | (with_reducible refine keepE R4.out ?_; first | rfl | (simp; done)) | (with_reducible refine keepE R5.out ?_; first | rfl | (simp; done)) | (with_reducible refine keepD ?_) | (with_reducible refine keepS hrne.out ?_) | (with_reducible refine newA _ ?_; first | rfl | (simp; done)) | (with_reducible refine keepA _ ?_) | (with_reducible refine keepB b6.out ?_) | (with_reducible refine keepB b5.out ?_) | (with_reducible refine keepB b4.out ?_) | (with_reducible refine keepB b3.out ?_)))) (by (repeat (first | (with_reducible exact HX8.out) | (with_reducible exact HR8.out) | (with_reducible refine keepE R3.out ?_; first | rfl | (simp; done)) | (with_reducible refine keepE R4.out ?_; first | rfl | (simp; done)) | (with_reducible refine keepE R5.out ?_; first | rfl | (simp; done)) | (with_reducible refine keepD ?_) | (with_reducible refine keepS hrne.out ?_) | (with_reducible refine newA _ ?_; first | rfl | (simp; done)) | (with_reducible refine keepA _ ?_) | (with_reducible refine keepB b6.out ?_) | (with_reducible refine keepB b5.out ?_) | (with_reducible refine keepB b4.out ?_) | (with_reducible refine keepB b3.out ?_)))) (by (repeat (first | (with_reducible exact HX8.out) | (with_reducible exact HR8.out) | (with_reducible refine keepE R3.out ?_; first | rfl | (simp; done)) | (with_reducible refine keepE R4.out ?_; first | rfl | (simp; done)) | (with_reducible refine keepE R5.out ?_; first | rfl | (simp; done)) | (with_reducible refine keepD ?_) | (with_reducible refine keepS hrne.out ?_) | (with_reducible refine newA _ ?_; first | rfl | (simp; done)) | (with_reducible refine keepA _ ?_) | (with_reducible refine keepB b6.out ?_) | (with_reducible refine keepB b5.out ?_) | (with_reducible refine keepB b4.out ?_) | (with_reducible refine keepB b3.out ?_))))).mono ?_); rintro e w6 ⟨v6, rfl, h6⟩
         have b6 := Lib.hid h6.out.2
         have HW6 : Hid (Below W8.heap.size W8 w6) := by
           show Below _ _ _
           (repeat (first | exact bd.out | (with_reducible exact Below.refl _ _) | (with_reducible refine stepD ?_) | (with_reducible refine stepA ?_ _) | (with_reducible refine stepB ?_ b6.out) | (with_reducible refine stepB ?_ b5.out) | (with_reducible refine stepB ?_ b4.out) | (with_reducible refine stepB ?_ b3.out)))
         have HV6 : Hid (w6.ownsRow W8.heap.size 3 1 v6 13 (ints sched)) := row_base h6.out.1 (le_of (W := W8) (by (repeat (first | exact bd.out | (with_reducible exact Below.refl _ _) | (with_reducible refine stepD ?_) | (with_reducible refine stepA ?_ _) | (with_reducible refine stepB ?_ b6.out) | (with_reducible refine stepB ?_ b5.out) | (with_reducible refine stepB ?_ b4.out) | (with_reducible refine stepB ?_ b3.out)))))
         obtain ⟨a6, c6, rfl, -, -⟩ := row_sl h6.out.1
         obtain ⟨⟨r0, r1⟩, r2, r3⟩ := pair_facts (keepB HW6.out HR8.out) (.slice (some ⟨W1.heap.size, 0, none⟩) 2 2)
         clear h6))
  all_goals
    try clear hHeld
    go_wp2
    have Hend := Lib.hid (caught_end (x := .slice (some ⟨W1.heap.size, 0, none⟩) 2 2) (y := .slice (some ⟨W6.heap.size, 0, none⟩) 2 2) HB8.out HP8.out (Nat.le_refl _) hw1.out hrl.out HR8.out HW6.out HV6.out)
    refine bodyPost_ret (results_row_tmp rfl _ _ w.heap.size 45 #[.slice (some ⟨W1.heap.size, 0, none⟩) 2 2, .slice (some ⟨W6.heap.size, 0, none⟩) 2 2] (0, 0) _ rfl (set_pair (keepB HW6.out HR8.out)) Try.underlying45 rfl (by kernel_rfl)) rfl ?_
    exact ⟨_, _, _, _, _, _, _, rfl, Hend.out⟩
end Go.Proofs.Ytdemoikadojepaa
