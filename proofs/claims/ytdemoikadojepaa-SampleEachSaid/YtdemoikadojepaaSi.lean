/- The four histories that the document makes. -/
import Derived.Test.YtdemoikadojepaaSh
namespace Go.Proofs.Ytdemoikadojepaa
open Go.RowKit Go.Maps Go.WideMaps Go.WideElems Go.ChangeShapes Go.WideShapes

theorem ints_app (a b : List Int) : ints a ++ ints b = ints (a ++ b) := List.map_append.symm
theorem regs_apart {B n no : Nat} {vo v : Value} {xs ys : List Value} {w w' : World} (h : w'.ownsRow w.heap.size 52 2 vo no xs ∧ Below w.heap.size w w') (H : w.ownsRow B 41 8 v n ys) (hB : B ≤ w.heap.size) : w'.ownsRow B 52 2 vo no xs ∧ ∀ k, vo.ownBlock = some k → v.ownBlock ≠ some k :=
  ⟨row_base h.1 hB, fun k hk e => by have h1 := (h.1.lt k hk).1; have h2 := (H.lt k e).2; omega⟩
theorem dplain_end {r b n : Nat} {F : List Int} {v : Value} {w w2 wn : World} (hb2 : Below w.heap.size w w2) (hrb : w.heap.size ≤ r) (hrl : r < b) (hb : b < w2.heap.size) (ho : w2.heap[b]? = some (.cells #[.int .i64 1, .int .i64 5, .int .i64 2, .int .i64 0, .int .i64 3, .int .i64 0, .int .i64 4, .int .i64 0] 52)) (H : wn.ownsRow w2.heap.size 41 8 v n (ints F)) (hbn : Below w2.heap.size w2 wn) :
    HistAt w.heap.size (.slice (some ⟨b, 0, none⟩) 4 4) v 4 n plainO F ((wn.setCell ⟨r, 0, none⟩ (.slice (some ⟨b, 0, none⟩) 4 4)).setCell ⟨r, 1, none⟩ v) ∧ Below w.heap.size w ((wn.setCell ⟨r, 0, none⟩ (.slice (some ⟨b, 0, none⟩) 4 4)).setCell ⟨r, 1, none⟩ v) := by
  have hend := ((hb2.trans (hbn.mono hb2.size)).setCell (p := ⟨r, 0, none⟩) hrb (.slice (some ⟨b, 0, none⟩) 4 4)).setCell (p := ⟨r, 1, none⟩) hrb v
  have hobj : wn.ownsRow b 52 2 (.slice (some ⟨b, 0, none⟩) 4 4) 4 (ints plainO) := ⟨rfl, .inr ⟨b, 4, _, rfl, Nat.le_refl _, (hbn.block b hb).trans ho, by decide, by unfold maxLen; decide, rfl, rfl⟩⟩
  have h2 : r < w2.heap.size := Nat.lt_trans hrl hb
  refine ⟨⟨hend.size, row_base (ownsRow_setCell_below (ownsRow_setCell_below hobj hrl _) hrl _) (by omega), row_base (ownsRow_setCell_below (ownsRow_setCell_below H h2 _) h2 _) hb2.size, fun k hk e => ?_⟩, hend⟩
  have h1 := (H.lt k e).1
  have h3 : b = k := by simpa [Value.ownBlock] using hk
  omega
/-- The document's history, laid into the result's box. -/
theorem dhist_end {B r no n : Nat} {O F : List Int} {vo v : Value} {w w1 wn : World} (hb1 : Below w.heap.size w w1) (hrb : w.heap.size ≤ r) (hrl : r < B) (ho : wn.ownsRow B 52 2 vo no (ints O) ∧ ∀ k, vo.ownBlock = some k → v.ownBlock ≠ some k) (H : wn.ownsRow B 41 8 v n (ints F)) (hb : Below B w1 wn) :
    HistAt w.heap.size vo v no n O F ((wn.setCell ⟨r, 0, none⟩ vo).setCell ⟨r, 1, none⟩ v) ∧ Below w.heap.size w ((wn.setCell ⟨r, 0, none⟩ vo).setCell ⟨r, 1, none⟩ v) := by
  have hwB : w.heap.size ≤ B := by omega
  have hend := ((hb1.trans (hb.mono hwB)).setCell (p := ⟨r, 0, none⟩) hrb vo).setCell (p := ⟨r, 1, none⟩) hrb v
  exact ⟨⟨hend.size, row_base (ownsRow_setCell_below (ownsRow_setCell_below ho.1 hrl _) hrl _) hwB, row_base (ownsRow_setCell_below (ownsRow_setCell_below H hrl _) hrl _) hwB, ho.2⟩, hend⟩

set_option maxHeartbeats 4000000 in
theorem dstale_any (w : World) : Calls Try.prog 22 #[] w (HistRes 1 10 staleO staleE w) := by
  obtain ⟨i0, hi, hz0, hz1, hz2⟩ := info_parts elem41
  obtain ⟨W1, hW1, Hb1, hs1, Hr1⟩ := cells_new w #[.slice none 0 0, .slice none 0 0] 26
  have H : Hid (W1.ownsRow W1.heap.size 41 8 (.slice none 0 0) 0 (ints [])) := World.ownsRow_nil W1 W1.heap.size 41 8
  have HB := Lib.hid (Below.refl W1.heap.size W1)
  go_enter Try.func22, Try.ntmps22
  go_wp2_with (first
    | (go_at_call 34; refine (dbegin_any W1.heap.size _ _ _ (by decide) _ _ _ H.out HB.out.size).mono ?_; rintro e w6 ⟨v6, rfl, h6⟩
       obtain ⟨a6, c6, rfl, -, -⟩ := row_sl h6.out.1
       try (replace HO := Lib.hid (told_other h6.out.2 HO.out.1 HO.out.2))
       replace HB := Lib.hid (HB.out.trans (told_below h6.out.2 H.out HB.out.size))
       replace H := Lib.hid h6.out.1
       clear h6
       have HR := Lib.hid ((HB.out.block w.heap.size hs1.out).trans Hr1.out)
       try (have HF := pair_facts HR.out (.slice ao 1 co); obtain ⟨⟨r0, r1⟩, r2, r3⟩ := HF))
    | (go_at_call 33; refine (dread_any W1.heap.size _ _ _ (by decide) _ _ _ _ H.out HB.out.size).mono ?_; rintro e w6 ⟨v6, rfl, h6⟩
       obtain ⟨a6, c6, rfl, -, -⟩ := row_sl h6.out.1
       try (replace HO := Lib.hid (told_other h6.out.2 HO.out.1 HO.out.2))
       replace HB := Lib.hid (HB.out.trans (told_below h6.out.2 H.out HB.out.size))
       replace H := Lib.hid h6.out.1
       clear h6
       have HR := Lib.hid ((HB.out.block w.heap.size hs1.out).trans Hr1.out)
       try (have HF := pair_facts HR.out (.slice ao 1 co); obtain ⟨⟨r0, r1⟩, r2, r3⟩ := HF))
    | (go_at_call 32; refine (dwrite_any W1.heap.size _ _ _ (by decide) _ _ _ _ H.out HB.out.size).mono ?_; rintro e w6 ⟨v6, rfl, h6⟩
       obtain ⟨a6, c6, rfl, -, -⟩ := row_sl h6.out.1
       try (replace HO := Lib.hid (told_other h6.out.2 HO.out.1 HO.out.2))
       replace HB := Lib.hid (HB.out.trans (told_below h6.out.2 H.out HB.out.size))
       replace H := Lib.hid h6.out.1
       clear h6
       have HR := Lib.hid ((HB.out.block w.heap.size hs1.out).trans Hr1.out)
       try (have HF := pair_facts HR.out (.slice ao 1 co); obtain ⟨⟨r0, r1⟩, r2, r3⟩ := HF))
    | (go_at_call 31; refine (dcommit_any W1.heap.size _ _ _ (by decide) _ _ H.out HB.out.size).mono ?_; rintro e w6 ⟨v6, rfl, h6⟩
       obtain ⟨a6, c6, rfl, -, -⟩ := row_sl h6.out.1
       try (replace HO := Lib.hid (told_other h6.out.2 HO.out.1 HO.out.2))
       replace HB := Lib.hid (HB.out.trans (told_below h6.out.2 H.out HB.out.size))
       replace H := Lib.hid h6.out.1
       clear h6
       have HR := Lib.hid ((HB.out.block w.heap.size hs1.out).trans Hr1.out)
       try (have HF := pair_facts HR.out (.slice ao 1 co); obtain ⟨⟨r0, r1⟩, r2, r3⟩ := HF))
    | (go_at_call 46; refine (dcall_any W1.heap.size _ _ _ (by decide) _ _ _ _ _ _ _ _ H.out HB.out.size).mono ?_; rintro e w6 ⟨v6, rfl, h6⟩
       obtain ⟨a6, c6, rfl, -, -⟩ := row_sl h6.out.1
       try (replace HO := Lib.hid (told_other h6.out.2 HO.out.1 HO.out.2))
       replace HB := Lib.hid (HB.out.trans (told_below h6.out.2 H.out HB.out.size))
       replace H := Lib.hid h6.out.1
       clear h6
       have HR := Lib.hid ((HB.out.block w.heap.size hs1.out).trans Hr1.out)
       try (have HF := pair_facts HR.out (.slice ao 1 co); obtain ⟨⟨r0, r1⟩, r2, r3⟩ := HF))
    | (go_at_call 35; refine (regs_any 1 (by decide) _).mono ?_; rintro e w8 ⟨vo, rfl, h6⟩
       obtain ⟨ao, co, rfl, -, -⟩ := row_sl h6.out.1
       have HO := Lib.hid (regs_apart h6.out H.out HB.out.size)
       replace H := Lib.hid (row_below H.out h6.out.2)
       replace HB := Lib.hid (HB.out.trans (h6.out.2.mono HB.out.size))
       clear h6
       have HR := Lib.hid ((HB.out.block w.heap.size hs1.out).trans Hr1.out)
       try (have HF := pair_facts HR.out (.slice ao 1 co); obtain ⟨⟨r0, r1⟩, r2, r3⟩ := HF)))
  have Hend := Lib.hid (dhist_end Hb1.out (Nat.le_refl _) hs1.out HO.out H.out HB.out)
  refine bodyPost_ret (results_cell_row rfl _ _ w.heap.size 26 #[.slice ao 1 co, .slice a6 10 c6] (0, 0) _ rfl (set_pair HR.out) Try.underlying26 rfl (by kernel_rfl)) rfl ?_
  exact ⟨_, _, rfl, Hend.out⟩

set_option maxHeartbeats 4000000 in
theorem dtorn_any (w : World) : Calls Try.prog 23 #[] w (HistRes 2 14 tornO tornE w) := by
  obtain ⟨i0, hi, hz0, hz1, hz2⟩ := info_parts elem41
  obtain ⟨W1, hW1, Hb1, hs1, Hr1⟩ := cells_new w #[.slice none 0 0, .slice none 0 0] 26
  have H : Hid (W1.ownsRow W1.heap.size 41 8 (.slice none 0 0) 0 (ints [])) := World.ownsRow_nil W1 W1.heap.size 41 8
  have HB := Lib.hid (Below.refl W1.heap.size W1)
  go_enter Try.func23, Try.ntmps23
  go_wp2_with (first
    | (go_at_call 34; refine (dbegin_any W1.heap.size _ _ _ (by decide) _ _ _ H.out HB.out.size).mono ?_; rintro e w6 ⟨v6, rfl, h6⟩
       obtain ⟨a6, c6, rfl, -, -⟩ := row_sl h6.out.1
       try (replace HO := Lib.hid (told_other h6.out.2 HO.out.1 HO.out.2))
       replace HB := Lib.hid (HB.out.trans (told_below h6.out.2 H.out HB.out.size))
       replace H := Lib.hid h6.out.1
       clear h6
       have HR := Lib.hid ((HB.out.block w.heap.size hs1.out).trans Hr1.out)
       try (have HF := pair_facts HR.out (.slice ao 2 co); obtain ⟨⟨r0, r1⟩, r2, r3⟩ := HF))
    | (go_at_call 33; refine (dread_any W1.heap.size _ _ _ (by decide) _ _ _ _ H.out HB.out.size).mono ?_; rintro e w6 ⟨v6, rfl, h6⟩
       obtain ⟨a6, c6, rfl, -, -⟩ := row_sl h6.out.1
       try (replace HO := Lib.hid (told_other h6.out.2 HO.out.1 HO.out.2))
       replace HB := Lib.hid (HB.out.trans (told_below h6.out.2 H.out HB.out.size))
       replace H := Lib.hid h6.out.1
       clear h6
       have HR := Lib.hid ((HB.out.block w.heap.size hs1.out).trans Hr1.out)
       try (have HF := pair_facts HR.out (.slice ao 2 co); obtain ⟨⟨r0, r1⟩, r2, r3⟩ := HF))
    | (go_at_call 32; refine (dwrite_any W1.heap.size _ _ _ (by decide) _ _ _ _ H.out HB.out.size).mono ?_; rintro e w6 ⟨v6, rfl, h6⟩
       obtain ⟨a6, c6, rfl, -, -⟩ := row_sl h6.out.1
       try (replace HO := Lib.hid (told_other h6.out.2 HO.out.1 HO.out.2))
       replace HB := Lib.hid (HB.out.trans (told_below h6.out.2 H.out HB.out.size))
       replace H := Lib.hid h6.out.1
       clear h6
       have HR := Lib.hid ((HB.out.block w.heap.size hs1.out).trans Hr1.out)
       try (have HF := pair_facts HR.out (.slice ao 2 co); obtain ⟨⟨r0, r1⟩, r2, r3⟩ := HF))
    | (go_at_call 31; refine (dcommit_any W1.heap.size _ _ _ (by decide) _ _ H.out HB.out.size).mono ?_; rintro e w6 ⟨v6, rfl, h6⟩
       obtain ⟨a6, c6, rfl, -, -⟩ := row_sl h6.out.1
       try (replace HO := Lib.hid (told_other h6.out.2 HO.out.1 HO.out.2))
       replace HB := Lib.hid (HB.out.trans (told_below h6.out.2 H.out HB.out.size))
       replace H := Lib.hid h6.out.1
       clear h6
       have HR := Lib.hid ((HB.out.block w.heap.size hs1.out).trans Hr1.out)
       try (have HF := pair_facts HR.out (.slice ao 2 co); obtain ⟨⟨r0, r1⟩, r2, r3⟩ := HF))
    | (go_at_call 46; refine (dcall_any W1.heap.size _ _ _ (by decide) _ _ _ _ _ _ _ _ H.out HB.out.size).mono ?_; rintro e w6 ⟨v6, rfl, h6⟩
       obtain ⟨a6, c6, rfl, -, -⟩ := row_sl h6.out.1
       try (replace HO := Lib.hid (told_other h6.out.2 HO.out.1 HO.out.2))
       replace HB := Lib.hid (HB.out.trans (told_below h6.out.2 H.out HB.out.size))
       replace H := Lib.hid h6.out.1
       clear h6
       have HR := Lib.hid ((HB.out.block w.heap.size hs1.out).trans Hr1.out)
       try (have HF := pair_facts HR.out (.slice ao 2 co); obtain ⟨⟨r0, r1⟩, r2, r3⟩ := HF))
    | (go_at_call 35; refine (regs_any 2 (by decide) _).mono ?_; rintro e w8 ⟨vo, rfl, h6⟩
       obtain ⟨ao, co, rfl, -, -⟩ := row_sl h6.out.1
       have HO := Lib.hid (regs_apart h6.out H.out HB.out.size)
       replace H := Lib.hid (row_below H.out h6.out.2)
       replace HB := Lib.hid (HB.out.trans (h6.out.2.mono HB.out.size))
       clear h6
       have HR := Lib.hid ((HB.out.block w.heap.size hs1.out).trans Hr1.out)
       try (have HF := pair_facts HR.out (.slice ao 2 co); obtain ⟨⟨r0, r1⟩, r2, r3⟩ := HF))
    | (at_builtin; refine wpList_append_lies _ rfl _ _ 24 rfl W1.heap.size 41 i0 _ 8 64 Try.underlying24 hi hz0 hz1 hz2 rfl (by decide) _ _ _ rfl (H.out.alloc _) ⟨w6.heap.size, 0, none⟩ 2 2 (ints [7, 2, 0, 0, 0, 0, 0, 0, 6, 2, 0, 0, 0, 0, 0, 0]) rfl rfl (news_new _ _ _) (ints_one _) (by decide) (by decide) (by decide) (alloc_le HB.out.size _) _ rfl ?_
       intro g7 c6 w7 hown7 hgrow7 hat7 hlt7
       have h6 := Lib.hid (doc_step H.out HB.out.size hown7 hgrow7 hat7)
       clear hown7 hgrow7 hat7 hlt7
       replace HB := Lib.hid (HB.out.trans (told_below h6.out.2 H.out HB.out.size))
       replace H := Lib.hid (row_eq h6.out.1 rfl (ints_app _ _))
       clear h6
       generalize (some (⟨g7, 0, none⟩ : Addr)) = a6 at H ⊢
       have HR := Lib.hid ((HB.out.block w.heap.size hs1.out).trans Hr1.out)
       try (have HF := pair_facts HR.out (.slice ao 2 co); obtain ⟨⟨r0, r1⟩, r2, r3⟩ := HF)))
  have Hend := Lib.hid (dhist_end Hb1.out (Nat.le_refl _) hs1.out HO.out H.out HB.out)
  refine bodyPost_ret (results_cell_row rfl _ _ w.heap.size 26 #[.slice ao 2 co, .slice a6 14 c6] (0, 0) _ rfl (set_pair HR.out) Try.underlying26 rfl (by kernel_rfl)) rfl ?_
  exact ⟨_, _, rfl, Hend.out⟩

set_option maxHeartbeats 4000000 in
theorem dearly_any (w : World) : Calls Try.prog 24 #[] w (HistRes 1 10 earlyO earlyE w) := by
  obtain ⟨i0, hi, hz0, hz1, hz2⟩ := info_parts elem41
  obtain ⟨W1, hW1, Hb1, hs1, Hr1⟩ := cells_new w #[.slice none 0 0, .slice none 0 0] 26
  have H : Hid (W1.ownsRow W1.heap.size 41 8 (.slice none 0 0) 0 (ints [])) := World.ownsRow_nil W1 W1.heap.size 41 8
  have HB := Lib.hid (Below.refl W1.heap.size W1)
  go_enter Try.func24, Try.ntmps24
  go_wp2_with (first
    | (go_at_call 34; refine (dbegin_any W1.heap.size _ _ _ (by decide) _ _ _ H.out HB.out.size).mono ?_; rintro e w6 ⟨v6, rfl, h6⟩
       obtain ⟨a6, c6, rfl, -, -⟩ := row_sl h6.out.1
       try (replace HO := Lib.hid (told_other h6.out.2 HO.out.1 HO.out.2))
       replace HB := Lib.hid (HB.out.trans (told_below h6.out.2 H.out HB.out.size))
       replace H := Lib.hid h6.out.1
       clear h6
       have HR := Lib.hid ((HB.out.block w.heap.size hs1.out).trans Hr1.out)
       try (have HF := pair_facts HR.out (.slice ao 1 co); obtain ⟨⟨r0, r1⟩, r2, r3⟩ := HF))
    | (go_at_call 33; refine (dread_any W1.heap.size _ _ _ (by decide) _ _ _ _ H.out HB.out.size).mono ?_; rintro e w6 ⟨v6, rfl, h6⟩
       obtain ⟨a6, c6, rfl, -, -⟩ := row_sl h6.out.1
       try (replace HO := Lib.hid (told_other h6.out.2 HO.out.1 HO.out.2))
       replace HB := Lib.hid (HB.out.trans (told_below h6.out.2 H.out HB.out.size))
       replace H := Lib.hid h6.out.1
       clear h6
       have HR := Lib.hid ((HB.out.block w.heap.size hs1.out).trans Hr1.out)
       try (have HF := pair_facts HR.out (.slice ao 1 co); obtain ⟨⟨r0, r1⟩, r2, r3⟩ := HF))
    | (go_at_call 32; refine (dwrite_any W1.heap.size _ _ _ (by decide) _ _ _ _ H.out HB.out.size).mono ?_; rintro e w6 ⟨v6, rfl, h6⟩
       obtain ⟨a6, c6, rfl, -, -⟩ := row_sl h6.out.1
       try (replace HO := Lib.hid (told_other h6.out.2 HO.out.1 HO.out.2))
       replace HB := Lib.hid (HB.out.trans (told_below h6.out.2 H.out HB.out.size))
       replace H := Lib.hid h6.out.1
       clear h6
       have HR := Lib.hid ((HB.out.block w.heap.size hs1.out).trans Hr1.out)
       try (have HF := pair_facts HR.out (.slice ao 1 co); obtain ⟨⟨r0, r1⟩, r2, r3⟩ := HF))
    | (go_at_call 31; refine (dcommit_any W1.heap.size _ _ _ (by decide) _ _ H.out HB.out.size).mono ?_; rintro e w6 ⟨v6, rfl, h6⟩
       obtain ⟨a6, c6, rfl, -, -⟩ := row_sl h6.out.1
       try (replace HO := Lib.hid (told_other h6.out.2 HO.out.1 HO.out.2))
       replace HB := Lib.hid (HB.out.trans (told_below h6.out.2 H.out HB.out.size))
       replace H := Lib.hid h6.out.1
       clear h6
       have HR := Lib.hid ((HB.out.block w.heap.size hs1.out).trans Hr1.out)
       try (have HF := pair_facts HR.out (.slice ao 1 co); obtain ⟨⟨r0, r1⟩, r2, r3⟩ := HF))
    | (go_at_call 46; refine (dcall_any W1.heap.size _ _ _ (by decide) _ _ _ _ _ _ _ _ H.out HB.out.size).mono ?_; rintro e w6 ⟨v6, rfl, h6⟩
       obtain ⟨a6, c6, rfl, -, -⟩ := row_sl h6.out.1
       try (replace HO := Lib.hid (told_other h6.out.2 HO.out.1 HO.out.2))
       replace HB := Lib.hid (HB.out.trans (told_below h6.out.2 H.out HB.out.size))
       replace H := Lib.hid h6.out.1
       clear h6
       have HR := Lib.hid ((HB.out.block w.heap.size hs1.out).trans Hr1.out)
       try (have HF := pair_facts HR.out (.slice ao 1 co); obtain ⟨⟨r0, r1⟩, r2, r3⟩ := HF))
    | (go_at_call 35; refine (regs_any 1 (by decide) _).mono ?_; rintro e w8 ⟨vo, rfl, h6⟩
       obtain ⟨ao, co, rfl, -, -⟩ := row_sl h6.out.1
       have HO := Lib.hid (regs_apart h6.out H.out HB.out.size)
       replace H := Lib.hid (row_below H.out h6.out.2)
       replace HB := Lib.hid (HB.out.trans (h6.out.2.mono HB.out.size))
       clear h6
       have HR := Lib.hid ((HB.out.block w.heap.size hs1.out).trans Hr1.out)
       try (have HF := pair_facts HR.out (.slice ao 1 co); obtain ⟨⟨r0, r1⟩, r2, r3⟩ := HF)))
  have Hend := Lib.hid (dhist_end Hb1.out (Nat.le_refl _) hs1.out HO.out H.out HB.out)
  refine bodyPost_ret (results_cell_row rfl _ _ w.heap.size 26 #[.slice ao 1 co, .slice a6 10 c6] (0, 0) _ rfl (set_pair HR.out) Try.underlying26 rfl (by kernel_rfl)) rfl ?_
  exact ⟨_, _, rfl, Hend.out⟩

set_option maxHeartbeats 4000000 in
theorem dplain_any (w : World) : Calls Try.prog 25 #[] w (HistRes 4 25 plainO plainE w) := by
  obtain ⟨i0, hi, hz0, hz1, hz2⟩ := info_parts elem41
  obtain ⟨W1, hW1, Hb1, hs1, Hr0⟩ := cells_new w #[.slice none 0 0, .slice none 0 0] 26
  obtain ⟨W2, hW2, Hb2, hs2, Ho2⟩ := cells_new W1 #[.int .i64 1, .int .i64 5, .int .i64 2, .int .i64 0, .int .i64 3, .int .i64 0, .int .i64 4, .int .i64 0] 52
  have Hr1 := Lib.hid ((Hb2.out.block w.heap.size hs1.out).trans Hr0.out)
  have Hb12 : Hid (Below w.heap.size w W2) := Hb1.out.trans (Hb2.out.mono (Nat.le_of_lt hs1.out))
  have hs3 : Hid (w.heap.size < W2.heap.size) := Nat.lt_trans hs1.out hs2.out
  have H : Hid (W2.ownsRow W2.heap.size 41 8 (.slice none 0 0) 0 (ints [])) := World.ownsRow_nil W2 W2.heap.size 41 8
  have HB := Lib.hid (Below.refl W2.heap.size W2)
  clear Hb1 Hb2 Hr0
  go_enter Try.func25, Try.ntmps25
  go_wp2_with (first
    | (go_at_call 34; refine (dbegin_any W2.heap.size _ _ _ (by decide) _ _ _ H.out HB.out.size).mono ?_; rintro e w6 ⟨v6, rfl, h6⟩
       obtain ⟨a6, c6, rfl, -, -⟩ := row_sl h6.out.1
       try (replace HO := Lib.hid (told_other h6.out.2 HO.out.1 HO.out.2))
       replace HB := Lib.hid (HB.out.trans (told_below h6.out.2 H.out HB.out.size))
       replace H := Lib.hid h6.out.1
       clear h6
       have HR := Lib.hid ((HB.out.block w.heap.size hs3.out).trans Hr1.out)
       try (have HF := pair_facts HR.out (.slice (some ⟨W1.heap.size, 0, none⟩) 4 4); obtain ⟨⟨r0, r1⟩, r2, r3⟩ := HF))
    | (go_at_call 33; refine (dread_any W2.heap.size _ _ _ (by decide) _ _ _ _ H.out HB.out.size).mono ?_; rintro e w6 ⟨v6, rfl, h6⟩
       obtain ⟨a6, c6, rfl, -, -⟩ := row_sl h6.out.1
       try (replace HO := Lib.hid (told_other h6.out.2 HO.out.1 HO.out.2))
       replace HB := Lib.hid (HB.out.trans (told_below h6.out.2 H.out HB.out.size))
       replace H := Lib.hid h6.out.1
       clear h6
       have HR := Lib.hid ((HB.out.block w.heap.size hs3.out).trans Hr1.out)
       try (have HF := pair_facts HR.out (.slice (some ⟨W1.heap.size, 0, none⟩) 4 4); obtain ⟨⟨r0, r1⟩, r2, r3⟩ := HF))
    | (go_at_call 32; refine (dwrite_any W2.heap.size _ _ _ (by decide) _ _ _ _ H.out HB.out.size).mono ?_; rintro e w6 ⟨v6, rfl, h6⟩
       obtain ⟨a6, c6, rfl, -, -⟩ := row_sl h6.out.1
       try (replace HO := Lib.hid (told_other h6.out.2 HO.out.1 HO.out.2))
       replace HB := Lib.hid (HB.out.trans (told_below h6.out.2 H.out HB.out.size))
       replace H := Lib.hid h6.out.1
       clear h6
       have HR := Lib.hid ((HB.out.block w.heap.size hs3.out).trans Hr1.out)
       try (have HF := pair_facts HR.out (.slice (some ⟨W1.heap.size, 0, none⟩) 4 4); obtain ⟨⟨r0, r1⟩, r2, r3⟩ := HF))
    | (go_at_call 31; refine (dcommit_any W2.heap.size _ _ _ (by decide) _ _ H.out HB.out.size).mono ?_; rintro e w6 ⟨v6, rfl, h6⟩
       obtain ⟨a6, c6, rfl, -, -⟩ := row_sl h6.out.1
       try (replace HO := Lib.hid (told_other h6.out.2 HO.out.1 HO.out.2))
       replace HB := Lib.hid (HB.out.trans (told_below h6.out.2 H.out HB.out.size))
       replace H := Lib.hid h6.out.1
       clear h6
       have HR := Lib.hid ((HB.out.block w.heap.size hs3.out).trans Hr1.out)
       try (have HF := pair_facts HR.out (.slice (some ⟨W1.heap.size, 0, none⟩) 4 4); obtain ⟨⟨r0, r1⟩, r2, r3⟩ := HF))
    | (go_at_call 46; refine (dcall_any W2.heap.size _ _ _ (by decide) _ _ _ _ _ _ _ _ H.out HB.out.size).mono ?_; rintro e w6 ⟨v6, rfl, h6⟩
       obtain ⟨a6, c6, rfl, -, -⟩ := row_sl h6.out.1
       try (replace HO := Lib.hid (told_other h6.out.2 HO.out.1 HO.out.2))
       replace HB := Lib.hid (HB.out.trans (told_below h6.out.2 H.out HB.out.size))
       replace H := Lib.hid h6.out.1
       clear h6
       have HR := Lib.hid ((HB.out.block w.heap.size hs3.out).trans Hr1.out)
       try (have HF := pair_facts HR.out (.slice (some ⟨W1.heap.size, 0, none⟩) 4 4); obtain ⟨⟨r0, r1⟩, r2, r3⟩ := HF))
    | (at_builtin; refine wpList_append_lies _ rfl _ _ 24 rfl W2.heap.size 41 i0 _ 8 64 Try.underlying24 hi hz0 hz1 hz2 rfl (by decide) _ _ _ rfl (H.out.alloc _) ⟨w6.heap.size, 0, none⟩ 1 1 (ints [4, 2, 0, 0, 0, 0, 0, 0]) rfl rfl (news_new _ _ _) (ints_one _) (by decide) (by decide) (by decide) (alloc_le HB.out.size _) _ rfl ?_
       intro g7 c6 w7 hown7 hgrow7 hat7 hlt7
       have h6 := Lib.hid (doc_step H.out HB.out.size hown7 hgrow7 hat7)
       clear hown7 hgrow7 hat7 hlt7
       replace HB := Lib.hid (HB.out.trans (told_below h6.out.2 H.out HB.out.size))
       replace H := Lib.hid (row_eq h6.out.1 rfl (ints_app _ _))
       clear h6
       generalize (some (⟨g7, 0, none⟩ : Addr)) = a6 at H ⊢
       have HR := Lib.hid ((HB.out.block w.heap.size hs3.out).trans Hr1.out)
       try (have HF := pair_facts HR.out (.slice (some ⟨W1.heap.size, 0, none⟩) 4 4); obtain ⟨⟨r0, r1⟩, r2, r3⟩ := HF)))
  have Hend := Lib.hid (dplain_end Hb12.out (Nat.le_refl _) hs1.out hs2.out Ho2.out H.out HB.out)
  refine bodyPost_ret (results_cell_row rfl _ _ w.heap.size 26 #[.slice (some ⟨W1.heap.size, 0, none⟩) 4 4, .slice a6 25 c6] (0, 0) _ rfl (set_pair HR.out) Try.underlying26 rfl (by kernel_rfl)) rfl ?_
  exact ⟨_, _, rfl, Hend.out⟩
end Go.Proofs.Ytdemoikadojepaa
