/- The walk of the document's own answer: the lines of bytes. -/
import Derived.Test.YtaddpekjmboimaaDoorLm
import Derived.Test.YtaddpekjmboimaaDoorRw
import Derived.Test.YtaddpekjmboimaaDoorWk
namespace Go.Proofs.YtaddpekjmboimaaDoor
open Go.RowKit Go.Maps Go.WideMaps Go.WideElems Go.ChangeShapes Go.WideShapes

/-- What the loop over the bytes has laid. -/
structure LRel (w0 : World) (l : List UInt8) (f k : Nat) (v : Value) (acc : List (List UInt8)) (wr : World) : Prop where
  own : wr.ownsRow w0.heap.size 9 1 v acc.length (tc acc)
  below : Below w0.heap.size w0 wr
  le : acc.length ≤ k
  fk : f ≤ k
  kl : k ≤ l.length
  eq : acc ++ linesGo (pieceW l f k) (l.drop k) = linesL l

theorem LRel.start (w : World) (l : List UInt8) : LRel w l 0 0 (.slice none 0 0) [] w := ⟨World.ownsRow_nil _ _ _ _, Below.refl _ _, Nat.le_refl _, Nat.le_refl _, Nat.zero_le _, by simp [pieceW, linesL]⟩
theorem LRel.byte {w0 wr : World} {l : List UInt8} {f k : Nat} {v : Value} {acc : List (List UInt8)} {c : UInt8} (h : LRel w0 l f k v acc wr) (hc : l[k]? = some c) (hn : c ≠ 10) : LRel w0 l f (k + 1) v acc wr := by
  have hk : k < l.length := (List.getElem?_eq_some_iff.1 hc).1
  refine ⟨h.own, h.below, by have := h.le; omega, by have := h.fk; omega, hk, ?_⟩
  rw [← h.eq, pieceW_snoc h.fk hc, List.drop_eq_getElem_cons hk, (List.getElem?_eq_some_iff.1 hc).2, linesGo, if_neg hn]
theorem LRel.line {w0 wr w1 : World} {l : List UInt8} {f k : Nat} {v v' : Value} {acc : List (List UInt8)} {o : Obj} (h : LRel w0 l f k v acc wr) (hc : l[k]? = some 10)
    (hown : w1.ownsRow w0.heap.size 9 1 v' (acc.length + 1) (tc acc ++ [tv (pieceW l f k)])) (hg : (wr.alloc o).grownBy w1 v.ownBlock) : LRel w0 l (k + 1) (k + 1) v' (acc ++ [pieceW l f k]) w1 := by
  have hk : k < l.length := (List.getElem?_eq_some_iff.1 hc).1
  refine ⟨by simpa using hown, (h.below.alloc h.below.size o).grown hg (by have := h.below.size; simp; omega) (fun j e => (h.own.lt j e).1), by have := h.le; simp; omega, Nat.le_refl _, hk, ?_⟩
  rw [← h.eq, pieceW_self, List.drop_eq_getElem_cons hk, (List.getElem?_eq_some_iff.1 hc).2, linesGo, if_pos rfl]
  simp

theorem bat_sub {w : World} {b off : Nat} {l : List Nat} (h : BAt w (some ⟨b, off, none⟩) l) (f n : Nat) : BAt w (some ⟨b, off + f, none⟩) ((l.drop f).take n) := by
  rcases h with rfl | ⟨b', off', e, h⟩
  · exact .inl (by simp)
  · cases e
    refine .inr ⟨b, off + f, rfl, fun i hi => ?_⟩
    have hi' : i < n ∧ f + i < l.length := by simp at hi; omega
    rw [Nat.add_assoc, h (f + i) hi'.2]
    simp [hi'.1]
theorem sub_text (l : List Nat) (f k : Nat) : sB ((l.drop f).take (k - f)) = ⟨(pieceW (l.map UInt8.ofNat) f k).toArray⟩ := by
  unfold sB pieceW
  rw [List.map_take, List.map_drop]
theorem ten_byte {y : Nat} (h : y < 256) : UInt8.ofNat y = 10 ↔ y = 10 := by
  constructor
  · intro e
    have := congrArg UInt8.toNat e
    simp [UInt8.toNat_ofNat'] at this
    omega
  · rintro rfl; rfl

set_option maxRecDepth 100000 in
set_option maxHeartbeats 2000000 in
theorem refLines_any (a : Option Addr) (c : Nat) (lb : List Nat) (w : World) (h : BAt w a lb) (hb : ∀ x ∈ lb, x < 256) (hcap : lb.length ≤ c) (hs : lb.length ≤ 1000000) :
    Calls Tryd.prog 19 #[.slice a lb.length c] w fun e w' => ∃ v, e = .returned v ∧ Hid (w'.ownsRow w.heap.size 9 1 v (linesL (lb.map UInt8.ofNat)).length (tc (linesL (lb.map UInt8.ofNat))) ∧ Below w.heap.size w w') := by
  obtain ⟨i0, hi, hz0, hz1, hz2⟩ := info_parts infoS
  have H := Lib.hid h
  have Hb := Lib.hid hb
  have hL : (lb.map UInt8.ofNat).length = lb.length := by simp
  have HLl := Lib.hid hL
  clear h hb hL
  go_enter Tryd.func19, Tryd.ntmps19
  go_wp2
  go_loopw [4, 5, 3] (fun f i v wr => ∃ (F k : Nat) (acc : List (List UInt8)), f = .int .i64 F ∧ i = .int .i64 k ∧ F ≤ k ∧ k ≤ lb.length ∧ Hid (LRel w (lb.map UInt8.ofNat) F k v acc wr)) (fun _ i _ _ => lb.length - (intOf i).toNat)
  case atStart => exact ⟨0, 0, [], rfl, rfl, Nat.le_refl _, Nat.zero_le _, LRel.start _ _⟩
  case round =>
    obtain ⟨F, k, acc, rfl, rfl, hF, hk, HR⟩ := hrel
    have hacc := HR.out.le
    have hown := HR.out.own
    have hbs := HR.out.below.size
    by_cases hlt : k < lb.length
    · have HW := H.out.below' HR.out.below
      rcases HW with e | ⟨b, off, rfl, hcell⟩
      · rw [e] at hlt; simp at hlt
      have hck := hcell k hlt
      have hyl : lb[k]?.getD 0 < 256 := by rw [List.getElem?_eq_getElem hlt]; exact Hb.out _ (List.getElem_mem hlt)
      have hlk : (lb.map UInt8.ofNat)[k]? = some (UInt8.ofNat (lb[k]?.getD 0)) := by rw [List.getElem?_map, List.getElem?_eq_getElem hlt]; rfl
      clear hcell
      generalize lb[k]?.getD 0 = y at *
      by_cases hy : y = 10
      · subst hy
        have hcv := conv_bytes (c - F) (bat_sub (H.out.below' HR.out.below) F (k - F))
        rw [sub_text, show ((lb.drop F).take (k - F)).length = k - F by simp; omega] at hcv
        have Hlk := Lib.hid hlk
        clear hlk hyl
        go_wp2_with (first | (at_builtin; refine wpList_append_own _ rfl _ _ 22 rfl w.heap.size 9 i0 (.string ⟨#[]⟩) 1 16 under22 hi hz0 hz1 hz2 rfl (by decide) _ _ _ rfl (hown.alloc _) ⟨wr.heap.size, 0, none⟩ 1 1 [tv (pieceW (lb.map UInt8.ofNat) F k)] rfl rfl (cell_one_new _ _ _) (by simp [Value.oneCell']) (by unfold maxLen; omega) (by omega) (by simp; omega) ?_; intro v' w1 hown' hgrow' _))
        have HM := Lib.hid (HR.out.line Hlk.out hown' hgrow')
        clear hown hown' hgrow' hcv
        go_wp2
        go_roundw
        case rel => exact ⟨k + 1, k + 1, _, by go_num, by go_num, Nat.le_refl _, by omega, HM.out⟩
        case measure => simp [intOf]; omega
      · have hne : ((y : Int) == 10) = false := by simp; omega
        have HM := Lib.hid (HR.out.byte hlk (fun e => hy ((ten_byte hyl).1 e)))
        clear hlk hyl hy hown
        go_wp2
        go_roundw
        case rel => exact ⟨F, k + 1, _, by go_num, by go_num, by omega, by omega, HM.out⟩
        case measure => simp [intOf]; omega
    · have hke : k = lb.length := by omega
      subst hke
      have heq := HR.out.eq
      rw [List.drop_of_length_le (by rw [HLl.out]; exact Nat.le_refl _)] at heq
      by_cases hf : F < lb.length
      · have hd : decide (F < lb.length) = true := by simpa using hf
        rcases H.out.below' HR.out.below with e | ⟨b, off, rfl, _⟩
        · rw [e] at hf; simp at hf
        have hcv := conv_bytes (c - F) (bat_sub (H.out.below' HR.out.below) F (lb.length - F))
        rw [sub_text, show ((lb.drop F).take (lb.length - F)).length = lb.length - F by simp] at hcv
        have hne := pieceW_ne (lb.map UInt8.ofNat) F lb.length hf (by rw [HLl.out]; exact Nat.le_refl _)
        have he : linesL (lb.map UInt8.ofNat) = acc ++ [pieceW (lb.map UInt8.ofNat) F lb.length] := by rw [← heq, linesGo, if_neg hne]
        have He := Lib.hid he
        clear he heq hne
        go_wp2_with (first | (at_builtin; refine wpList_append_own _ rfl _ _ 22 rfl w.heap.size 9 i0 (.string ⟨#[]⟩) 1 16 under22 hi hz0 hz1 hz2 rfl (by decide) _ _ _ rfl (hown.alloc _) ⟨wr.heap.size, 0, none⟩ 1 1 [tv (pieceW (lb.map UInt8.ofNat) F lb.length)] rfl rfl (cell_one_new _ _ _) (by simp [Value.oneCell']) (by unfold maxLen; omega) (by omega) (by simp; omega) ?_; intro v' w1 hown' hgrow' _))
        have hfin : w1.ownsRow w.heap.size 9 1 v' (linesL (lb.map UInt8.ofNat)).length (tc (linesL (lb.map UInt8.ofNat))) ∧ Below w.heap.size w w1 := ⟨by rw [He.out]; simpa using hown', (HR.out.below.alloc HR.out.below.size _).grown hgrow' (by simp; omega) (fun j e => (hown.lt j e).1)⟩
        have Hfin := Lib.hid hfin
        clear hfin hown hown' hgrow' hcv
        go_wp2
        go_ret
        exact ⟨_, rfl, Hfin⟩
      · have hd : decide (F < lb.length) = false := by simpa using hf
        have hFe : F = lb.length := by omega
        have he : linesL (lb.map UInt8.ofNat) = acc := by rw [← heq, hFe, pieceW_self]; simp [linesGo]
        have hfin : wr.ownsRow w.heap.size 9 1 u3 (linesL (lb.map UInt8.ofNat)).length (tc (linesL (lb.map UInt8.ofNat))) ∧ Below w.heap.size w wr := ⟨by rw [he]; exact hown, HR.out.below⟩
        have Hfin := Lib.hid hfin
        clear hfin he heq hFe hown
        go_wp2
        go_ret
        exact ⟨_, rfl, Hfin⟩
end Go.Proofs.YtaddpekjmboimaaDoor
