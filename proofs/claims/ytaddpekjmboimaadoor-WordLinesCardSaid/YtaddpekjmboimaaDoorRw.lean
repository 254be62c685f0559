/- The document's words of a line, and its bytes of a number, by contracts. -/
import Derived.Test.YtaddpekjmboimaaDoorWk
namespace Go.Proofs.YtaddpekjmboimaaDoor
open Go.RowKit Go.Maps Go.WideMaps Go.WideElems Go.ChangeShapes Go.WideShapes

theorem infoS : (Tryd.prog.info? 9).map (fun i => (i.zero, i.size, i.bytes)) = some (some (.string ⟨#[]⟩), 1, 16) := by kernel_rfl
theorem under22 : Tryd.prog.underlying 22 = some (.slice 9) := by kernel_rfl

/-- What the loop over a line has laid. -/
structure WRel (w0 : World) (l : List UInt8) (f k : Nat) (v : Value) (acc : List (List UInt8)) (wr : World) : Prop where
  own : wr.ownsRow w0.heap.size 9 1 v acc.length (tc acc)
  below : Below w0.heap.size w0 wr
  le : acc.length ≤ k
  mid : k ≤ l.length → f ≤ k ∧ acc ++ wordsGo (pieceW l f k) (l.drop k) = wordsL l
  fin : k = l.length + 1 → acc = wordsL l

theorem WRel.start (w : World) (l : List UInt8) : WRel w l 0 0 (.slice none 0 0) [] w := ⟨World.ownsRow_nil _ _ _ _, Below.refl _ _, Nat.le_refl _, fun _ => ⟨Nat.le_refl _, by simp [pieceW, wordsL]⟩, fun h => by omega⟩

theorem pieceW_len (l : List UInt8) (f k : Nat) (hk : k ≤ l.length) (h : f ≤ k) : (pieceW l f k).length = k - f := by simp [pieceW]; omega
theorem pieceW_snoc {l : List UInt8} {f k : Nat} {c : UInt8} (h : f ≤ k) (hc : l[k]? = some c) : pieceW l f (k + 1) = pieceW l f k ++ [c] := by
  rw [← pieceW_grow l f k 1 h]
  have hk : k < l.length := (List.getElem?_eq_some_iff.1 hc).1
  rw [List.drop_eq_getElem_cons hk]
  have := (List.getElem?_eq_some_iff.1 hc).2
  simp [this]

/-- A byte that is no blank. -/
theorem WRel.byte {w0 wr : World} {l : List UInt8} {f k : Nat} {v : Value} {acc : List (List UInt8)} {c : UInt8} (h : WRel w0 l f k v acc wr) (hc : l[k]? = some c) (h32 : c ≠ 32) : WRel w0 l f (k + 1) v acc wr := by
  have hk : k < l.length := (List.getElem?_eq_some_iff.1 hc).1
  obtain ⟨h1, h2⟩ := h.mid (by omega)
  refine ⟨h.own, h.below, by have := h.le; omega, fun _ => ⟨by omega, ?_⟩, fun e => by omega⟩
  rw [← h2, pieceW_snoc h1 hc, List.drop_eq_getElem_cons hk, (List.getElem?_eq_some_iff.1 hc).2, wordsGo, if_neg h32]
/-- A blank, or the end, with nothing open. -/
theorem WRel.skip {w0 wr : World} {l : List UInt8} {f k : Nat} {v : Value} {acc : List (List UInt8)} (h : WRel w0 l f k v acc wr) (hk : k ≤ l.length) (hc : k = l.length ∨ l[k]? = some 32) (hf : ¬ f < k) : WRel w0 l (k + 1) (k + 1) v acc wr := by
  obtain ⟨h1, h2⟩ := h.mid hk
  have hfk : f = k := by omega
  subst hfk
  rw [pieceW_self] at h2
  rcases hc with e | hc
  · have hd : l.drop f = [] := by rw [List.drop_eq_nil_iff]; omega
    rw [hd] at h2
    exact ⟨h.own, h.below, by have := h.le; omega, fun h' => by omega, fun _ => by simpa [wordsGo] using h2⟩
  · have hk' : f < l.length := (List.getElem?_eq_some_iff.1 hc).1
    refine ⟨h.own, h.below, by have := h.le; omega, fun _ => ⟨Nat.le_refl _, ?_⟩, fun e => by omega⟩
    rw [← h2, pieceW_self, List.drop_eq_getElem_cons hk', (List.getElem?_eq_some_iff.1 hc).2]
    simp [wordsGo]
/-- A blank, or the end, behind a word. -/
theorem WRel.word {w0 wr w1 : World} {l : List UInt8} {f k : Nat} {v v' : Value} {acc : List (List UInt8)} {o : Obj} (h : WRel w0 l f k v acc wr) (hk : k ≤ l.length) (hc : k = l.length ∨ l[k]? = some 32) (hf : f < k)
    (hown : w1.ownsRow w0.heap.size 9 1 v' (acc.length + 1) (tc acc ++ [tv (pieceW l f k)])) (hg : (wr.alloc o).grownBy w1 v.ownBlock) : WRel w0 l (k + 1) (k + 1) v' (acc ++ [pieceW l f k]) w1 := by
  obtain ⟨h1, h2⟩ := h.mid hk
  have hb : Below w0.heap.size w0 w1 := (h.below.alloc h.below.size o).grown hg (by have := h.below.size; simp; omega) (fun j e => (h.own.lt j e).1)
  have ho : w1.ownsRow w0.heap.size 9 1 v' (acc ++ [pieceW l f k]).length (tc (acc ++ [pieceW l f k])) := by simpa using hown
  have hne := pieceW_ne l f k hf hk
  have hle : (acc ++ [pieceW l f k]).length ≤ k + 1 := by have := h.le; simp; omega
  rcases hc with e | hc
  · have hd : l.drop k = [] := by rw [List.drop_eq_nil_iff]; omega
    rw [hd] at h2
    exact ⟨ho, hb, hle, fun h' => by omega, fun _ => by simpa [wordsGo, hne] using h2⟩
  · have hk' : k < l.length := (List.getElem?_eq_some_iff.1 hc).1
    refine ⟨ho, hb, hle, fun _ => ⟨Nat.le_refl _, ?_⟩, fun e => by omega⟩
    rw [← h2, pieceW_self, List.drop_eq_getElem_cons hk', (List.getElem?_eq_some_iff.1 hc).2]
    simp [wordsGo, hne]

theorem byte32 (c : UInt8) : ((c.toNat : Int) == 32) = decide (c = 32) := by
  by_cases h : c = 32
  · subst h; rfl
  · have h2 : c.toNat ≠ 32 := fun h2 => h (UInt8.toNat_inj.1 h2)
    rw [decide_eq_false h]; simp; omega

set_option maxRecDepth 100000 in
set_option maxHeartbeats 2000000 in
theorem refWords_any (s : ByteArray) (hs : s.size ≤ 1000000) (w : World) :
    Calls Tryd.prog 13 #[.string s] w fun e w' => ∃ v, e = .returned v ∧ Hid (w'.ownsRow w.heap.size 9 1 v (wordsL s.data.toList).length (tc (wordsL s.data.toList)) ∧ Below w.heap.size w w') := by
  obtain ⟨i0, hi, hz0, hz1, hz2⟩ := info_parts infoS
  have hl : s.data.toList.length = s.size := by simp
  have Hl := Lib.hid hl
  clear hl
  go_enter Tryd.func13, Tryd.ntmps13
  go_wp2
  go_loopw [3, 4, 5] (fun v f i wr => ∃ (F k : Nat) (acc : List (List UInt8)), f = .int .i64 F ∧ i = .int .i64 k ∧ F ≤ 1000001 ∧ k ≤ s.size + 1 ∧ Hid (WRel w s.data.toList F k v acc wr)) (fun _ _ i _ => s.size + 1 - (intOf i).toNat)
  case atStart => exact ⟨0, 0, [], rfl, rfl, by decide, by omega, WRel.start _ _⟩
  case round =>
    obtain ⟨F, k, acc, rfl, rfl, hF, hk, HR⟩ := hrel
    by_cases hle : k ≤ s.size
    · have hacc := HR.out.le
      have hown := HR.out.own
      have hbs := HR.out.below.size
      have hFk : F ≤ k := (HR.out.mid (by rw [Hl.out]; exact hle)).1
      have hkle : decide (k ≤ s.size) = true := by simpa using hle
      by_cases hend : k = s.size ∨ s.data.toList[k]? = some 32
      · have ht : ((k : Int) == (s.size : Int)) = true ∨ (((k : Int) == (s.size : Int)) = false ∧ k < s.size) := by
          by_cases h : k = s.size
          · left; simp; omega
          · right; exact ⟨by simp; omega, by omega⟩
        by_cases hf : F < k
        · have hfk : decide (F < k) = true := by simpa using hf
          have hpl : (s.extract F k) = ⟨(pieceW s.data.toList F k).toArray⟩ := by
            have := Lib.extract_data s F k
            rw [← arr_of (s.extract F k), this]; rfl
          have Hpl := Lib.hid hpl
          have Hf := Lib.hid hf
          have Hend := Lib.hid hend
          have hk64 : (k : Int) ≤ 1000000 := by omega
          clear hpl hf
          rcases ht with ht | ⟨ht, hlt⟩
          all_goals
            first
            | have hx : (((s[k]'(by assumption)).toNat : Int) == 32) = true := by
                rcases hend with e | e
                · exact absurd e (by omega)
                · have e2 := (List.getElem?_eq_some_iff.1 e).2
                  have e3 : s[k] = 32 := e2
                  rw [e3]; rfl
            | skip
            clear hend
            go_wp2_with (first | (at_builtin; refine wpList_append_own _ rfl _ _ 22 rfl w.heap.size 9 i0 (.string ⟨#[]⟩) 1 16 under22 hi hz0 hz1 hz2 rfl (by decide) _ _ _ rfl (hown.alloc _) ⟨wr.heap.size, 0, none⟩ 1 1 [.string (s.extract F k)] rfl rfl (cell_one_new _ _ _) (by simp [Value.oneCell']) (by unfold maxLen; omega) (by omega) (by simp; omega) ?_; intro v' w1 hown' hgrow' _))
            rw [Hpl.out] at hown'
            have HM := Lib.hid (HR.out.word (by rw [Hl.out]; exact hle) (by rw [Hl.out]; exact Hend.out) Hf.out hown' hgrow')
            clear hown hown' hgrow'
            go_wp2
            go_roundw
            case rel => exact ⟨k + 1, k + 1, _, by go_num, by go_num, by omega, by omega, HM.out⟩
            case measure => simp [intOf]; omega
        · have hfk : decide (F < k) = false := by simp; omega
          have HM := Lib.hid (HR.out.skip (by rw [Hl.out]; exact hle) (by rw [Hl.out]; exact hend) hf)
          rcases ht with ht | ⟨ht, hlt⟩
          · clear hend hf hown
            go_wp2
            go_roundw
            case rel => exact ⟨k + 1, k + 1, _, by go_num, by go_num, by omega, by omega, HM.out⟩
            case measure => simp [intOf]; omega
          · have hx : (((s[k]'hlt).toNat : Int) == 32) = true := by
              rcases hend with e | e
              · exact absurd e (by omega)
              · have e2 := (List.getElem?_eq_some_iff.1 e).2
                have e3 : s[k] = 32 := e2
                rw [e3]; rfl
            clear hend hf hown
            go_wp2
            go_roundw
            case rel => exact ⟨k + 1, k + 1, _, by go_num, by go_num, by omega, by omega, HM.out⟩
            case measure => simp [intOf]; omega
      · have hlt : k < s.size := by omega
        have hkl : k < s.data.toList.length := by rw [Hl.out]; exact hlt
        have h32 : s[k] ≠ 32 := fun e => hend (.inr (by rw [List.getElem?_eq_getElem hkl]; exact congrArg some e))
        have HM := Lib.hid (HR.out.byte (c := s[k]) (by rw [List.getElem?_eq_getElem hkl]; rfl) h32)
        have ht : ((k : Int) == (s.size : Int)) = false := by simp; omega
        have hx : (((s[k]'hlt).toNat : Int) == 32) = false := by rw [byte32, decide_eq_false h32]
        clear hend hown h32 hkl
        go_wp2
        go_roundw
        case rel => exact ⟨F, k + 1, _, by go_num, by go_num, by omega, by omega, HM.out⟩
        case measure => simp [intOf]; omega
    · have hkle : decide (k ≤ s.size) = false := by simp; omega
      have he : acc = wordsL s.data.toList := HR.out.fin (by rw [Hl.out]; omega)
      have hfin : wr.ownsRow w.heap.size 9 1 u3 (wordsL s.data.toList).length (tc (wordsL s.data.toList)) ∧ Below w.heap.size w wr := ⟨by rw [← he]; exact HR.out.own, HR.out.below⟩
      have Hfin := Lib.hid hfin
      clear hfin he
      go_wp2
      go_ret
      exact ⟨_, rfl, Hfin⟩
end Go.Proofs.YtaddpekjmboimaaDoor
