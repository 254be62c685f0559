/- Plain words on the words of a line: the runs of bytes that are no blank. No program is named. -/
import Derived.Lib.FieldsP
import Derived.Lib.SpaceUEq
import Derived.Lib.RuneCount
namespace Go.Proofs.YtciajjjigigidaaDoor
open Go

/-- The words of a line, cur being what has come of the one that is open. -/
def wordsGo (cur : List UInt8) : List UInt8 → List (List UInt8)
  | [] => if cur = [] then [] else [cur]
  | c :: l => if c = 32 then (if cur = [] then wordsGo [] l else cur :: wordsGo [] l) else wordsGo (cur ++ [c]) l
def wordsL (l : List UInt8) : List (List UInt8) := wordsGo [] l

theorem wordsGo_run : ∀ (k cur l : List UInt8), (∀ c ∈ k, c ≠ 32) → wordsGo cur (k ++ l) = wordsGo (cur ++ k) l
  | [], cur, l, _ => by simp
  | c :: k, cur, l, h => by
    rw [List.cons_append, wordsGo, if_neg (h c (List.mem_cons_self ..)), wordsGo_run k _ l (fun x hx => h x (List.mem_cons_of_mem _ hx))]
    simp

/-- No blank within what one rune takes, but a blank itself. -/
theorem rune_bytes (s : ByteArray) (pos : Nat) (h : pos < s.size) : 1 ≤ (Utf8.decode s pos).2 ∧ pos + (Utf8.decode s pos).2 ≤ s.size ∧
    ((Utf8.decode s pos).1 = 32 ∧ s.data.toList[pos]? = some 32 ∧ (Utf8.decode s pos).2 = 1 ∨ (Utf8.decode s pos).1 ≠ 32 ∧ ∀ c ∈ (s.data.toList.drop pos).take (Utf8.decode s pos).2, c ≠ 32) := by
  have hl : s.data.toList.length = s.size := by simp
  have hn : 1 ≤ s.data.toList.length - pos := by omega
  rw [Lib.decode_N]
  generalize hL : s.data.toList = L at *
  have g : ∀ j, j < L.length → L.getD j 0 = L[j]?.getD 0 := fun j _ => by simp [List.getD]
  have hle := Lib.decodeN_le_n' (L.length - pos) (L.getD pos 0).toNat (L.getD (pos + 1) 0).toNat (L.getD (pos + 2) 0).toNat (L.getD (pos + 3) 0).toNat hn
  have hge := Lib.decodeN_ge1 (L.length - pos) (L.getD pos 0).toNat (L.getD (pos + 1) 0).toNat (L.getD (pos + 2) 0).toNat (L.getD (pos + 3) 0).toNat
  refine ⟨hge, by omega, ?_⟩
  have hp0 : L[pos]? = some (L.getD pos 0) := by simp [List.getD, show pos < L.length by omega]
  by_cases ha : (L.getD pos 0).toNat < 128
  · rw [Lib.decodeN_ascii _ _ _ _ _ ha]
    by_cases hb : (L.getD pos 0).toNat = 32
    · left
      have e : L.getD pos 0 = 32 := UInt8.toNat_inj.1 hb
      exact ⟨hb, by rw [hp0, e], rfl⟩
    · right
      refine ⟨hb, fun c hc => ?_⟩
      obtain ⟨j, hj⟩ := List.mem_iff_getElem?.1 hc
      rw [List.getElem?_take] at hj
      split at hj
      · rename_i hj1
        have hj0 : j = 0 := by omega
        subst hj0
        rw [List.getElem?_drop, Nat.add_zero, hp0] at hj
        cases hj
        rintro h32
        rw [h32] at hb
        exact hb rfl
      · cases hj
  · right
    have hhigh : 128 ≤ (Lib.decodeN (L.length - pos) (L.getD pos 0).toNat (L.getD (pos + 1) 0).toNat (L.getD (pos + 2) 0).toNat (L.getD (pos + 3) 0).toNat).1 := by
      unfold Lib.decodeN
      rw [if_neg ha]
      repeat' split
      all_goals (simp only; omega)
    obtain ⟨c2, c3, c4, c5⟩ := Lib.decodeN_conts (L.length - pos) (L.getD pos 0).toNat (L.getD (pos + 1) 0).toNat (L.getD (pos + 2) 0).toNat (L.getD (pos + 3) 0).toNat
    refine ⟨by omega, fun c hc => ?_⟩
    generalize (Lib.decodeN (L.length - pos) (L.getD pos 0).toNat (L.getD (pos + 1) 0).toNat (L.getD (pos + 2) 0).toNat (L.getD (pos + 3) 0).toNat) = D at *
    obtain ⟨j, hj⟩ := List.mem_iff_getElem?.1 hc
    rw [List.getElem?_take] at hj
    split at hj
    · rename_i hj1
      rw [List.getElem?_drop] at hj
      have hlen : pos + j < L.length := (List.getElem?_eq_some_iff.1 hj).1
      have hc' : L.getD (pos + j) 0 = c := by simp [List.getD, hj]
      have hge' : 128 ≤ c.toNat := by
        rw [← hc']
        rcases (by omega : j = 0 ∨ j = 1 ∨ j = 2 ∨ j = 3) with rfl | rfl | rfl | rfl
        · simpa using ha
        · have := (c2 (by omega)).1; omega
        · have := (c3 (by omega)).1; omega
        · have := (c4 (by omega)).1; omega
      rintro rfl
      exact absurd hge' (by decide)
    · cases hj

/-- The bytes of l from a up to b. -/
def pieceW (l : List UInt8) (a b : Nat) : List UInt8 := (l.drop a).take (b - a)
def openW (l : List UInt8) (st : Option Nat) (pos : Nat) : List UInt8 := match st with | some a => pieceW l a pos | none => []
theorem pieceW_grow (l : List UInt8) (a pos k : Nat) (h : a ≤ pos) : pieceW l a pos ++ (l.drop pos).take k = pieceW l a (pos + k) := by
  unfold pieceW
  have e : l.drop pos = (l.drop a).drop (pos - a) := by rw [List.drop_drop]; congr 1; omega
  rw [e, show pos + k - a = (pos - a) + k by omega, List.take_add]
theorem pieceW_ne (l : List UInt8) (a pos : Nat) (h : a < pos) (hp : pos ≤ l.length) : pieceW l a pos ≠ [] := by
  intro h0
  have := congrArg List.length h0
  unfold pieceW at this
  rw [List.length_take, List.length_drop] at this
  simp at this
  omega
theorem pieceW_self (l : List UInt8) (a : Nat) : pieceW l a a = [] := by simp [pieceW]

def blankP (r : Nat) : Bool := decide (r = 32)

theorem spans_words (s : ByteArray) : ∀ (f pos : Nat) (st : Option Nat) (acc : List (Nat × Nat)), s.size - pos ≤ f → pos ≤ s.size → (∀ a, st = some a → a < pos) →
    (Lib.closeSpans s (Lib.spansFromP blankP s f pos st acc)).map (fun x => pieceW s.data.toList x.1 x.2) = acc.map (fun x => pieceW s.data.toList x.1 x.2) ++ wordsGo (openW s.data.toList st pos) (s.data.toList.drop pos)
  | f, pos, st, acc, hf, hp, hst => by
    have hl : s.data.toList.length = s.size := by simp
    by_cases h : pos < s.size
    · cases f with
      | zero => omega
      | succ f =>
        obtain ⟨h1, h2, h3⟩ := rune_bytes s pos h
        simp only [Lib.spansFromP, if_pos h]
        rcases h3 with ⟨hr, hb, hw⟩ | ⟨hr, hb⟩
        · have hpt : blankP (Utf8.decode s pos).1 = true := by rw [hr]; rfl
          have hd : s.data.toList.drop pos = 32 :: s.data.toList.drop (pos + 1) := by
            rw [List.drop_eq_getElem_cons (by omega : pos < s.data.toList.length)]
            congr 1
            exact (List.getElem?_eq_some_iff.1 hb).2
          rw [hw, if_pos hpt, hd]
          cases st with
          | none =>
            simp only
            rw [spans_words s f (pos + 1) none acc (by omega) (by omega) (fun a h => by cases h)]
            simp [openW, wordsGo]
          | some a =>
            simp only
            have ha := hst a rfl
            rw [spans_words s f (pos + 1) none _ (by omega) (by omega) (fun a h => by cases h)]
            have hne := pieceW_ne s.data.toList a pos ha (by omega)
            simp [openW, wordsGo, hne]
        · have hpf : blankP (Utf8.decode s pos).1 = false := by unfold blankP; simpa using hr
          generalize hk : (Utf8.decode s pos).2 = k at *
          have hd : s.data.toList.drop pos = (s.data.toList.drop pos).take k ++ s.data.toList.drop (pos + k) := by
            rw [← List.drop_drop]; exact (List.take_append_drop _ _).symm
          have hgo : ∀ cur, wordsGo cur (s.data.toList.drop pos) = wordsGo (cur ++ (s.data.toList.drop pos).take k) (s.data.toList.drop (pos + k)) := fun cur => by
            conv => lhs; rw [hd]
            exact wordsGo_run _ _ _ hb
          rw [hpf]
          simp only [Bool.false_eq_true, if_false]
          cases st with
          | none =>
            simp only
            rw [spans_words s f (pos + k) (some pos) acc (by omega) (by omega) (fun a h => by cases h; omega), hgo]
            simp [openW, pieceW]
          | some a =>
            simp only
            have ha := hst a rfl
            rw [spans_words s f (pos + k) (some a) acc (by omega) (by omega) (fun b h => by cases h; omega), hgo]
            simp only [openW]
            rw [pieceW_grow _ _ _ _ (by omega)]
    · have he : pos = s.size := by omega
      rw [Lib.spansFromP_end _ _ _ _ _ _ h]
      have hd : s.data.toList.drop pos = [] := by rw [List.drop_eq_nil_iff]; omega
      rw [hd]
      cases st with
      | none => simp [Lib.closeSpans, openW, wordsGo]
      | some a =>
        have hne := pieceW_ne s.data.toList a pos (hst a rfl) (by omega)
        rw [he] at hne
        simp [Lib.closeSpans, openW, wordsGo, he, hne]

/-- FieldsFunc at blanks tells the words. -/
theorem fields_words (s : ByteArray) : (Lib.goFieldsP blankP s).map (fun x => x.data.toList) = wordsL s.data.toList := by
  have h := spans_words s s.size 0 none [] (by omega) (Nat.zero_le _) (fun a h => by cases h)
  unfold Lib.goFieldsP Lib.spansOfP wordsL
  rw [List.map_map]
  have e : ((fun x : ByteArray => x.data.toList) ∘ fun x : Nat × Nat => s.extract x.1 x.2) = fun x => pieceW s.data.toList x.1 x.2 := by
    funext x
    simp only [Function.comp, Lib.extract_data, pieceW]
  rw [e, h]
  simp [openW]

theorem arr_of (x : ByteArray) : (⟨x.data.toList.toArray⟩ : ByteArray) = x := by cases x; simp
theorem fields_values (s : ByteArray) : (Lib.goFieldsP blankP s).map Value.string = (wordsL s.data.toList).map (fun x => Value.string ⟨x.toArray⟩) := by
  rw [← fields_words, List.map_map]
  apply List.map_congr_left
  intro x _
  simp only [Function.comp, arr_of]
theorem fields_count (s : ByteArray) : (Lib.goFieldsP blankP s).length = (wordsL s.data.toList).length := by rw [← fields_words, List.length_map]
end Go.Proofs.YtciajjjigigidaaDoor
