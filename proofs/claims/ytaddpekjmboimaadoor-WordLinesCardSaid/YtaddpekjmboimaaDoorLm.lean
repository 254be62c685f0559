/- Plain words on the lines of bytes, and on words joined and cut again. No program is named. -/
import Derived.Test.YtaddpekjmboimaaDoorVw
import Derived.Lib.IndexMore
import Derived.Lib.Join
namespace Go.Proofs.YtaddpekjmboimaaDoor
open Go

/-- The lines of the bytes, cur being what has come of the one that is open. -/
def linesGo (cur : List UInt8) : List UInt8 → List (List UInt8)
  | [] => if cur = [] then [] else [cur]
  | c :: l => if c = 10 then cur :: linesGo [] l else linesGo (cur ++ [c]) l
def linesL (l : List UInt8) : List (List UInt8) := linesGo [] l

theorem cut_hit (l : List UInt8) : (Lib.cut (10 :: l) [10]).1 = [] ∧ (Lib.cut (10 :: l) [10]).2.1 = l := by
  have h : Lib.index (10 :: l) [10] = 0 := by simp [Lib.index, List.isPrefixOf]
  unfold Lib.cut
  rw [h]
  simp
theorem index_step {c : UInt8} (h : c ≠ 10) (l : List UInt8) : Lib.index (c :: l) [10] = if Lib.index l [10] == -1 then -1 else Lib.index l [10] + 1 := by
  have h2 : (10 == c) = false := by simp; exact fun e => h e.symm
  rw [Lib.index]
  simp [List.isPrefixOf, h2]
theorem cut_miss {c : UInt8} (h : c ≠ 10) (l : List UInt8) : (Lib.cut (c :: l) [10]).1 = c :: (Lib.cut l [10]).1 ∧ (Lib.cut (c :: l) [10]).2.1 = (Lib.cut l [10]).2.1 := by
  have hi := index_step h l
  have hge := Lib.index_ge l [10]
  unfold Lib.cut
  by_cases hm : Lib.index l [10] = -1
  · rw [hm] at hi
    rw [hi, hm]
    simp
  · have h1 : (Lib.index l [10] == -1) = false := by simpa using hm
    rw [h1] at hi
    obtain ⟨n, hn⟩ : ∃ n : Nat, Lib.index l [10] = n := ⟨(Lib.index l [10]).toNat, by omega⟩
    rw [hn] at hi
    rw [hi, hn]
    have h2 : (0 : Int) ≤ (n : Int) + 1 := by omega
    have h3 : ((n : Int) + 1).toNat = n + 1 := by omega
    simp [h2, h3]
theorem linesGo_cut : ∀ (l cur : List UInt8), (cur ≠ [] ∨ l ≠ []) → linesGo cur l = (cur ++ (Lib.cut l [10]).1) :: linesGo [] (Lib.cut l [10]).2.1
  | [], cur, h => by
    have h : cur ≠ [] := by rcases h with h | h; exact h; exact absurd rfl h
    have e : Lib.cut [] [10] = ([], [], false) := by decide
    rw [e]
    simp [linesGo, h]
  | c :: l, cur, _ => by
    by_cases hc : c = 10
    · subst hc
      rw [(cut_hit l).1, (cut_hit l).2]
      simp [linesGo]
    · rw [(cut_miss hc l).1, (cut_miss hc l).2, linesGo, if_neg hc, linesGo_cut l (cur ++ [c]) (.inl (by simp))]
      simp
theorem lines_cut {l : List UInt8} (h : l ≠ []) : linesL l = (Lib.cut l [10]).1 :: linesL (Lib.cut l [10]).2.1 := linesGo_cut l [] (.inr h)
theorem cut_lens : ∀ l : List UInt8, l ≠ [] → (Lib.cut l [10]).1.length + (Lib.cut l [10]).2.1.length ≤ l.length ∧ (Lib.cut l [10]).2.1.length < l.length
  | [], h => absurd rfl h
  | c :: l, _ => by
    by_cases hc : c = 10
    · subst hc
      rw [(cut_hit l).1, (cut_hit l).2]
      simp
    · rw [(cut_miss hc l).1, (cut_miss hc l).2]
      by_cases hl : l = []
      · subst hl
        have e : Lib.cut [] [10] = ([], [], false) := by decide
        rw [e]; simp
      · have := cut_lens l hl
        simp; omega

/-- The lines, each with a newline. -/
def unlines (ls : List (List UInt8)) : List UInt8 := (ls.map (· ++ [10])).flatten
/-- Whether the bytes end in a newline, or there are none. -/
def whole (l : List UInt8) : Bool := l == [] || l.getLast? == some 10

theorem unlinesGo : ∀ (l cur : List UInt8), (∀ c ∈ cur, c ≠ 10) → unlines (linesGo cur l) = cur ++ l ++ (if whole (cur ++ l) then [] else [10])
  | [], cur, h => by
    by_cases hc : cur = []
    · subst hc; rfl
    · have hw : whole (cur ++ []) = false := by
        rw [List.append_nil]
        unfold whole
        have h1 : (cur == []) = false := by simpa using hc
        have h2 : (cur.getLast? == some 10) = false := by
          rw [List.getLast?_eq_some_getLast hc]
          simpa using h _ (List.getLast_mem hc)
        rw [h1, h2]; rfl
      rw [hw]
      simp [linesGo, hc, unlines]
  | c :: l, cur, h => by
    by_cases hc : c = 10
    · subst hc
      rw [linesGo, if_pos rfl]
      have ih := unlinesGo l [] (by simp)
      have e : unlines (cur :: linesGo [] l) = cur ++ [10] ++ unlines (linesGo [] l) := by simp [unlines]
      rw [e, ih]
      have hw : whole (cur ++ 10 :: l) = whole ([] ++ l) := by
        unfold whole
        cases l with
        | nil => simp
        | cons d r =>
          have h1 : (cur ++ 10 :: d :: r).getLast? = (d :: r).getLast? := by
            have : cur ++ 10 :: d :: r = (cur ++ [10]) ++ (d :: r) := by simp
            rw [this, List.getLast?_append, List.getLast?_cons]; rfl
          have h2 : (cur ++ 10 :: d :: r == []) = false := by simp
          rw [h1, h2]; rfl
      rw [hw]
      simp
    · rw [linesGo, if_neg hc, unlinesGo l (cur ++ [c]) (fun x hx => by
        rcases List.mem_append.1 hx with hx | hx
        · exact h x hx
        · rw [List.mem_singleton.1 hx]; exact hc)]
      simp
theorem unlines_lines (l : List UInt8) : unlines (linesL l) = l ++ (if whole l then [] else [10]) := by
  have := unlinesGo l [] (by simp)
  simpa [linesL] using this

/-- Words that are none of them empty, or have a blank. -/
def Clean (ws : List (List UInt8)) : Prop := ∀ x ∈ ws, x ≠ [] ∧ ∀ c ∈ x, c ≠ 32

theorem wordsGo_clean : ∀ (l cur : List UInt8), (∀ c ∈ cur, c ≠ 32) → Clean (wordsGo cur l)
  | [], cur, h => by
    unfold wordsGo
    split
    · intro x hx; cases hx
    · rename_i hc
      intro x hx
      rw [List.mem_singleton.1 hx]; exact ⟨hc, h⟩
  | c :: l, cur, h => by
    unfold wordsGo
    split
    · split
      · exact wordsGo_clean l [] (by simp)
      · rename_i hc
        intro x hx
        rcases List.mem_cons.1 hx with rfl | hx
        · exact ⟨hc, h⟩
        · exact wordsGo_clean l [] (by simp) x hx
    · rename_i hc
      exact wordsGo_clean l (cur ++ [c]) (fun x hx => by
        rcases List.mem_append.1 hx with hx | hx
        · exact h x hx
        · rw [List.mem_singleton.1 hx]; exact hc)
theorem words_clean (l : List UInt8) : Clean (wordsL l) := wordsGo_clean l [] (by simp)

theorem words_tail : ∀ (ws : List (List UInt8)) (x : List UInt8), x ≠ [] → (∀ c ∈ x, c ≠ 32) → Clean ws → wordsGo [] (x ++ Lib.joinTail [32] ws) = x :: ws
  | [], x, hx, h, _ => by
    have := wordsGo_run x [] [] h
    simp [Lib.joinTail, wordsGo, hx] at this ⊢
    exact this
  | y :: r, x, hx, h, hw => by
    rw [wordsGo_run x [] _ h]
    have e : Lib.joinTail [32] (y :: r) = 32 :: (y ++ Lib.joinTail [32] r) := by simp [Lib.joinTail]
    rw [e, List.nil_append, wordsGo, if_pos rfl, if_neg hx]
    rw [words_tail r y (hw y (List.mem_cons_self ..)).1 (hw y (List.mem_cons_self ..)).2 (fun z hz => hw z (List.mem_cons_of_mem _ hz))]
theorem words_join {ws : List (List UInt8)} (h : Clean ws) : wordsL (Lib.join ws [32]) = ws := by
  cases ws with
  | nil => rfl
  | cons x r =>
    rw [Lib.join_cons]
    exact words_tail r x (h x (List.mem_cons_self ..)).1 (h x (List.mem_cons_self ..)).2 (fun z hz => h z (List.mem_cons_of_mem _ hz))
theorem join_words_le : ∀ (l cur : List UInt8), Lib.lens (wordsGo cur l) + (wordsGo cur l).length ≤ l.length + cur.length + 1
  | [], cur => by
    unfold wordsGo
    split <;> simp [Lib.lens]
  | c :: l, cur => by
    unfold wordsGo
    split
    · split
      · have := join_words_le l []; simp at this ⊢; omega
      · have := join_words_le l []; simp [Lib.lens] at this ⊢; omega
    · have := join_words_le l (cur ++ [c]); simp at this ⊢; omega
end Go.Proofs.YtaddpekjmboimaaDoor
