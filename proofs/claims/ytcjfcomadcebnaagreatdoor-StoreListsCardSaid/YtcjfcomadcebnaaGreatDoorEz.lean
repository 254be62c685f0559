/- Plainly: a table's words and their codes. -/
import Derived.Test.YtcjfcomadcebnaaGreatDoorEt
namespace Go.Proofs.YtcjfcomadcebnaaGreatDoor

/-- A word of a table has its code. -/
theorem code_word : ∀ t : Nat, t < 7 → ∀ c : Nat, c < 10 → (wrow t).getD c [] ≠ [] → firstOf ((wrow t).getD c []) 0 (wrow t) = some c := by decide
theorem wordL_code {t c : Int} (h : wordL t c ≠ []) : ∃ k : Nat, c = k ∧ codeL t (wordL t c) = some k := by
  unfold wordL at h ⊢
  by_cases hr : 0 ≤ t ∧ t < 7 ∧ 0 ≤ c ∧ c < 10
  · rw [if_pos hr] at h ⊢
    refine ⟨c.toNat, by omega, ?_⟩
    unfold codeL
    rw [if_pos ⟨h, hr.1, hr.2.1⟩]
    exact code_word t.toNat (by omega) c.toNat (by omega) h
  · rw [if_neg hr] at h; exact absurd rfl h
theorem firstOf_at {l : List UInt8} : ∀ {xs : List (List UInt8)} {k d : Nat}, firstOf l k xs = some d → k ≤ d ∧ d < k + xs.length ∧ xs.getD (d - k) [] = l
  | [], _, _, h => by cases h
  | x :: xs, k, d, h => by
    unfold firstOf at h
    split at h
    · rename_i hx
      cases h
      simp [hx]
    · obtain ⟨h1, h2, h3⟩ := firstOf_at h
      refine ⟨by omega, by simp; omega, ?_⟩
      obtain ⟨j, hj⟩ : ∃ j, d - k = j + 1 := ⟨d - k - 1, by omega⟩
      rw [hj, List.getD_cons_succ, ← h3]
      congr 1
      omega
theorem codeL_word {t : Int} {l : List UInt8} {d : Nat} (h : codeL t l = some d) : wordL t d = l := by
  unfold codeL at h
  split at h
  · rename_i hr
    obtain ⟨h1, h2, h3⟩ := firstOf_at h
    have hlen := wrow_len t.toNat (by omega)
    unfold wordL
    rw [if_pos ⟨hr.2.1, hr.2.2, by omega, by omega⟩, Int.toNat_natCast]
    simpa using h3
  · cases h
end Go.Proofs.YtcjfcomadcebnaaGreatDoor
