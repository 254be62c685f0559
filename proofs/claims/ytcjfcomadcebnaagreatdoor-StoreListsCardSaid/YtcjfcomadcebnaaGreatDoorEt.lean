/- The tables of words, plainly: a row a table, a place a code. -/
import Derived.Test.YtcjfcomadcebnaaGreatDoorVb
namespace Go.Proofs.YtcjfcomadcebnaaGreatDoor

/-- The rows of the tables of words. -/
def wtab : List (List (List UInt8)) := [
  [[], [], [], [], [], [], [], [], [], []],
  [[], [114, 101, 103, 105, 115, 116, 101, 114], [99, 111, 117, 110, 116, 101, 114], [113, 117, 101, 117, 101], [109, 97, 112], [], [], [], [], []],
  [[], [98, 101, 103, 105, 110], [99, 97, 108, 108], [114, 101, 116, 117, 114, 110], [116, 114, 121], [99, 111, 109, 109, 105, 116], [97, 98, 111, 114, 116], [99, 97, 110, 99, 101, 108], [], []],
  [[], [114, 101, 97, 100], [119, 114, 105, 116, 101], [97, 100, 100], [103, 101, 116], [101, 110, 113], [100, 101, 113], [112, 117, 116], [108, 111, 111, 107], [100, 101, 108]],
  [[], [111, 107], [110, 111, 110, 101], [118, 97, 108], [], [], [], [], [], []],
  [[], [108, 105, 118, 101], [112, 101, 110, 100, 105, 110, 103], [99, 111, 109, 109, 105, 116, 116, 101, 100], [97, 98, 111, 114, 116, 101, 100], [], [], [], [], []],
  [[], [115, 101, 114, 105, 97, 108], [115, 116, 114, 105, 99, 116], [102, 105, 110, 97, 108], [111, 112, 97, 113, 117, 101], [], [], [], [], []]]
/-- All of them behind one another. -/
def wflat : List (List UInt8) := wtab.flatten

/-- A table's row. -/
def wrow (t : Nat) : List (List UInt8) := wtab.getD t []
/-- A code's word. -/
def wordL (t c : Int) : List UInt8 := if 0 ≤ t ∧ t < 7 ∧ 0 ≤ c ∧ c < 10 then (wrow t.toNat).getD c.toNat [] else []
/-- The first of these that is the word. -/
def firstOf (l : List UInt8) : Nat → List (List UInt8) → Option Nat
  | _, [] => none
  | k, x :: xs => if x = l then some k else firstOf l (k + 1) xs
/-- A word's code. -/
def codeL (t : Int) (w : List UInt8) : Option Nat := if w ≠ [] ∧ 0 ≤ t ∧ t < 7 then firstOf w 0 (wrow t.toNat) else none

theorem wflat_len : wflat.length = 70 := by decide
theorem wflat_at : ∀ t : Nat, t < 7 → ∀ c : Nat, c < 10 → wflat.getD (t * 10 + c) [] = (wrow t).getD c [] := by decide
theorem wordL_in {t c : Nat} (ht : t < 7) (hc : c < 10) : wordL t c = (wrow t).getD c [] := by
  unfold wordL
  rw [if_pos ⟨by omega, by omega, by omega, by omega⟩, Int.toNat_natCast, Int.toNat_natCast]
theorem wordL_out {t c : Int} (h : t < 0 ∨ 7 ≤ t ∨ c < 0 ∨ 10 ≤ c) : wordL t c = [] := by
  unfold wordL
  rw [if_neg (by omega)]
/-- Rows have ten places. -/
theorem wrow_len : ∀ t : Nat, t < 7 → (wrow t).length = 10 := by decide
end Go.Proofs.YtcjfcomadcebnaaGreatDoor
