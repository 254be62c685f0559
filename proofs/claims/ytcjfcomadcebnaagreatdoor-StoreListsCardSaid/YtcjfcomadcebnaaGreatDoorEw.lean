/- Package event: Word, Code and what is told of operations, by contracts. -/
import Derived.Test.YtcjfcomadcebnaaGreatDoorProg
import Derived.Test.YtcjfcomadcebnaaGreatDoorWf
import Derived.WalkKit
import Derived.WalkSpells
import Derived.WalkLawsBesides
import Derived.OneCell
import Derived.Lib.Hide
import Derived.OwnWalk
import Derived.LoopTactic
import Derived.LoopN
import Derived.BigQuiet
import Derived.Deep.QuietTactic
import Derived.Outline
namespace Go.Proofs.YtcjfcomadcebnaaGreatDoor
open Go.RowKit Go.Maps Go.WideMaps Go.WideElems Go.ChangeShapes Go.WideShapes



set_option maxHeartbeats 1000000 in
set_option maxRecDepth 100000 in
theorem word_in (t c : Nat) (ht : t < 7) (hc : c < 10) (w : World) (hW : WordsAt w) :
    Calls Tryz.prog 39 #[.int .i64 t, .int .i64 c] w fun e w' => e = .returned (tv (wordL t c)) ∧ w = w' := by
  have h0 := hW (t * 10 + c) (by omega)
  rw [wflat_at t ht c hc, ← wordL_in ht hc] at h0
  generalize wordL t c = x at *
  clear hW
  go_enter Tryz.func39, Tryz.ntmps39
  go_wp2
  go_ret
  exact ⟨rfl, rfl⟩

theorem ret_str {a b : List UInt8} (h : a = b) : Ending.returned (tv a) = .returned (tv b) := by rw [h]

set_option maxRecDepth 100000 in
theorem word_out (t c : Int) (h : t < 0 ∨ 7 ≤ t ∨ c < 0 ∨ 10 ≤ c) (w : World) :
    Calls Tryz.prog 39 #[.int .i64 t, .int .i64 c] w fun e w' => e = .returned (tv (wordL t c)) ∧ w = w' := by
  have h0 := wordL_out h
  rw [h0]
  by_cases h1 : t < 0
  · clear h h0
    go_enter Tryz.func39, Tryz.ntmps39
    go_wp2
    go_ret
    exact ⟨rfl, rfl⟩
  by_cases h2 : 7 ≤ t
  · clear h h0
    go_enter Tryz.func39, Tryz.ntmps39
    go_wp2
    go_ret
    exact ⟨rfl, rfl⟩
  by_cases h3 : c < 0
  · clear h h0
    go_enter Tryz.func39, Tryz.ntmps39
    go_wp2
    go_ret
    exact ⟨rfl, rfl⟩
  have h4 : 10 ≤ c := by omega
  clear h h0
  go_enter Tryz.func39, Tryz.ntmps39
  go_wp2
  go_ret
  exact ⟨rfl, rfl⟩

theorem word_any (t c : Int) (w : World) (hW : WordsAt w) : Calls Tryz.prog 39 #[.int .i64 t, .int .i64 c] w fun e w' => e = .returned (tv (wordL t c)) ∧ w = w' := by
  by_cases h : t < 0 ∨ 7 ≤ t ∨ c < 0 ∨ 10 ≤ c
  · exact word_out t c h w
  · have e1 : t = (t.toNat : Int) := by omega
    have e2 : c = (c.toNat : Int) := by omega
    rw [e1, e2]
    exact word_in t.toNat c.toNat (by omega) (by omega) w hW

/-- What is told of an operation. -/
def ofZ (op : Int) : Int := if op = 1 ∨ op = 2 then 1 else if op = 3 ∨ op = 4 then 2 else if op = 5 ∨ op = 6 then 3 else if op = 7 ∨ op = 8 ∨ op = 9 then 4 else 0
def keyedZ (op : Int) : Bool := op == 7 || op == 8 || op == 9
def valuedZ (op : Int) : Bool := op == 2 || op == 3 || op == 5 || op == 7
def fitsZ (op ret : Int) : Bool := if valuedZ op then ret == 1 else if op == 1 || op == 4 then ret == 3 else if op == 6 || op == 8 || op == 9 then ret == 2 || ret == 3 else false

theorem ten (op : Int) : op = 1 ∨ op = 2 ∨ op = 3 ∨ op = 4 ∨ op = 5 ∨ op = 6 ∨ op = 7 ∨ op = 8 ∨ op = 9 ∨ (op ≠ 1 ∧ op ≠ 2 ∧ op ≠ 3 ∧ op ≠ 4 ∧ op ≠ 5 ∧ op ≠ 6 ∧ op ≠ 7 ∧ op ≠ 8 ∧ op ≠ 9) := by omega

/-- An operation that is none. -/
structure NoOp (op : Int) : Prop where
  h1 : (op == 1) = false
  h2 : (op == 2) = false
  h3 : (op == 3) = false
  h4 : (op == 4) = false
  h5 : (op == 5) = false
  h6 : (op == 6) = false
  h7 : (op == 7) = false
  h8 : (op == 8) = false
  h9 : (op == 9) = false
theorem noOp {op : Int} (h : op ≠ 1 ∧ op ≠ 2 ∧ op ≠ 3 ∧ op ≠ 4 ∧ op ≠ 5 ∧ op ≠ 6 ∧ op ≠ 7 ∧ op ≠ 8 ∧ op ≠ 9) : NoOp op := by
  obtain ⟨h1, h2, h3, h4, h5, h6, h7, h8, h9⟩ := h
  constructor <;> simpa
theorem ofZ_no {op : Int} (h : NoOp op) : ofZ op = 0 := by
  have := h.1; have := h.2; have := h.3; have := h.4; have := h.5; have := h.6; have := h.7; have := h.8; have := h.9
  simp at *
  unfold ofZ
  simp [*]
theorem keyedZ_no {op : Int} (h : NoOp op) : keyedZ op = false := by simp [keyedZ, h.7, h.8, h.9]
theorem valuedZ_no {op : Int} (h : NoOp op) : valuedZ op = false := by simp [valuedZ, h.2, h.3, h.5, h.7]
theorem fitsZ_no {op : Int} (r : Int) (h : NoOp op) : fitsZ op r = false := by simp [fitsZ, valuedZ_no h, h.1, h.4, h.6, h.8, h.9]

set_option maxHeartbeats 1000000 in
set_option maxRecDepth 100000 in
theorem of_any (op : Int) (w : World) : Calls Tryz.prog 97 #[.int .i64 op] w fun e w' => e = .returned (.int .i64 (ofZ op)) ∧ w = w' := by
  rcases ten op with h | h | h | h | h | h | h | h | h | h
  iterate 9
    · subst h
      go_enter Tryz.func97, Tryz.ntmps97
      go_wp2
      go_ret
      exact ⟨rfl, rfl⟩
  · obtain ⟨h1, h2, h3, h4, h5, h6, h7, h8, h9⟩ := noOp h
    have hz := Lib.hid (ofZ_no (noOp h))
    clear h
    go_enter Tryz.func97, Tryz.ntmps97
    go_wp2
    go_ret
    exact ⟨by rw [hz.out]; rfl, rfl⟩

set_option maxHeartbeats 1000000 in
theorem valued_any (op : Int) (w : World) : Calls Tryz.prog 90 #[.int .i64 op] w fun e w' => e = .returned (.bool (valuedZ op)) ∧ w = w' := by
  rcases ten op with h | h | h | h | h | h | h | h | h | h
  iterate 9
    · subst h
      go_enter Tryz.func90, Tryz.ntmps90
      go_wp2
      go_ret
      exact ⟨rfl, rfl⟩
  · obtain ⟨h1, h2, h3, h4, h5, h6, h7, h8, h9⟩ := noOp h
    have hz := Lib.hid (valuedZ_no (noOp h))
    clear h
    go_enter Tryz.func90, Tryz.ntmps90
    go_wp2
    go_ret
    exact ⟨by rw [hz.out]; rfl, rfl⟩

theorem ofZ_keyed (op : Int) : (ofZ op == 4) = keyedZ op := by
  rcases ten op with h | h | h | h | h | h | h | h | h | h
  iterate 9
    · subst h; decide
  · rw [ofZ_no (noOp h), keyedZ_no (noOp h)]; decide

set_option maxRecDepth 100000 in
theorem keyed_any (op : Int) (w : World) : Calls Tryz.prog 89 #[.int .i64 op] w fun e w' => e = .returned (.bool (keyedZ op)) ∧ w = w' := by
  have ho := of_any op w
  have he := ofZ_keyed op
  generalize ofZ op = x at *
  generalize keyedZ op = y at *
  have Ho := Lib.hid ho
  have He := Lib.hid he
  clear ho he
  go_enter Tryz.func89, Tryz.ntmps89
  go_wp2_with (first | (go_at_call 97; refine Ho.out.mono ?_; rintro e w' ⟨rfl, rfl⟩))
  go_ret
  exact ⟨by rw [← He.out]; rfl, rfl⟩

end Go.Proofs.YtcjfcomadcebnaaGreatDoor
