/- ValidObject, New, Kind, Key, Len, Same, by contracts. -/
import Derived.Test.YtcjfcomadcebnaaGreatDoorSh
namespace Go.Proofs.YtcjfcomadcebnaaGreatDoor
open Go.RowKit Go.Maps Go.WideMaps Go.WideElems Go.ChangeShapes Go.WideShapes

variable {T : TypeId} {er : Nat → Addr}

set_option maxRecDepth 100000 in
theorem inside_val (n : Int) (w : World) (hW : BoundsAt w) : Calls Tryz.prog 94 #[.int .i64 6, .int .i64 n] w fun e w' => e = .returned (.bool (nearB n 1000000000)) ∧ w = w' := by
  have c0 : w.cell? ⟨5, 12, none⟩ = some (.int .i64 (-1000000000)) := hW 12 (by decide)
  have c1 : w.cell? ⟨5, 13, none⟩ = some (.int .i64 1000000000) := hW 13 (by decide)
  obtain ⟨R, hR⟩ : ∃ R, R = nearB n 1000000000 := ⟨_, rfl⟩
  rw [← hR]
  have HR := Lib.hid hR
  clear hR hW
  by_cases h1 : -1000000000 ≤ n
  · by_cases h2 : n ≤ 1000000000
    · have HR' : Hid (R = true) := by show _ = _; rw [HR.out]; exact decide_eq_true ⟨h1, h2⟩
      go_enter Tryz.func94, Tryz.ntmps94
      go_wp2
      go_ret
      exact ⟨by rw [HR'.out]; simp, rfl⟩
    · have HR' : Hid (R = false) := by show _ = _; rw [HR.out]; exact decide_eq_false (fun h => h2 h.2)
      go_enter Tryz.func94, Tryz.ntmps94
      go_wp2
      go_ret
      exact ⟨by rw [HR'.out]; simp, rfl⟩
  · have HR' : Hid (R = false) := by show _ = _; rw [HR.out]; exact decide_eq_false (fun h => h1 h.1)
    go_enter Tryz.func94, Tryz.ntmps94
    go_wp2
    go_ret
    exact ⟨by rw [HR'.out]; first | rfl | simp [h1], rfl⟩
theorem begins_any (k : Int) (w : World) : Calls Tryz.prog 95 #[.int .i64 k] w fun e w' => e = .returned (.bool (k == 1 || k == 2)) ∧ w = w' := by
  by_cases h1 : k = 1
  · subst h1
    go_enter Tryz.func95, Tryz.ntmps95
    go_wp2
    go_ret
    exact ⟨rfl, rfl⟩
  by_cases h2 : k = 2
  · subst h2
    go_enter Tryz.func95, Tryz.ntmps95
    go_wp2
    go_ret
    exact ⟨rfl, rfl⟩
  · have e1 : (k == 1) = false := by simpa using h1
    have e2 : (k == 2) = false := by simpa using h2
    go_enter Tryz.func95, Tryz.ntmps95
    go_wp2
    go_ret
    exact ⟨by rw [e1, e2]; rfl, rfl⟩

/-- Whether an object may be. -/
def validO (k i : Int) : Bool := !(wordL 1 k).isEmpty && nearB i 1000000000 && (i == 0 || (k == 1 || k == 2))
/-- What is told of an object. -/
def validOV (T : TypeId) (er : Nat → Addr) (k i : Int) : Value := if validO k i then .nilIface else errE T er 3

theorem obox (w : World) (k i : Int) : (w.alloc (.cells #[.int .i64 k, .int .i64 i] 83)).cell? ⟨w.heap.size, 0, none⟩ = some (.int .i64 k) ∧ (w.alloc (.cells #[.int .i64 k, .int .i64 i] 83)).cell? ⟨w.heap.size, 1, none⟩ = some (.int .i64 i) := by
  rw [World.cell?_alloc_new, World.cell?_alloc_new]
  exact ⟨rfl, rfl⟩

set_option maxRecDepth 100000 in
theorem validObject_any (k i : Int) (w : World) (hG : Glob T er w) : Calls Tryz.prog 71 #[.agg #[.int .i64 k, .int .i64 i]] w fun e w' => e = .returned (validOV T er k i) ∧ Hid (Below w.heap.size w w') := by
  obtain ⟨W, hW⟩ : ∃ W, w.alloc (.cells #[.int .i64 k, .int .i64 i] 83) = W := ⟨_, rfl⟩
  have hal : Below w.heap.size w W := by rw [← hW]; exact (Below.refl _ _).alloc (Nat.le_refl _) _
  obtain ⟨c0, c1⟩ := obox w k i
  rw [hW] at c0 c1
  have hGW := hG.below' hal
  have e3 := hGW.eObject
  have Hw := Lib.hid (word_any 1 k W hGW.words)
  have Hi := Lib.hid (inside_val i W hGW.bounds)
  have Hb := Lib.hid (begins_any k W)
  have Hal := Lib.hid hal
  obtain ⟨R, hR⟩ : ∃ R, R = validOV T er k i := ⟨_, rfl⟩
  rw [← hR]
  unfold validOV validO at hR
  generalize wordL 1 k = x at *
  generalize nearB i 1000000000 = nb at *
  obtain ⟨bb, hbb⟩ : ∃ bb, bb = (k == 1 || k == 2) := ⟨_, rfl⟩
  rw [← hbb] at hR Hb
  obtain ⟨iz, hiz⟩ : ∃ iz, (i == 0) = iz := ⟨_, rfl⟩
  rw [hiz] at hR
  obtain ⟨xe, hxe⟩ : ∃ xe, x.isEmpty = xe := ⟨_, rfl⟩
  rw [hxe] at hR
  have hiz' : (i != 0) = !iz := by rw [← hiz]; rfl
  have HR := Lib.hid hR
  clear hal hGW hG hR hbb
  cases xe <;> cases nb <;> cases iz <;> cases bb
  all_goals
    go_enter Tryz.func71, Tryz.ntmps71
    go_wp2_with (first | (go_at_call 39; refine Hw.out.mono ?_; rintro e w' ⟨rfl, rfl⟩) | (go_at_call 94; refine Hi.out.mono ?_; rintro e w' ⟨rfl, rfl⟩) | (go_at_call 95; refine Hb.out.mono ?_; rintro e w' ⟨rfl, rfl⟩))
    go_ret
    exact ⟨by rw [HR.out]; rfl, Hal.out⟩
end Go.Proofs.YtcjfcomadcebnaaGreatDoor
