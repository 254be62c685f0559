/- The calls of a log of numbers: Get, Note, Len, by contracts. -/
import Derived.Test.YtkjnopcmlppaaaaDoorPlc
import Derived.Test.YtkjnopcmlppaaaaDoorLgs
namespace Go.Proofs.YtkjnopcmlppaaaaDoor
open Go.RowKit Go.Maps Go.WideMaps Go.WideElems Go.ChangeShapes Go.WideShapes

set_option maxHeartbeats 400000 in
theorem lgi_get (B lb : Nat) (mv : Value) (n : Nat) (f : Lit → Option Int) (s : Int) (w : World) (hs : (Lit.int .i64 s).wf = true) (h : LogI 3 53 B w lb mv n f) :
    Calls Tryd.prog 22 #[.pointer (some ⟨lb, 0, none⟩), .int .i64 s] w fun e w' => e = .returned (.tuple #[.int .i64 ((f (.int .i64 s)).getD 0), .bool (f (.int .i64 s)).isSome]) ∧ w.alloc (.cells #[.int .i64 ((f (.int .i64 s)).getD 0)] 85) = w' := by
  have hget := ixi_get ⟨lb, 1, none⟩ s w mv n f hs h.cell1 h.ix
  generalize (f (.int .i64 s)).getD 0 = c at *
  generalize (f (.int .i64 s)).isSome = b at *
  have Hget := Lib.hid hget
  clear hget
  go_enter Tryd.func22, Tryd.ntmps22
  go_wp2_with (go_at_call 39; refine Hget.out.mono ?_; rintro e w' ⟨rfl, rfl⟩)
  go_ret2
  exact ⟨rfl, rfl⟩

set_option maxHeartbeats 400000 in
theorem lgi_len (B lb : Nat) (mv : Value) (n : Nat) (f : Lit → Option Int) (w : World) (h : LogI 3 53 B w lb mv n f) :
    Calls Tryd.prog 25 #[.pointer (some ⟨lb, 0, none⟩)] w fun e w' => e = .returned (.int .i64 n) ∧ w = w' := by
  have h0 := h.cell0
  clear h
  go_enter Tryd.func25, Tryd.ntmps25
  go_wp2
  go_ret
  exact ⟨rfl, rfl⟩

set_option maxHeartbeats 400000 in
theorem lgi_note_old (B lb : Nat) (mv : Value) (n : Nat) (f : Lit → Option Int) (s : Int) (x : Int) (w : World) (hs : (Lit.int .i64 s).wf = true) (h : LogI 3 53 B w lb mv n f) (hin : (f (.int .i64 s)).isSome = true) :
    Calls Tryd.prog 21 #[.pointer (some ⟨lb, 0, none⟩), .int .i64 s, .int .i64 x] w fun e w' => e = .returned (.bool false) ∧ Only (fun _ => False) w w' := by
  have hget := lgi_get B lb mv n f s w hs h
  rw [hin] at hget
  generalize (f (.int .i64 s)).getD 0 = c at *
  have Hget := Lib.hid hget
  clear hget h hin
  go_enter Tryd.func21, Tryd.ntmps21
  go_wp2_with (go_at_call 22; refine Hget.out.mono ?_; rintro e w' ⟨rfl, rfl⟩)
  go_ret
  exact ⟨rfl, Only.of_alloc _ _⟩

set_option maxHeartbeats 400000 in
theorem lgi_note_new (B lb : Nat) (mv : Value) (n : Nat) (f : Lit → Option Int) (s : Int) (x : Int) (w : World) (hs : (Lit.int .i64 s).wf = true) (h : LogI 3 53 B w lb mv n f) (hin : (f (.int .i64 s)).isSome = false) (hsm : n < 1000000) (hB : B ≤ w.heap.size) :
    Calls Tryd.prog 21 #[.pointer (some ⟨lb, 0, none⟩), .int .i64 s, .int .i64 x] w fun e w' => e = .returned (.bool true) ∧ ∃ mv', LogPost 3 53 B w lb mv w' mv' (n + 1) (upd f (.int .i64 s) x) := by
  have hget := lgi_get B lb mv n f s w hs h
  rw [hin] at hget
  generalize (f (.int .i64 s)).getD 0 = c at *
  have ho := Only.of_alloc w (.cells #[.int .i64 c] 85)
  have h1 := h.only ho (fun _ _ x => x)
  have hsz : w.heap.size ≤ (w.alloc (.cells #[.int .i64 c] 85)).heap.size := ho.size
  have Hget := Lib.hid hget
  have H1 := Lib.hid h1
  have Ho := Lib.hid ho
  have hBB : Hid (B ≤ (w.alloc (.cells #[.int .i64 c] 85)).heap.size) := Nat.le_trans hB hsz
  clear hget h hin h1 ho hsz
  go_enter Tryd.func21, Tryd.ntmps21
  go_wp2_with (go_at_call 22; refine Hget.out.mono ?_; rintro e w' ⟨rfl, rfl⟩)
  generalize w.alloc (.cells #[.int .i64 c] 85) = w1 at *
  refine (ixi_put lb 1 #[.int .i64 n, mv] 53 s x w1 mv n f hs (by unfold maxLen; omega) H1.out.cells rfl H1.out.ix).mono ?_
  rintro e w3 ⟨rfl, mv', hp⟩
  have hpost := (logPost_mk H1.out hp hBB.out).of_only Ho.out
  have c3 : w3.heap[lb]? = some (.cells #[.int .i64 n, mv'] 53 (0, 0)) := hp.cells
  have c30 : w3.cell? ⟨lb, 0, none⟩ = some (.int .i64 n) := by simp [World.cell?, c3]
  have f30 : w3.frozen? ⟨lb, 0, none⟩ = false := by simp [World.frozen?, c3]
  have Hpost := Lib.hid hpost
  clear hpost hp c3
  go_wp2
  go_ret
  exact ⟨rfl, _, Hpost.out⟩
end Go.Proofs.YtkjnopcmlppaaaaDoor
