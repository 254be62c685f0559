/- Once of a log of texts, by contracts; the two functions that the chapter's examples hand it. -/
import Derived.Test.YtgkdemdpknljkaaDoorLgs
namespace Go.Proofs.YtgkdemdpknljkaaDoor
open Go.RowKit Go.Maps Go.WideMaps Go.WideElems Go.ChangeShapes Go.WideShapes

theorem fun35 (w : World) : Calls Tryd.prog 35 #[] w fun e w' => e = .returned (.int .i64 7) ∧ w = w' := by
  go_enter Tryd.func35, Tryd.ntmps35
  go_wp2
  go_ret
  exact ⟨rfl, rfl⟩
theorem fun36 (w : World) : Calls Tryd.prog 36 #[] w fun e w' => e = .returned (.int .i64 8) ∧ w = w' := by
  go_enter Tryd.func36, Tryd.ntmps36
  go_wp2
  go_ret
  exact ⟨rfl, rfl⟩

set_option maxHeartbeats 400000 in
theorem ons_old (B lb : Nat) (mv : Value) (n : Nat) (f : Lit → Option Int) (s : ByteArray) (fv : Value) (x : Int) (w : World) (hs : s.size ≤ maxLen) (h : LogI 9 71 B w lb mv n f) (hin : f (.string s.data.toList) = some x) :
    Calls Tryd.prog 34 #[.pointer (some ⟨lb, 0, none⟩), .string s, fv] w fun e w' => e = .returned (.int .i64 x) ∧ Only (fun _ => False) w w' := by
  have hget := lgs_get B lb mv n f s w hs h
  simp only [hin, Option.getD_some, Option.isSome_some] at hget
  have Hget := Lib.hid hget
  clear hget h hin
  go_enter Tryd.func34, Tryd.ntmps34
  go_wp2_with (go_at_call 44; refine Hget.out.mono ?_; rintro e w' ⟨rfl, rfl⟩)
  go_ret
  exact ⟨rfl, Only.of_alloc _ _⟩

set_option maxHeartbeats 400000 in
theorem ons_new35 (B lb : Nat) (mv : Value) (n : Nat) (f : Lit → Option Int) (s : ByteArray) (w : World) (hs : s.size ≤ maxLen) (h : LogI 9 71 B w lb mv n f) (hin : f (.string s.data.toList) = none) (hsm : n < 1000000) (hB : B ≤ w.heap.size) :
    Calls Tryd.prog 34 #[.pointer (some ⟨lb, 0, none⟩), .string s, .func (.func 35) #[] #[]] w fun e w' => e = .returned (.int .i64 7) ∧ ∃ mv', LogPost 9 71 B w lb mv w' mv' (n + 1) (upd f (.string s.data.toList) 7) := by
  have hget := lgs_get B lb mv n f s w hs h
  simp only [hin, Option.getD_none, Option.isSome_none] at hget
  have ho := Only.of_alloc w (.cells #[.int .i64 0] 85)
  have h1 := h.only ho (fun _ _ x => x)
  have hnote := lgs_note_new B lb mv n f s 7 _ hs h1 (by rw [hin]; rfl) hsm (Nat.le_trans hB ho.size)
  have Hget := Lib.hid hget
  have Hnote := Lib.hid hnote
  have Ho := Lib.hid ho
  have Hs := Lib.hid hs
  clear hget h hin h1 ho hnote hs
  go_enter Tryd.func34, Tryd.ntmps34
  go_wp2_with (first | (go_at_call 44; refine Hget.out.mono ?_; rintro e w' ⟨rfl, rfl⟩) | (go_at_call 35; refine (fun35 _).mono ?_; rintro e w' ⟨rfl, rfl⟩) | (go_at_call 33; refine Hnote.out.mono ?_; rintro e w3 ⟨rfl, mv', hp⟩; have hget3 := lgs_get B lb mv' (n + 1) _ s w3 Hs.out hp.log; simp only [upd, WideAt.sameKey_self (isKeyS _), if_true, Option.getD_some, Option.isSome_some] at hget3; have Hp := Lib.hid hp; have Hget3 := Lib.hid hget3; clear hp hget3))
  refine Hget3.out.mono ?_
  rintro e w4 ⟨rfl, rfl⟩
  go_wp2
  go_ret
  have hp := Hp.out.of_only Ho.out
  have oa := Only.of_alloc w3 (.cells #[.int .i64 7] 85)
  exact ⟨rfl, mv', hp.log.only oa (fun _ _ x => x), hp.only.trans oa (fun _ h => h) (fun _ (h : False) => h.elim), hp.from'⟩
end Go.Proofs.YtgkdemdpknljkaaDoor
