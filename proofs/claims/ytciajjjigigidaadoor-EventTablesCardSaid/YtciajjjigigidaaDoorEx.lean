/- The chapter's examples (first), by a contract. -/
import Derived.Test.YtciajjjigigidaaDoorEr
namespace Go.Proofs.YtciajjjigigidaaDoor
open Go.RowKit Go.Maps Go.WideMaps Go.WideElems Go.ChangeShapes Go.WideShapes

variable {T : TypeId} {er : Nat → Addr}

/-- The call of the example. -/
abbrev exE : Ev := ⟨2, 3, 0, 0, 7, 7, -5, 0⟩
theorem ex_valid : validN exE = 0 := by decide
theorem ex_fits : exE.Fits := ⟨fun i hi => by
  rcases i with _ | _ | _ | _ | _ | _ | _ | _ | i
  all_goals first | (constructor <;> decide) | omega⟩
theorem ex_words : evW exE = [[99, 97, 108, 108], [51], [48], [112, 117, 116], [55], [45, 53]] := by
  have h : evW exE = [wordL 2 2, Lib.itoa 3, Lib.itoa 0, wordL 3 7, Lib.itoa 7, Lib.itoa (-5)] := rfl
  rw [h, itoa_m5, itoa_3, show Lib.itoa 0 = [48] from itoa_d 0 (by decide), show Lib.itoa 7 = [55] from itoa_d 7 (by decide)]
  decide
theorem ex_line : Lib.join (evW exE) [32] = [99, 97, 108, 108, 32, 51, 32, 48, 32, 112, 117, 116, 32, 55, 32, 45, 53] := by rw [ex_words]; decide
theorem ex_bytes : evB exE = [4, 6, 0, 14, 14, 9] := by
  have h : evB exE = vb (foldN 2) ++ (vb (foldN 3) ++ (vb (foldN 0) ++ (vb (foldN 7) ++ (vb (foldN 7) ++ (vb (foldN (-5)) ++ []))))) := rfl
  rw [h, show foldN 2 = 4 from rfl, show foldN 3 = 6 from rfl, show foldN 0 = 0 from rfl, show foldN 7 = 14 from rfl, show foldN (-5) = 9 from rfl]
  rw [vb_small (by decide), vb_small (by decide), vb_small (by decide), vb_small (by decide), vb_small (by decide)]
  rfl
theorem bat_new (w : World) (l : List Nat) (cs : Array Value) (h : cs = (bc l).toArray) : BAt (w.alloc (.cells cs 5)) (some ⟨w.heap.size, 0, none⟩) l := by
  refine .inr ⟨w.heap.size, 0, rfl, fun i hi => ?_⟩
  rw [Nat.zero_add, World.cell?_alloc_new, h]
  simp [hi]

set_option maxRecDepth 100000 in
set_option maxHeartbeats 4000000 in
theorem first_any (w : World) (hG : Glob T er w) : Calls Tryd.prog 6 #[] w (Makes (.bool true) w) := by
  have hal : Below w.heap.size w (w.alloc (.cells #[.int .i64 2, .int .i64 3, .int .i64 0, .int .i64 0, .int .i64 7, .int .i64 7, .int .i64 (-5), .int .i64 0] 33)) := (Below.refl _ _).alloc (Nat.le_refl _) _
  have hev := evAt_new w exE
  have hl : Calls Tryd.prog 23 #[exE.agg] (w.alloc (.cells #[.int .i64 2, .int .i64 3, .int .i64 0, .int .i64 0, .int .i64 7, .int .i64 7, .int .i64 (-5), .int .i64 0] 33)) (Makes (.tuple #[tv [99, 97, 108, 108, 32, 51, 32, 48, 32, 112, 117, 116, 32, 55, 32, 45, 53], .nilIface]) (w.alloc (.cells #[.int .i64 2, .int .i64 3, .int .i64 0, .int .i64 0, .int .i64 7, .int .i64 7, .int .i64 (-5), .int .i64 0] 33))) := by
    have := line_ok exE ex_fits ex_valid (w.alloc (.cells #[.int .i64 2, .int .i64 3, .int .i64 0, .int .i64 0, .int .i64 7, .int .i64 7, .int .i64 (-5), .int .i64 0] 33)) (hG.below' hal)
    rw [ex_line] at this
    exact this
  have Hl := Lib.hid hl
  have Hb : Hid (∀ W, Glob T er W → Calls Tryd.prog 21 #[exE.agg] W fun e' w' => ∃ v, e' = .returned (.tuple #[v, .nilIface]) ∧ Hid (w'.ownsRow W.heap.size 5 1 v 6 (bc [4, 6, 0, 14, 14, 9]) ∧ Below W.heap.size W w')) := fun W h => by
    have := evBytes_ok exE ex_fits ex_valid W h
    rw [ex_bytes] at this
    exact this
  have Hr := Lib.hid (fun W (h : Glob T er W) => read_try W h)
  have Hs : Hid (∀ (W : World) a c N, N = W.heap.size → BAt W a [4, 6, 0, 14, 14, 9] → Calls Tryd.prog 22 #[.slice a 6 c, .slice (some ⟨N, 0, none⟩) 6 6] (W.alloc (.cells #[.int .u8 4, .int .u8 6, .int .u8 0, .int .u8 14, .int .u8 14, .int .u8 9] 5)) fun e w' => e = .returned (.bool true) ∧ W.alloc (.cells #[.int .u8 4, .int .u8 6, .int .u8 0, .int .u8 14, .int .u8 14, .int .u8 9] 5) = w') := fun W a c N hN h => by
    subst hN
    have hal : Below W.heap.size W (W.alloc (.cells #[.int .u8 4, .int .u8 6, .int .u8 0, .int .u8 14, .int .u8 14, .int .u8 9] 5)) := (Below.refl _ _).alloc (Nat.le_refl _) _
    have := sameBytes_any a _ c 6 [4, 6, 0, 14, 14, 9] [4, 6, 0, 14, 14, 9] _ (h.below' hal) (bat_new W [4, 6, 0, 14, 14, 9] _ rfl) (by decide) (by decide)
    rw [decide_eq_true rfl] at this
    exact this
  have Hse := Lib.hid (fun W => sameEvent_eq try3 W)
  have Ho := Lib.hid (fun W (h : Glob T er W) => objectLine_reg W h)
  have Hw : Hid (∀ W, WordsAt W → Calls Tryd.prog 17 #[.int .i64 6, .int .i64 4] W fun e w' => e = .returned (tv [111, 112, 97, 113, 117, 101]) ∧ W = w') := fun W h => word_any 6 4 W h
  have Hal := Lib.hid hal
  have Hev := Lib.hid hev
  have HG := Lib.hid hG
  clear hal hev hl hG
  go_enter Tryd.func6, Tryd.ntmps6
  go_wp2_with (first
    | (go_at_call 23; refine Hl.out.mono ?_; rintro e1 w1 ⟨rfl, hb1⟩; have H1 := Lib.hid (Hal.out.trans (hb1.mono Hal.out.size)); have hev1 := Hev.out.below' hb1; obtain ⟨d0, d1, d2, d3, d4, d5, d6, d7⟩ := hev1; clear hb1 Hl)
    | (go_at_call 21; refine (Hb.out _ (HG.out.below' H1.out)).mono ?_; rintro e1 w2 ⟨v2, rfl, h2⟩; obtain ⟨a2, c2, rfl, hb2⟩ := bat_row (l := [4, 6, 0, 14, 14, 9]) h2.out.1; have H2 := Lib.hid (H1.out.trans (h2.out.2.mono H1.out.size)); have Hb2 := Lib.hid hb2; clear hb2 h2 d0 d1 d2 d3 d4 d5 d6 d7)
    | (go_at_call 24; refine (Hr.out _ (HG.out.below' H2.out)).mono ?_; rintro e1 w3 ⟨rfl, hb3⟩; have H3 := Lib.hid (H2.out.trans (hb3.mono H2.out.size)); have Hb3 := Lib.hid (Hb2.out.below' hb3); clear hb3; have hr3 := evAt_new w3 try3; have hal3 : Below w3.heap.size w3 (w3.alloc (.cells #[.int .i64 4, .int .i64 3, .int .i64 0, .int .i64 0, .int .i64 0, .int .i64 0, .int .i64 0, .int .i64 0] 33)) := (Below.refl _ _).alloc (Nat.le_refl _) _; have Hr3 := Lib.hid hr3; have Hal3 := Lib.hid hal3; clear hr3 hal3)
    | (go_at_call 22; refine (Hs.out _ a2 c2 _ (by simp) (Hb3.out.below' Hal3.out)).mono ?_; rintro e1 w' ⟨rfl, rfl⟩)
    | (go_at_call 20; refine (Hse.out _).mono ?_; rintro e1 w5 ⟨rfl, hb5⟩; have H5 := Lib.hid (H3.out.trans ((Hal3.out.trans (((Below.refl _ _).alloc (Nat.le_refl _) (.cells #[.int .u8 4, .int .u8 6, .int .u8 0, .int .u8 14, .int .u8 14, .int .u8 9] 5)).trans (hb5.mono (by simp)) |>.mono Hal3.out.size)).mono H3.out.size)); clear hb5)
    | (go_at_call 25; refine (Ho.out _ (HG.out.below' H5.out)).mono ?_; rintro e1 w6 ⟨rfl, hb6⟩; have H6 := Lib.hid (H5.out.trans (hb6.mono H5.out.size)); clear hb6)
    | (go_at_call 17; refine (Hw.out _ (HG.out.below' H6.out).words).mono ?_; rintro e1 w' ⟨rfl, rfl⟩))
  go_ret
  exact ⟨rfl, H6.out⟩
end Go.Proofs.YtciajjjigigidaaDoor
