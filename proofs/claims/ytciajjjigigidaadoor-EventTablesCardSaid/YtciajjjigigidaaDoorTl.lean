/- The walks of the statements on words and on tables. -/
import Derived.Test.YtciajjjigigidaaDoorEx
import Derived.Test.YtciajjjigigidaaDoorEz
import Derived.Test.YtciajjjigigidaaDoorRf
namespace Go.Proofs.YtciajjjigigidaaDoor
open Go.RowKit Go.Maps Go.WideMaps Go.WideElems Go.ChangeShapes Go.WideShapes

variable {T : TypeId} {er : Nat → Addr}

set_option maxRecDepth 100000 in
set_option maxHeartbeats 4000000 in
theorem words_any' (t c : Int) (ls : List UInt8) (hls : ls.length ≤ 9223372036854775807) (op r : Int) (w : World) (hG : Glob T er w) :
    Calls Tryd.prog 3 #[.int .i64 t, .int .i64 c, tv ls, .int .i64 op, .int .i64 r] w fun e w' => e = .returned (.bool true) ∧ Hid (Below w.heap.size w w') := by
  have Hf := Lib.hid (first_any w hG)
  have HG := Lib.hid hG
  have hsl : (⟨ls.toArray⟩ : ByteArray).size = ls.length := by simp [ByteArray.size]
  by_cases hbig : 16384 < ls.length
  · have hd : decide ((16384 : Int) < (ls.length : Int)) = true := by simp; omega
    clear hG hbig
    go_enter Tryd.func3, Tryd.ntmps3
    go_wp2_with (first | (go_at_call 6; refine Hf.out.mono ?_; rintro e w1 ⟨rfl, hb1⟩))
    go_ret
    exact ⟨rfl, hb1⟩
  have hd : decide ((16384 : Int) < (ls.length : Int)) = false := by simp; omega
  have Hcode := Lib.hid (fun W (h : Below w.heap.size w W) => code_any t ls W (HG.out.below' h).words)
  have Hrcode := Lib.hid (fun W => refCode_any t ls W)
  have Hword := Lib.hid (fun W (h : Below w.heap.size w W) => word_any t c W (HG.out.below' h).words)
  have Hrword := Lib.hid (fun W => refWord_any t c W)
  have Hof := Lib.hid (fun W => of_any op W)
  have Hrof := Lib.hid (fun W => refOf_any op W)
  have Hk := Lib.hid (fun W => keyed_any op W)
  have Hrk := Lib.hid (fun W => refKeyed_any op W)
  have Hv := Lib.hid (fun W => valued_any op W)
  have Hrv := Lib.hid (fun W => refValued_any op W)
  have Hfi := Lib.hid (fun W => fits_any op r W)
  have Hrfi := Lib.hid (fun W => refFits_any op r W)
  generalize ofZ op = x1 at *
  generalize keyedZ op = x2 at *
  generalize valuedZ op = x3 at *
  generalize fitsZ op r = x4 at *
  have hx : ∃ (n : Nat), (codeL t ls).getD 0 = n ∧ (codeL t ls).isSome = ((n : Int) != 0) := by
    refine ⟨_, rfl, ?_⟩
    rw [codeL_ref]
    cases hc : firstOf ls 1 (rrow t) with
    | none => rfl
    | some k => have := (firstOf_at hc).1; simp; omega
  obtain ⟨n, hn, hb⟩ := hx
  rw [hn, hb] at Hcode
  rw [hn] at Hrcode
  obtain ⟨x5, hx5⟩ : ∃ x, x = wordL t c := ⟨_, rfl⟩
  rw [← hx5] at Hword Hrword
  clear hG hbig hn hb hx5
  go_enter Tryd.func3, Tryd.ntmps3
  go_wp2_with (first
    | (go_at_call 6; refine Hf.out.mono ?_; rintro e w1 ⟨rfl, hb1⟩; have H1 := Lib.hid hb1; clear hb1)
    | (go_at_call 7; refine (Hcode.out _ H1.out).mono ?_; rintro e w' ⟨rfl, rfl⟩)
    | (go_at_call 8; refine (Hrcode.out _).mono ?_; rintro e w2 ⟨rfl, hb2⟩; have H2 := Lib.hid (H1.out.trans (hb2.out.mono H1.out.size)); clear hb2)
    | (go_at_call 9; refine (Hof.out _).mono ?_; rintro e w' ⟨rfl, rfl⟩)
    | (go_at_call 10; refine (Hrof.out _).mono ?_; rintro e w3 ⟨rfl, hb3⟩; have H3 := Lib.hid (H2.out.trans (hb3.out.mono H2.out.size)); clear hb3)
    | (go_at_call 11; refine (Hk.out _).mono ?_; rintro e w' ⟨rfl, rfl⟩)
    | (go_at_call 12; refine (Hrk.out _).mono ?_; rintro e w' ⟨rfl, rfl⟩)
    | (go_at_call 13; refine (Hv.out _).mono ?_; rintro e w' ⟨rfl, rfl⟩)
    | (go_at_call 14; refine (Hrv.out _).mono ?_; rintro e w' ⟨rfl, rfl⟩)
    | (go_at_call 15; refine (Hfi.out _).mono ?_; rintro e w' ⟨rfl, rfl⟩)
    | (go_at_call 16; refine (Hrfi.out _).mono ?_; rintro e w' ⟨rfl, rfl⟩)
    | (go_at_call 17; refine (Hword.out _ H3.out).mono ?_; rintro e w' ⟨rfl, rfl⟩)
    | (go_at_call 18; refine (Hrword.out _).mono ?_; rintro e w4 ⟨rfl, hb4⟩; have H4 := Lib.hid (H3.out.trans (hb4.out.mono H3.out.size)); clear hb4))
  go_ret
  exact ⟨rfl, H4.out⟩
end Go.Proofs.YtciajjjigigidaaDoor
