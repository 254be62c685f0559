/- store.Do at no object. -/
import Derived.Test.YtcjfcomadcebnaaGreatDoorNw
namespace Go.Proofs.YtcjfcomadcebnaaGreatDoor
open Go.RowKit Go.Maps Go.WideMaps Go.WideElems Go.ChangeShapes Go.WideShapes
variable {T : TypeId} {er : Nat → Addr}

theorem results_row_tmp3 {P : Program} {fn : Func} {p u1 u2 u3 : Tmp} {ty : TypeId} (h : fn.results = #[.cell p ty, .tmp u1, .tmp u2, .tmp u3]) (tmps : Array Value) (w : World) (g : Nat) (t : TypeId) (cs : Array Value) (fr : Nat × Nat) (d : TypeDesc)
    (hp : tmps.getD p undef = .pointer (some ⟨g, 0, none⟩)) (hg : w.heap[g]? = some (.cells cs t fr))
    (hu : P.underlying ty = some d) (hd : (match d with | .struct _ | .array _ _ => true | _ => false) = true) (hi : (P.info? ty).map (·.size) = some cs.size) :
    (results fn tmps).run P w = .ok (.tuple #[.agg cs, tmps.getD u1 undef, tmps.getD u2 undef, tmps.getD u3 undef]) w := by
  have hp' : tmps[p]?.getD undef = .pointer (some ⟨g, 0, none⟩) := by simpa using hp
  simp only [results, h]
  simp [hp', asAddr, run_loadVar_row w g t ty cs fr d hg hu hd hi, Result.andThen]

/-- The zero state laid in a new box: all three cells written once more. -/
theorem zero_box (w : World) : ∃ W5 V5, w.alloc (.cells #[.int .i64 0, .int .i64 0, .string ⟨#[]⟩] 34) = W5 ∧ ((W5.setCell ⟨w.heap.size, 0, none⟩ (.int .i64 0)).setCell ⟨w.heap.size, 1, none⟩ (.int .i64 0)).setCell ⟨w.heap.size, 2, none⟩ (.string ⟨#[]⟩) = V5 ∧
    ((W5.cell? ⟨w.heap.size, 0, none⟩ = some (.int .i64 0) ∧ W5.frozen? ⟨w.heap.size, 0, none⟩ = false) ∧
    ((W5.setCell ⟨w.heap.size, 0, none⟩ (.int .i64 0)).cell? ⟨w.heap.size, 1, none⟩ = some (.int .i64 0) ∧ (W5.setCell ⟨w.heap.size, 0, none⟩ (.int .i64 0)).frozen? ⟨w.heap.size, 1, none⟩ = false) ∧
    (((W5.setCell ⟨w.heap.size, 0, none⟩ (.int .i64 0)).setCell ⟨w.heap.size, 1, none⟩ (.int .i64 0)).cell? ⟨w.heap.size, 2, none⟩ = some (.string ⟨#[]⟩) ∧ ((W5.setCell ⟨w.heap.size, 0, none⟩ (.int .i64 0)).setCell ⟨w.heap.size, 1, none⟩ (.int .i64 0)).frozen? ⟨w.heap.size, 2, none⟩ = false)) ∧
    Hid (Below w.heap.size w V5) := by
  obtain ⟨W5, hW5, Hb5, hs5, Hp5⟩ := cells_new w #[.int .i64 0, .int .i64 0, .string ⟨#[]⟩] 34
  obtain ⟨f0, f1, f2, _⟩ := row_set3 Hp5.out (.int .i64 0) (.int .i64 0) (.string ⟨#[]⟩)
  exact ⟨W5, _, hW5, rfl, ⟨f0, f1, f2⟩, ((Hb5.out.setCell (p := ⟨w.heap.size, 0, none⟩) (Nat.le_refl _) _).setCell (p := ⟨w.heap.size, 1, none⟩) (Nat.le_refl _) _).setCell (p := ⟨w.heap.size, 2, none⟩) (Nat.le_refl _) _⟩

set_option maxHeartbeats 1000000 in
set_option maxRecDepth 100000 in
theorem sdo_out (a : Option Addr) (n c : Nat) (i op key val : Int) (hi : ¬(0 ≤ i ∧ i < n)) (w : World) (hG : Glob T er w) :
    Calls Tryz.prog 31 #[.agg #[.slice a n c], .int .i64 i, .int .i64 op, .int .i64 key, .int .i64 val] w fun e w' => e = .returned (.tuple #[.agg #[.slice none 0 0], .int .i64 0, .int .i64 0, errE T er 3]) ∧ Hid (Below w.heap.size w w') := by
  obtain ⟨W1, W, hW1, hW, Hb, hs1, hs, Hx, Hy⟩ := box_new2 w 29 29 (.slice a n c) (.slice none 0 0)
  have x0 := Hx.out.cell
  have HA := Lib.hid (at_sta_out a n c i hi W)
  have HG := Lib.hid (hG.below' Hb.out)
  clear hi hG
  go_enter Tryz.func31, Tryz.ntmps31
  go_wp2_with (first | (go_at_call 38; refine HA.out.mono ?_; rintro e w2 ⟨rfl, h2⟩; obtain ⟨W5, W3, hW5, hW3, ⟨⟨k0, k1⟩, ⟨k2, k3⟩, ⟨k4, k5⟩⟩, Hb3⟩ := zero_box w2; have HX3 := Lib.hid (boxed_below (boxed_below Hy.out h2.out hs.out) Hb3.out (Nat.lt_of_lt_of_le hs.out h2.out.size)); have b0 := HX3.out.cell; have b1 := HX3.out.frozen; have e3 := ((HG.out.below' h2.out).below' Hb3.out).eObject))
  have b0' : W3.drew.cell? ⟨W1.heap.size, 0, none⟩ = some (.slice none 0 0) := b0
  have b1' : W3.drew.frozen? ⟨W1.heap.size, 0, none⟩ = false := b1
  have e3' : W3.drew.cell? ⟨0, 0, none⟩ = some (errE T er 3) := e3
  have hne : (0 : Nat) ≠ W1.heap.size := by have := HG.out.size; have h9 := hs.out; have h8 := hs1.out; omega
  have e4 : (W3.drew.setCell ⟨W1.heap.size, 0, none⟩ (.slice none 0 0)).cell? ⟨0, 0, none⟩ = some (errE T er 3) := (World.cell?_of_block (w := W3.drew) (Below.heap_setCell _ _ _ _ hne)).trans e3'
  have e5 : (W3.setCell ⟨W1.heap.size, 0, none⟩ (.slice none 0 0)).cell? ⟨0, 0, none⟩ = some (errE T er 3) := e4
  have HXd : Hid (Boxed W3.drew W1.heap.size 29 (.slice none 0 0)) := HX3.out
  have Hend : Hid (Below w.heap.size w (W3.drew.setCell ⟨W1.heap.size, 0, none⟩ (.slice none 0 0))) := (((Hb.out.trans (h2.out.mono Hb.out.size)).trans (Hb3.out.mono (Nat.le_trans Hb.out.size h2.out.size))).drew).setCell (p := ⟨W1.heap.size, 0, none⟩) (Nat.le_of_lt hs1.out) _
  go_region_with (fail)
  all_goals
    go_wp2_with fail
    refine bodyPost_ret (results_row_tmp3 rfl _ _ W1.heap.size 29 #[.slice none 0 0] (0, 0) _ rfl (HXd.out.set _) Tryz.underlying29 rfl (by kernel_rfl)) rfl ?_
    exact ⟨rfl, Hend.out⟩
end Go.Proofs.YtcjfcomadcebnaaGreatDoor
