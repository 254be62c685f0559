/- printed, value, the judge of a map's items, alone: at the numerals that the examples have, by contracts. -/
import Derived.Test.YtgnpcbpbmalgiaaDoorSj
namespace Go.Proofs.YtgnpcbpbmalgiaaDoor
open Go.RowKit Go.Maps Go.WideMaps Go.WideElems Go.ChangeShapes Go.WideShapes

variable {T : TypeId} {er : Nat → Addr}

/-- printed, where the text is a number's as Atoi reads it: whether it is the number's Print. -/
theorem printed_at (l : List UInt8) (v : Int) (hl : l.length ≤ 281474976710656) (ha : Lib.atoiAll l = .ok v) (w : World) (hG : Glob T er w) : Calls Tryd.prog 46 #[tv l] w fun e w' => e = .returned (.tuple #[.int .i64 v, .bool (decide (Lib.itoa v = l))]) ∧ Hid (Below w.heap.size w w') := by
  have Ha := Lib.hid (atoi_ok hl ha w)
  obtain ⟨h0, h1⟩ := atoi_range ha
  have Hp := Lib.hid (fun W (h : Glob T er W) => print_any v h0 h1 W h)
  have HG := Lib.hid hG
  clear hl ha h0 h1 hG
  generalize Lib.itoa v = y at *
  by_cases he : y = l
  · have hb : (y == l) = true := by simpa using he
    rw [decide_eq_true he]
    clear he
    go_enter Tryd.func46, Tryd.ntmps46
    go_wp2_with (first
      | (go_at_call 57; refine Ha.out.mono ?_; rintro e w2 ⟨rfl, hb2⟩; have H2 := Lib.hid hb2.out; have HG2 := Lib.hid (HG.out.below' hb2.out); clear hb2)
      | (go_at_call 18; refine (Hp.out _ HG2.out).mono ?_; rintro e w3 ⟨rfl, hb3⟩; have H3 := Lib.hid (H2.out.trans (hb3.out.mono H2.out.size)); clear hb3))
    go_ret2
    exact ⟨rfl, H3.out⟩
  · have hb : (y == l) = false := by simpa using he
    rw [decide_eq_false he]
    clear he
    go_enter Tryd.func46, Tryd.ntmps46
    go_wp2_with (first
      | (go_at_call 57; refine Ha.out.mono ?_; rintro e w2 ⟨rfl, hb2⟩; have H2 := Lib.hid hb2.out; have HG2 := Lib.hid (HG.out.below' hb2.out); clear hb2)
      | (go_at_call 18; refine (Hp.out _ HG2.out).mono ?_; rintro e w3 ⟨rfl, hb3⟩; have H3 := Lib.hid (H2.out.trans (hb3.out.mono H2.out.size)); clear hb3))
    go_ret2
    exact ⟨rfl, H3.out⟩
theorem printed_itoa (v : Int) (hv : fits64 v) (w : World) (hG : Glob T er w) : Calls Tryd.prog 46 #[tv (Lib.itoa v)] w fun e w' => e = .returned (.tuple #[.int .i64 v, .bool true]) ∧ Hid (Below w.heap.size w w') := by
  have := printed_at (Lib.itoa v) v (by have := itoa_len v hv.1 hv.2; omega) (atoi_itoa v hv.1 hv.2) w hG
  rw [decide_eq_true rfl] at this
  exact this
theorem value_itoa (v : Int) (hv : near v 1000000000) (w : World) (hG : Glob T er w) : Calls Tryd.prog 27 #[tv (Lib.itoa v)] w fun e w' => e = .returned (.tuple #[.bool true, .bool true]) ∧ Hid (Below w.heap.size w w') := by
  have Hp := Lib.hid (printed_itoa v (near_fits hv (by decide)) w hG)
  have Ho := Lib.hid (fun W => outside_any v 1000000000 (by decide) (by decide) W)
  rw [show nearB v 1000000000 = true from decide_eq_true hv] at Ho
  generalize Lib.itoa v = y at *
  clear hv hG
  go_enter Tryd.func27, Tryd.ntmps27
  go_wp2_with (first
    | (go_at_call 46; refine Hp.out.mono ?_; rintro e w2 ⟨rfl, hb2⟩)
    | (go_at_call 22; refine (Ho.out _).mono ?_; rintro e w' ⟨rfl, rfl⟩))
  go_ret2
  exact ⟨rfl, hb2.out⟩

/-- The cells of a judge: whether no key was judged, and the last one. -/
structure JudgeAt (w : World) (B : Nat) (f : Bool) (k : Int) : Prop where
  c0 : w.cell? ⟨B, 0, none⟩ = some (.bool f)
  c1 : w.cell? ⟨B + 1, 0, none⟩ = some (.int .i64 k)
  f0 : w.frozen? ⟨B, 0, none⟩ = false
  f1 : w.frozen? ⟨B + 1, 0, none⟩ = false
theorem JudgeAt.below {w w' : World} {B : Nat} {f : Bool} {k : Int} (h : JudgeAt w B f k) (hb : Below w.heap.size w w') : JudgeAt w' B f k := by
  have l0 : B < w.heap.size := World.block_lt_of_cell? w _ h.c0
  have l1 : B + 1 < w.heap.size := World.block_lt_of_cell? w _ h.c1
  exact ⟨(hb.cell (p := ⟨B, 0, none⟩) l0).trans h.c0, (hb.cell (p := ⟨B + 1, 0, none⟩) l1).trans h.c1, (hb.frozen (p := ⟨B, 0, none⟩) l0).trans h.f0, (hb.frozen (p := ⟨B + 1, 0, none⟩) l1).trans h.f1⟩

theorem rising_any (w : World) : Calls Tryd.prog 28 #[] w fun e w' => e = .returned (.func (.func 49) #[] #[.pointer (some ⟨w.heap.size, 0, none⟩), .pointer (some ⟨w.heap.size + 1, 0, none⟩)]) ∧ Hid (JudgeAt w' w.heap.size true 0 ∧ Below w.heap.size w w' ∧ w'.heap.size = w.heap.size + 2) := by
  have hmf : ∀ (fn : Fn) (first cap : Array Value) (w : World), (Instr.makeFunc fn first cap).run Tryd.prog w = .ok (.func fn first cap) w := fun _ _ _ _ => rfl
  go_enter Tryd.func28, Tryd.ntmps28
  go_wp2
  go_ret
  have h1 : Below w.heap.size w (w.alloc (.cells #[.bool true] 4)) := (Below.refl _ _).alloc (Nat.le_refl _) _
  have hs : (w.alloc (.cells #[.bool true] 4)).heap.size = w.heap.size + 1 := Array.size_push ..
  have h2 : Below (w.alloc (.cells #[.bool true] 4)).heap.size (w.alloc (.cells #[.bool true] 4)) ((w.alloc (.cells #[.bool true] 4)).alloc (.cells #[.int .i64 0] 3)) := (Below.refl _ _).alloc (Nat.le_refl _) _
  refine ⟨rfl, ⟨?_, ?_, ?_, ?_⟩, h1.trans (h2.mono h1.size), by rw [show ((w.alloc (.cells #[.bool true] 4)).alloc (.cells #[.int .i64 0] 3)).heap.size = (w.alloc (.cells #[.bool true] 4)).heap.size + 1 from Array.size_push .., hs]⟩
  · exact (h2.cell (p := ⟨w.heap.size, 0, none⟩) (by rw [hs]; exact Nat.lt_succ_self _)).trans (by rw [World.cell?_alloc_new]; rfl)
  · rw [← hs, World.cell?_alloc_new]; rfl
  · exact (h2.frozen (p := ⟨w.heap.size, 0, none⟩) (by rw [hs]; exact Nat.lt_succ_self _)).trans (World.frozen?_alloc_new ..)
  · rw [← hs]; exact World.frozen?_alloc_new ..

set_option maxRecDepth 100000 in
set_option maxHeartbeats 1000000 in
/-- The judge at its first item. -/
theorem judge_first (p : Int × Int) (hk : 0 ≤ p.1 ∧ p.1 ≤ 1000) (hv : near p.2 1000000000) (B : Nat) (w : World) (hJ : JudgeAt w B true 0) (hG : Glob T er w) :
    Calls Tryd.prog 49 #[tv (item p), .pointer (some ⟨B, 0, none⟩), .pointer (some ⟨B + 1, 0, none⟩)] w fun e w' => e = .returned (.tuple #[.bool true, .bool true]) ∧ Hid (∃ w2, Below w.heap.size w w2 ∧ w' = (w2.setCell ⟨B, 0, none⟩ (.bool false)).setCell ⟨B + 1, 0, none⟩ (.int .i64 p.1)) := by
  obtain ⟨m, hm⟩ := hG.maxLen
  have hk64 : fits64 p.1 := by unfold fits64; omega
  have hv64 := near_fits hv (by decide)
  have hc := Tryd.strings_Cut ⟨(item p).toArray⟩ ⟨#[58]⟩ m w (by rw [tv_size]; have := item_len p hk64 hv64; omega) hm
  rw [tv_data, show (⟨#[58]⟩ : ByteArray).data.toList = [58] from rfl, cut_item] at hc
  have Hc := Lib.hid hc
  have Hp := Lib.hid (fun W (h : Glob T er W) => printed_itoa p.1 hk64 W h)
  have Hv := Lib.hid (fun W (h : Glob T er W) => value_itoa p.2 hv W h)
  have HG := Lib.hid hG
  have HJ := Lib.hid hJ
  have k1 : decide (0 ≤ p.1) = true := by simpa using hk.1
  have k2 : decide (p.1 ≤ 1000) = true := by simpa using hk.2
  generalize item p = it at *
  generalize Lib.itoa p.1 = x at *
  generalize Lib.itoa p.2 = y at *
  generalize p.1 = kk at *
  clear hm hc hk64 hv64 hG hk hv hJ
  go_enter Tryd.func49, Tryd.ntmps49
  go_wp2_with (first
    | (go_at_call 23; refine Hc.out.mono ?_; rintro e w' ⟨rfl, q, rfl⟩; have H1 : Hid (Below w.heap.size w (w.drewN q)) := below_drewN (Below.refl _ _) q; have HG1 := Lib.hid (HG.out.drewN q))
    | (go_at_call 46; refine (Hp.out _ HG1.out).mono ?_; rintro e w2 ⟨rfl, hb2⟩; have H2 := Lib.hid (H1.out.trans (hb2.out.mono H1.out.size)); have HG2 := Lib.hid (HG1.out.below' hb2.out); clear hb2)
    | (go_at_call 27; refine (Hv.out _ HG2.out).mono ?_; rintro e w3 ⟨rfl, hb3⟩; have H3 := Lib.hid (H2.out.trans (hb3.out.mono H2.out.size)); clear hb3; obtain ⟨j0, j1, j2, j3⟩ := HJ.out.below H3.out))
  go_ret2
  exact ⟨rfl, w3, H3.out, rfl⟩
end Go.Proofs.YtgnpcbpbmalgiaaDoor
