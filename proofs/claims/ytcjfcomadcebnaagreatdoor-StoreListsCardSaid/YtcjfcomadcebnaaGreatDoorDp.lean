/- store.Do at an object that is there; Len, At of stores. -/
import Derived.Test.YtcjfcomadcebnaaGreatDoorDo
namespace Go.Proofs.YtcjfcomadcebnaaGreatDoor
open Go.RowKit Go.Maps Go.WideMaps Go.WideElems Go.ChangeShapes Go.WideShapes
variable {T : TypeId} {er : Nat → Addr}

set_option maxRecDepth 100000 in
theorem slen_any (a : Option Addr) (n c : Nat) (w : World) : Calls Tryz.prog 32 #[.agg #[.slice a n c]] w fun e w' => e = .returned (.int .i64 n) ∧ Hid (Below w.heap.size w w') := by
  obtain ⟨W, hW, Hb, hs, Hx⟩ := box_new w 29 (.slice a n c)
  have x0 := Hx.out.cell
  have HL := Lib.hid (len_sta a n c W)
  go_enter Tryz.func32, Tryz.ntmps32
  go_wp2_with (first | (go_at_call 51; refine HL.out.mono ?_; rintro e w2 ⟨rfl, h2⟩))
  go_ret
  exact ⟨rfl, Hb.out.trans (h2.out.mono Hb.out.size)⟩

set_option maxHeartbeats 1000000 in
set_option maxRecDepth 100000 in
theorem sat_in (a : Option Addr) (n c : Nat) (xs : List Value) (k : Nat) (hk : k < n) (p q : Int) (r : ByteArray) (hp : xs[k * 3]? = some (.int .i64 p)) (hq : xs[k * 3 + 1]? = some (.int .i64 q)) (hr : xs[k * 3 + 2]? = some (.string r)) (w : World) (h : SlAt w a xs) :
    Calls Tryz.prog 10 #[.agg #[.slice a n c], .int .i64 k] w fun e w' => e = .returned (.tuple #[.agg #[.int .i64 p, .int .i64 q, .string r], .bool true]) ∧ Hid (Below w.heap.size w w') := by
  obtain ⟨W1, W, hW1, hW, Hb, hs1, hs, Hx, Hy⟩ := box_new13 w 29 (.slice a n c) (.int .i64 0) (.int .i64 0) (.string ⟨#[]⟩) 34
  have x0 := Hx.out.cell
  have HA := Lib.hid (at_sta_in a n c xs k hk p q r hp hq hr W (h.below Hb.out))
  clear h hp hq hr hk
  go_enter Tryz.func10, Tryz.ntmps10
  go_wp2_with (first | (go_at_call 38; refine HA.out.mono ?_; rintro e w2 ⟨rfl, h2⟩; obtain ⟨⟨s0, f0⟩, ⟨s1, f1⟩, ⟨s2, f2⟩, hfin⟩ := row_set3 ((h2.out.block _ hs.out).trans Hy.out) (.int .i64 p) (.int .i64 q) (.string r); have Hfin := Lib.hid hfin; clear hfin))
  refine bodyPost_ret (results_row_tmp rfl _ _ W1.heap.size 34 #[.int .i64 p, .int .i64 q, .string r] (0, 0) _ rfl Hfin.out Tryz.underlying34 rfl (by kernel_rfl)) rfl ?_
  exact ⟨rfl, (((Hb.out.trans (h2.out.mono Hb.out.size)).setCell (p := ⟨W1.heap.size, 0, none⟩) (Nat.le_of_lt hs1.out) _).setCell (p := ⟨W1.heap.size, 1, none⟩) (Nat.le_of_lt hs1.out) _).setCell (p := ⟨W1.heap.size, 2, none⟩) (Nat.le_of_lt hs1.out) _⟩

set_option maxHeartbeats 1000000 in
set_option maxRecDepth 100000 in
theorem sdo_ok (a : Option Addr) (n c : Nat) (xs : List Value) (hx : xs.length = n * 3) (h1 : ∀ u ∈ xs, u.oneCell' = true) (hn : n ≤ 1000000) (k : Nat) (hk : k < n) (p q : Int) (r : List UInt8) (hp : xs[k * 3]? = some (.int .i64 p)) (hq : xs[k * 3 + 1]? = some (.int .i64 q)) (hr : xs[k * 3 + 2]? = some (tv r))
    (op key val p' q' ret got : Int) (r' : List UInt8) (hd : ∀ W, Glob T er W → DoIs p q r op key val (.tuple #[stv p' q' r', .int .i64 ret, .int .i64 got, .nilIface]) W) (w : World) (h : SlAt w a xs) (hG : Glob T er w) :
    Calls Tryz.prog 31 #[.agg #[.slice a n c], .int .i64 k, .int .i64 op, .int .i64 key, .int .i64 val] w fun e w' => ∃ v', e = .returned (.tuple #[.agg #[v'], .int .i64 ret, .int .i64 got, .nilIface]) ∧ Hid (w'.ownsRow w.heap.size 34 3 v' n (((xs.set (k * 3) (.int .i64 p')).set (k * 3 + 1) (.int .i64 q')).set (k * 3 + 2) (tv r')) ∧ Below w.heap.size w w') := by
  obtain ⟨W1, W, hW1, hW, Hb, hs1, hs, Hx, Hy⟩ := box_new2 w 29 29 (.slice a n c) (.slice none 0 0)
  have x0 := Hx.out.cell
  have HA := Lib.hid (at_sta_in a n c xs k hk p q ⟨r.toArray⟩ hp hq hr W (h.below Hb.out))
  have HG := Lib.hid (hG.below' Hb.out)
  have HD := Lib.hid hd
  have HWi := Lib.hid (fun W' (hb : Below w.heap.size w W') => with_sta_in a n c xs hx h1 hn k hk p' q' ⟨r'.toArray⟩ W' (h.below hb))
  clear hG h hx h1 hp hq hr hd hk
  go_enter Tryz.func31, Tryz.ntmps31
  go_wp2_with (first
    | (go_at_call 38; refine HA.out.mono ?_; rintro e w2 ⟨rfl, h2⟩; obtain ⟨W3, hW3, Hb3, hs3, Hp3⟩ := cells_new w2 #[.int .i64 p, .int .i64 q, tv r] 34; obtain ⟨y0, y1, y2⟩ := row_three Hp3.out; have HG3 := Lib.hid ((HG.out.below' h2.out).below' Hb3.out); have H3 := Lib.hid ((Hb.out.trans (h2.out.mono Hb.out.size)).trans (Hb3.out.mono (Nat.le_trans Hb.out.size h2.out.size))); have HX3 := Lib.hid (boxed_below (boxed_below Hx.out h2.out (Nat.lt_trans hs1.out hs.out)) Hb3.out (Nat.lt_of_lt_of_le (Nat.lt_trans hs1.out hs.out) h2.out.size)); have HY3 := Lib.hid (boxed_below (boxed_below Hy.out h2.out hs.out) Hb3.out (Nat.lt_of_lt_of_le hs.out h2.out.size)); have hz3 := Lib.hid (Nat.lt_of_lt_of_le hs.out (Nat.le_trans h2.out.size (Nat.le_of_lt hs3.out))))
    | (go_at_call 49; refine (HD.out _ HG3.out).mono ?_; rintro e w4 ⟨rfl, h4⟩; obtain ⟨W5, hW5, Hb5, hs5, Hp5⟩ := cells_new w4 #[.int .i64 p', .int .i64 q', tv r'] 34; clear y0 y1 y2; obtain ⟨y0, y1, y2⟩ := row_three Hp5.out; have H5 := Lib.hid ((H3.out.trans (h4.out.mono H3.out.size)).trans (Hb5.out.mono (Nat.le_trans H3.out.size h4.out.size))); have hz4 := Lib.hid (Nat.lt_of_lt_of_le hz3.out h4.out.size); have HX5 := Lib.hid (boxed_below (boxed_below HX3.out h4.out (Nat.lt_trans hs1.out hz3.out)) Hb5.out (Nat.lt_trans hs1.out hz4.out)); have HY5 := Lib.hid (boxed_below (boxed_below HY3.out h4.out hz3.out) Hb5.out hz4.out); have x5 := HX5.out.cell)
    | (go_at_call 50; refine (HWi.out _ H5.out).mono ?_; rintro e w6 ⟨v6, rfl, h6⟩; obtain ⟨a6, c6, rfl, -, -⟩ := row_sl h6.out.1; have HY6 := Lib.hid (boxed_below HY5.out h6.out.2 (Nat.lt_trans hz4.out hs5.out)); have y6 := HY6.out.cell; have f6 := HY6.out.frozen))
  have hz5 := Nat.lt_trans hz4.out hs5.out
  refine bodyPost_ret (results_row_tmp3 rfl _ _ W1.heap.size 29 #[.slice a6 n c6] (0, 0) _ rfl (HY6.out.set _) Tryz.underlying29 rfl (by kernel_rfl)) rfl ?_
  exact ⟨_, rfl, row_base (ownsRow_setCell_below h6.out.1 hz5 _) (Nat.le_of_lt (Nat.lt_trans hs1.out hz5)), (H5.out.trans (h6.out.2.mono H5.out.size)).setCell (p := ⟨W1.heap.size, 0, none⟩) (Nat.le_of_lt hs1.out) _⟩
end Go.Proofs.YtcjfcomadcebnaaGreatDoor
