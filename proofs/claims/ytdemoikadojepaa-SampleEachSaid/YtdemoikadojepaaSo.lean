/- Names, Separates; the first examples. -/
import Derived.Test.YtdemoikadojepaaSn
namespace Go.Proofs.Ytdemoikadojepaa
open Go.RowKit Go.Maps Go.WideMaps Go.WideElems Go.ChangeShapes Go.WideShapes

abbrev namesC : Array Value := #[.string staleT, .string tornT, .string earlyT, .string plainT]
/-- What a call of Names gives. -/
def NamesRes (w : World) (e : Ending) (w' : World) : Prop := e = .returned (.slice (some ⟨w.heap.size, 0, none⟩) 4 4) ∧ Hid (w'.heap[w.heap.size]? = some (.cells namesC 9) ∧ Below w.heap.size w w')
theorem names_any (w : World) : Calls Try.prog 15 #[] w (NamesRes w) := by
  obtain ⟨W, hW, Hb, hs, Hx⟩ := cells_new w namesC 9
  go_enter Try.func15, Try.ntmps15
  go_wp2
  go_ret
  exact ⟨rfl, Hx.out, Hb.out⟩
theorem dnames_any (w : World) : Calls Try.prog 12 #[] w (NamesRes w) := by
  obtain ⟨W, hW, Hb, hs, Hx⟩ := cells_new w namesC 9
  go_enter Try.func12, Try.ntmps12
  go_wp2
  go_ret
  exact ⟨rfl, Hx.out, Hb.out⟩
theorem names_sl {w w' : World} (h : w'.heap[w.heap.size]? = some (.cells namesC 9)) : SlAt w' (some ⟨w.heap.size, 0, none⟩) (txs [staleT, tornT, earlyT, plainT]) := by
  refine .inr ⟨w.heap.size, 0, rfl, fun _ => (Array.getElem?_eq_some_iff.1 h).1, fun j u hj => ?_⟩
  rw [Nat.zero_add, cell_of_row _ _ j _ _ _ h]
  rw [← hj]; exact (List.getElem?_toArray (xs := txs [staleT, tornT, earlyT, plainT]) (i := j))
/-- The name that separates a level. -/
inductive Sep : Int → ByteArray → Bool → Prop
  | two : Sep 2 staleT true
  | three : Sep 3 tornT true
  | four : Sep 4 earlyT true
  | out (l : Int) : l < 2 ∨ 4 < l → Sep l ⟨#[]⟩ false
theorem sep_ex (l : Int) : ∃ s b, Sep l s b := by
  by_cases h : l < 2 ∨ 4 < l
  · exact ⟨_, _, .out l h⟩
  · have : l = 2 ∨ l = 3 ∨ l = 4 := by omega
    rcases this with rfl | rfl | rfl
    · exact ⟨_, _, .two⟩
    · exact ⟨_, _, .three⟩
    · exact ⟨_, _, .four⟩
theorem sep_any {l : Int} {s : ByteArray} {b : Bool} (h : Sep l s b) (w : World) : Calls Try.prog 11 #[.int .i64 l] w fun e w' => e = .returned (.tuple #[.string s, .bool b]) ∧ w' = w := by
  cases h with
  | two => go_enter Try.func11, Try.ntmps11; go_wp2; go_ret2; exact ⟨rfl, rfl⟩
  | three => go_enter Try.func11, Try.ntmps11; go_wp2; go_ret2; exact ⟨rfl, rfl⟩
  | four => go_enter Try.func11, Try.ntmps11; go_wp2; go_ret2; exact ⟨rfl, rfl⟩
  | out _ h =>
    have k2 : (l == 2) = false := by simp; omega
    have k3 : (l == 3) = false := by simp; omega
    have k4 : (l == 4) = false := by simp; omega
    clear h
    go_enter Try.func11, Try.ntmps11
    go_wp2
    go_ret2
    exact ⟨rfl, rfl⟩

theorem wide_3 (w : World) : Calls Try.prog 9 #[.int .i64 3] w (GetRes 1 21 [1, 0] (wideE 3) true w) := wide_fit 3 (by decide) w
set_option maxHeartbeats 4000000 in
theorem first_any (w : World) : Calls Try.prog 6 #[] w fun e w' => e = .returned (.bool true) ∧ Hid (Below w.heap.size w w') := by
  go_enter Try.func6, Try.ntmps6
  go_wp2_with (first
    | (go_at_call 7; (with_reducible refine (get_stale w).mono ?_); rintro e w1 ⟨vo, v, rfl, h1⟩
       obtain ⟨ao, co, rfl, -, -⟩ := row_sl h1.out.1.obj
       obtain ⟨ae1, ce1, rfl, -, -⟩ := row_sl h1.out.1.evs
       obtain ⟨X1, hX1, Hb1, hs1, Hx1⟩ := cells_new w1 #[.slice ao 1 co, .slice ae1 10 ce1] 26
       have L1 : Hid (Below w.heap.size w X1) := h1.out.2.trans (Hb1.out.mono h1.out.2.size)
       have K1 := Lib.hid (Below.refl X1.heap.size X1))
    | (go_at_call 7; (with_reducible refine (get_torn X1).mono ?_); rintro e w2 ⟨vo, v, rfl, h2⟩
       obtain ⟨ao, co, rfl, -, -⟩ := row_sl h2.out.1.obj
       obtain ⟨ae2, ce2, rfl, -, -⟩ := row_sl h2.out.1.evs
       obtain ⟨X2, hX2, Hb2, hs2, Hx2⟩ := cells_new w2 #[.slice ao 2 co, .slice ae2 14 ce2] 26
       have L2 : Hid (Below X1.heap.size X1 X2) := h2.out.2.trans (Hb2.out.mono h2.out.2.size)
       have K2 := Lib.hid (Below.refl X2.heap.size X2)
       replace K1 := Lib.hid (K1.out.trans (L2.out.mono K1.out.size)))
    | (go_at_call 7; (with_reducible refine (get_early X2).mono ?_); rintro e w3 ⟨vo, v, rfl, h3⟩
       obtain ⟨ao, co, rfl, -, -⟩ := row_sl h3.out.1.obj
       obtain ⟨ae3, ce3, rfl, -, -⟩ := row_sl h3.out.1.evs
       obtain ⟨X3, hX3, Hb3, hs3, Hx3⟩ := cells_new w3 #[.slice ao 1 co, .slice ae3 10 ce3] 26
       have L3 : Hid (Below X2.heap.size X2 X3) := h3.out.2.trans (Hb3.out.mono h3.out.2.size)
       have K3 := Lib.hid (Below.refl X3.heap.size X3)
       replace K1 := Lib.hid (K1.out.trans (L3.out.mono K1.out.size))
       replace K2 := Lib.hid (K2.out.trans (L3.out.mono K2.out.size)))
    | (go_at_call 7; (with_reducible refine (get_plain X3).mono ?_); rintro e w4 ⟨vo, v, rfl, h4⟩
       obtain ⟨ao, co, rfl, -, -⟩ := row_sl h4.out.1.obj
       obtain ⟨ae4, ce4, rfl, -, -⟩ := row_sl h4.out.1.evs
       obtain ⟨X4, hX4, Hb4, hs4, Hx4⟩ := cells_new w4 #[.slice ao 4 co, .slice ae4 25 ce4] 26
       have L4 : Hid (Below X3.heap.size X3 X4) := h4.out.2.trans (Hb4.out.mono h4.out.2.size)
       have K4 := Lib.hid (Below.refl X4.heap.size X4)
       replace K1 := Lib.hid (K1.out.trans (L4.out.mono K1.out.size))
       replace K2 := Lib.hid (K2.out.trans (L4.out.mono K2.out.size))
       replace K3 := Lib.hid (K3.out.trans (L4.out.mono K3.out.size)))
    | (go_at_call 9; (with_reducible refine (wide_3 X4).mono ?_); rintro e w5 ⟨vo, v, rfl, h5⟩
       obtain ⟨ao, co, rfl, -, -⟩ := row_sl h5.out.1.obj
       obtain ⟨ae5, ce5, rfl, -, -⟩ := row_sl h5.out.1.evs
       obtain ⟨X5, hX5, Hb5, hs5, Hx5⟩ := cells_new w5 #[.slice ao 1 co, .slice ae5 21 ce5] 26
       have L5 : Hid (Below X4.heap.size X4 X5) := h5.out.2.trans (Hb5.out.mono h5.out.2.size)
       have K5 := Lib.hid (Below.refl X5.heap.size X5)
       replace K1 := Lib.hid (K1.out.trans (L5.out.mono K1.out.size))
       replace K2 := Lib.hid (K2.out.trans (L5.out.mono K2.out.size))
       replace K3 := Lib.hid (K3.out.trans (L5.out.mono K3.out.size))
       replace K4 := Lib.hid (K4.out.trans (L5.out.mono K4.out.size))
       obtain ⟨-, z1⟩ := row_two ((K1.out.block w1.heap.size hs1.out).trans Hx1.out)
       obtain ⟨-, z2⟩ := row_two ((K2.out.block w2.heap.size hs2.out).trans Hx2.out)
       obtain ⟨-, z3⟩ := row_two ((K3.out.block w3.heap.size hs3.out).trans Hx3.out)
       obtain ⟨-, z4⟩ := row_two ((K4.out.block w4.heap.size hs4.out).trans Hx4.out)
       obtain ⟨-, z5⟩ := row_two ((K5.out.block w5.heap.size hs5.out).trans Hx5.out)))
  go_ret
  exact ⟨rfl, L1.out.trans (K1.out.mono L1.out.size)⟩
end Go.Proofs.Ytdemoikadojepaa
