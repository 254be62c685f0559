/- The closures of GraphMaps: a number's letter; a number asked for, parted. -/
import Derived.Test.YthgkloapnihpaaaGreatM9
import Derived.Test.YthgkloapnihpaaaGreatUn
namespace Go.Proofs.YthgkloapnihpaaaGreat
open Go.RowKit Go.Maps Go.WideMaps Go.WideElems Go.ChangeShapes Go.WideShapes

theorem and7 (q : Int) : bits BinOp.and IntKind.i64 q 7 = q % 8 := by
  have e : bits BinOp.and IntKind.i64 q 7 = IntKind.i64.wrap (((q % 18446744073709551616).toNat &&& (2 ^ 3 - 1) : Nat) : Int) := by
    unfold bits
    simp
    rfl
  rw [e, Nat.and_two_pow_sub_one_eq_mod, IntKind.wrap_i64]
  omega
theorem let_fin : ∀ u : Fin 8, (ByteArray.mk #[97, 98, 99, 100, 101, 102, 103, 104]).extract u.val (u.val + 1) = S.lb (u.val : Int) := by decide +kernel
theorem let_at {u : Nat} (h : u < 8) : (ByteArray.mk #[97, 98, 99, 100, 101, 102, 103, 104]).extract u (u + 1) = S.lb (u : Int) := let_fin ⟨u, h⟩
theorem fit8 (q : Int) : S.fitS (q % 8) := by unfold S.fitS; omega
set_option maxHeartbeats 4000000 in
set_option maxRecDepth 100000 in
theorem letter_11 (x : Int) (V : World) : Calls Tryz.prog 11 #[iv x] V fun e w' => e = .returned (S.sv (x % 8)) ∧ Hid (Below V.heap.size V w') := by
  have h1 := and7 x
  obtain ⟨u, hu⟩ : ∃ u : Nat, x % 8 = (u : Int) := ⟨(x % 8).toNat, by omega⟩
  have hu8 : u < 8 := by omega
  rw [hu] at h1 ⊢
  have h2 := let_at hu8
  have hsz : (ByteArray.mk #[97, 98, 99, 100, 101, 102, 103, 104]).size = 8 := rfl
  have hu2 : (u : Int) < 8 := by omega
  have hu3 : u + 1 ≤ 8 := by omega
  have hu0 : (0 : Int) ≤ (u : Int) := by omega
  have hu1 : (u : Int) ≤ (u : Int) + 1 := by omega
  have hu4 : (u : Int) + 1 ≤ 8 := by omega
  have hu5 : (0 : Int) ≤ (u : Int) + 1 := by omega
  clear hu
  go_enter Tryz.func11, Tryz.ntmps11
  go_wp2
  go_ret
  exact ⟨rfl, Below.refl _ _⟩
/-- Who has been asked for, in a box. -/
structure Ask (bx : Nat) (va : Value) (A : List Int) (W : World) : Prop where
  box : W.heap[bx]? = some (.cells #[va] 23)
  row : IntsO W 0 va A
theorem fit_bounds {k : Int} (hk : fit64 k) : -9223372036854775808 ≤ k ∧ k ≤ 9223372036854775807 := by
  have h1 : (Lit.int IntKind.i64 k).wf = true := hk
  have h2 : IntKind.i64.min = -9223372036854775808 := by decide
  simpa [Lit.wf, h2] using h1
theorem tdiv_fit {k y : Int} (hk : fit64 k) (hy : 1 ≤ y) : fit64 (k.tdiv y) := by
  have h0 := Int.natAbs_tdiv_le_natAbs k y
  have h1 := fit_bounds hk
  refine WalkArith.wf_i64 ?_
  by_cases hs : 0 ≤ k
  · have h2 : 0 ≤ k.tdiv y := Int.tdiv_nonneg hs (by omega)
    omega
  · have h2 : k.tdiv y = -((-k).tdiv y) := by
      rw [Int.neg_tdiv]
      omega
    have h3 : 0 ≤ (-k).tdiv y := Int.tdiv_nonneg (by omega) (by omega)
    omega
theorem Ask.put {bx yb : Nat} {p : Option Addr} {c : Nat} {A : List Int} {k y : Int} {W w2 : World} {v' : Value} (h : Ask bx (.slice p A.length c) A W) (hb : W.heap[yb]? = some (.cells #[iv y] 3)) (hv : (Value.slice p A.length c).ownBlock ≠ some yb) (hne : yb ≠ bx)
    (i1 : IntsO w2 0 v' (A ++ [k])) (i2 : (W.alloc (.cells #[iv k] 3)).grownBy w2 (Value.slice p A.length c).ownBlock) (i3 : ∀ q, v'.ownBlock = some q → (Value.slice p A.length c).ownBlock = some q ∨ (W.alloc (.cells #[iv k] 3)).heap.size ≤ q) :
    ∃ W3, w2.setCell ⟨bx, 0, none⟩ v' = W3 ∧ w2.frozen? ⟨bx, 0, none⟩ = false ∧ w2.cell? ⟨bx, 0, none⟩ = some (.slice p A.length c) ∧ W3.cell? ⟨yb, 0, none⟩ = some (iv y) ∧ Hid (Ask bx v' (A ++ [k]) W3 ∧ Off (fun q => q = bx ∨ (Value.slice p A.length c).ownBlock = some q) W W3 ∧ ∀ q, v'.ownBlock = some q → (Value.slice p A.length c).ownBlock = some q ∨ W.heap.size ≤ q) := by
  have hlt := (Array.getElem?_eq_some_iff.1 h.box).1
  have hlty := (Array.getElem?_eq_some_iff.1 hb).1
  have hs : (W.alloc (.cells #[iv k] 3)).heap.size = W.heap.size + 1 := by simp
  have hb1 : (W.alloc (.cells #[iv k] 3)).heap[bx]? = some (.cells #[.slice p A.length c] 23) := (Below.heap_alloc _ _ _ hlt).trans h.box
  have hn1 := (h.row.alloc (.cells #[iv k] 3)).ne hb1 (fun cur e => by cases e)
  have hb2 : w2.heap[bx]? = some (.cells #[.slice p A.length c] 23) := (i2.block bx (by omega) (fun e => hn1 e.symm)).trans hb1
  have hy1 : (W.alloc (.cells #[iv k] 3)).heap[yb]? = some (.cells #[iv y] 3) := (Below.heap_alloc _ _ _ hlty).trans hb
  have hy2 : w2.heap[yb]? = some (.cells #[iv y] 3) := (i2.block yb (by omega) (fun e => hv e.symm)).trans hy1
  have hb3 : (w2.setCell ⟨bx, 0, none⟩ v').heap[bx]? = some (.cells #[v'] 23) := heap_setCell_same w2 bx 0 _ _ _ hb2
  have hn2 : v'.ownBlock ≠ some bx := i1.ne hb2 (fun cur e => by cases e)
  refine ⟨_, rfl, frozen_of_row _ bx _ _ 23 hb2, (cell_of_row _ _ 0 _ _ _ hb2).trans rfl, (cell_of_row _ _ 0 _ _ _ ((Below.heap_setCell _ _ _ _ (fun e => hne e)).trans hy2)).trans rfl, ⟨hb3, ?_⟩, ⟨?_, ?_, ?_, ?_, fun q hq hz => ?_⟩, fun q e => (i3 q e).imp id fun g => by omega⟩
  · rcases i1 with h0 | ⟨g, off, cap, cur, rfl, hB, hg, r⟩
    · exact .inl h0
    · exact .inr ⟨g, off, cap, cur, rfl, hB, (Below.heap_setCell _ _ _ _ (fun e => hn2 (by rw [e]; rfl))).trans hg, r⟩
  · exact ((Below.refl 0 w2).setCell (p := ⟨bx, 0, none⟩) (Nat.zero_le _) v').os.trans i2.os
  · exact ((Below.refl 0 w2).setCell (p := ⟨bx, 0, none⟩) (Nat.zero_le _) v').tape.trans i2.tape
  · exact ((Below.refl 0 w2).setCell (p := ⟨bx, 0, none⟩) (Nat.zero_le _) v').output.trans i2.output
  · have := i2.size
    simp
    omega
  · have h1 : q ≠ bx := fun e => hz (.inl e)
    have h2 : (Value.slice p A.length c).ownBlock ≠ some q := fun e => hz (.inr e)
    exact (Below.heap_setCell _ _ _ _ h1).trans ((i2.block q (by omega) (fun e => h2 e.symm)).trans (Below.heap_alloc _ _ _ hq))
set_option maxHeartbeats 4000000 in
set_option maxRecDepth 100000 in
theorem ask_7 (k y : Int) (bx yb : Nat) (va : Value) (A : List Int) (hy : 1 ≤ y) (hA : A.length ≤ 1000) (hq : fit64 (k.tdiv y)) (W : World) (h : Ask bx va A W) (hb : W.heap[yb]? = some (.cells #[iv y] 3)) (hv : va.ownBlock ≠ some yb) (hne : yb ≠ bx) :
    Calls Tryz.prog 7 #[iv k, .pointer (some ⟨bx, 0, none⟩), .pointer (some ⟨yb, 0, none⟩)] W fun e w' => e = .returned (iv (k.tdiv y)) ∧ Hid (∃ va', Ask bx va' (A ++ [k]) w' ∧ Off (fun q => q = bx ∨ va.ownBlock = some q) W w' ∧ ∀ q, va'.ownBlock = some q → va.ownBlock = some q ∨ W.heap.size ≤ q) := by
  obtain ⟨p, c, e, -⟩ := h.row.sl
  subst e
  have H := Lib.hid h
  have Hb := Lib.hid hb
  have Hv := Lib.hid hv
  have Hne := Lib.hid hne
  have HA := Lib.hid hA
  have c0 := (cell_of_row _ _ 0 _ _ _ h.box).trans (rfl : _ = some (Value.slice p A.length c))
  have hy0 : y ≠ 0 := by omega
  clear h hb hv hne hA
  go_enter Tryz.func7, Tryz.ntmps7
  go_wp2_with (first
    | (at_builtin; refine wpList_append_o rfl _ _ rfl 0 (.slice p A.length c) A k rfl (H.out.row.alloc _) ⟨W.heap.size, 0, none⟩ 1 rfl (news_new W #[iv k] 3) (by have := HA.out; omega) (Nat.zero_le _) ?_
       intro v' w2 i1 i2 i3
       obtain ⟨p2, c2, rfl, -⟩ := i1.sl
       obtain ⟨W3, hW3, f0, f1, f2, HK⟩ := H.out.put Hb.out Hv.out Hne.out i1 i2 i3
       rw [List.length_append, List.length_singleton] at hW3
       clear i1 i2 i3)
    | go_in)
  go_ret
  refine ⟨?_, _, HK.out⟩
  have hw : wrap64 (k.tdiv y) = k.tdiv y := by
    have := fit_bounds hq
    unfold wrap64
    omega
  show Ending.returned (iv (wrap64 (k.tdiv y))) = _
  rw [hw]
end Go.Proofs.YthgkloapnihpaaaGreat
