/- Relations of whole numbers: New, Has, Add, Len, by contracts. -/
import Derived.Test.YtadlgkakjaecdaaProg
import Derived.Test.YtadlgkakjaecdaaPk
import Derived.WalkSmall
import Derived.WalkKit
import Derived.WalkLawsBesides
import Derived.WalkSpells
import Derived.OneCell
import Derived.LoopN
import Derived.LoopTactic
import Derived.Lib.Hide
import Derived.BigQuiet
import Derived.Deep.QuietTactic
import Derived.Outline
import Derived.Maps.AppendAt
import Derived.RangeFuncBox
namespace Go.Proofs.Ytadlgkakjaecdaa
open Go.RowKit Go.Maps Go.WideMaps Go.WideElems Go.ChangeShapes Go.WideShapes

theorem laidOut : laidOutB Try.prog = true := by kernel_rfl
theorem A57 : ArrKey Try.prog 57 3 2 := ⟨Try.underlying57, by kernel_rfl, by kernel_rfl, by kernel_rfl⟩
theorem sz57 : ∃ m, Try.prog.types.size = m + 1 := ⟨Try.prog.types.size - 1, by kernel_rfl⟩
theorem K57 : Keyed Try.prog 57 := Keyed.of_law (deep_law_laid laidOut (m := 3) (by decide) (of_decide_eq_true (by kernel_rfl)) (by kernel_rfl) (by kernel_rfl))
theorem zero62 (w : World) : (zeroValue 62).run Try.prog w = .ok (.agg #[]) w := by kernel_rfl
abbrev DU := DataW Unit

/-- A relation that holds just these pairs: its box, and the map. -/
structure RelAt (r b : Nat) (L : List Pr) (D : DU) (W : World) : Prop where
  box : Boxed W r 61 (.map (some b))
  prs : PairsAt Try.prog 57 b L D W
theorem RelAt.rlt {r b : Nat} {L : List Pr} {D : DU} {W : World} (h : RelAt r b L D W) : r < W.heap.size := (Array.getElem?_eq_some_iff.1 h.box).1
theorem RelAt.blt {r b : Nat} {L : List Pr} {D : DU} {W : World} (h : RelAt r b L D W) : b < W.heap.size := h.prs.lt
theorem RelAt.ne {r b : Nat} {L : List Pr} {D : DU} {W : World} (h : RelAt r b L D W) : r ≠ b := by
  intro e
  obtain ⟨es, clock, hb, _⟩ := h.prs.own
  have := h.box
  rw [e] at this
  rw [show W.heap[b]? = _ from this] at hb
  cases hb
theorem RelAt.kept {r b : Nat} {L : List Pr} {D : DU} {W W' : World} {row : Option Nat} (h : RelAt r b L D W) (hg : W.grownBy W' row) (h1 : some r ≠ row) (h2 : some b ≠ row) : RelAt r b L D W' :=
  ⟨(hg.block r h.rlt h1).trans h.box, h.prs.kept hg h2⟩
theorem grown_below {W W' : World} (h : Below W.heap.size W W') : W.grownBy W' none := ⟨h.os, h.tape, h.output, h.size, fun k hk _ => h.block k hk⟩
theorem RelAt.below {r b : Nat} {L : List Pr} {D : DU} {W W' : World} (h : RelAt r b L D W) (hb : Below W.heap.size W W') : RelAt r b L D W' := h.kept (grown_below hb) (by simp) (by simp)
theorem RelAt.drew {r b : Nat} {L : List Pr} {D : DU} {W : World} (h : RelAt r b L D W) : RelAt r b L D W.drew := ⟨h.box, h.prs.drew⟩

set_option maxHeartbeats 400000 in
theorem new_any (w : World) : Calls Try.prog 10 #[] w fun e w' => ∃ r b, e = .returned (.pointer (some ⟨r, 0, none⟩)) ∧ Hid (RelAt r b [] (.map []) w' ∧ Below w.heap.size w w' ∧ w.heap.size ≤ r ∧ w.heap.size ≤ b) := by
  have hmm := @run_makeMap Try.prog
  obtain ⟨W, hW⟩ : ∃ W, w.alloc (.map #[] 0) = W := ⟨_, rfl⟩
  have hb : Below w.heap.size w W := by rw [← hW]; exact (Below.refl _ _).alloc (Nat.le_refl _) _
  have hs : W.heap.size = w.heap.size + 1 := by rw [← hW]; simp
  have hp : PairsAt (H := Unit) Try.prog 57 w.heap.size [] (.map []) W := hW ▸ pairs_made Try.prog 57 w
  have Hb := Lib.hid hb
  have Hs := Lib.hid hs
  have Hp := Lib.hid hp
  clear hb hs hp
  go_enter Try.func10, Try.ntmps10
  go_wp2
  go_ret
  refine ⟨_, _, rfl, ⟨Boxed.new _ _ _, Hp.out.kept (World.grownBy_alloc W _ none) (by simp)⟩, Hb.out.alloc (by rw [Hs.out]; omega) _, by rw [Hs.out]; omega, Nat.le_refl _⟩

set_option maxHeartbeats 1000000 in
theorem has_any (r b : Nat) (L : List Pr) (D : DU) (p : Pr) (hf : FitP p) (w : World) (h : RelAt r b L D w) :
    Calls Try.prog 12 #[.pointer (some ⟨r, 0, none⟩), .int .i64 p.1, .int .i64 p.2] w fun e w' => e = .returned (.bool (decide (p ∈ L))) ∧ Hid (Below w.heap.size w w') := by
  have c0 := h.box.cell
  have HO := Lib.hid h.prs.own
  have HK := Lib.hid (key_pl A57 Try.underlying3 sz57 hf)
  have HH := h.prs.has p hf
  rw [← HH]
  have hb2 : Below w.heap.size w (w.alloc (.cells #[] 62)) := (Below.refl _ _).alloc (Nat.le_refl _) _
  have Hb2 := Lib.hid hb2
  clear HH h hb2
  go_enter Try.func12, Try.ntmps12
  go_wp2_with (at_lookup; refine wpList_lookup_own_unit _ rfl _ _ 59 rfl 57 62 K57 Try.underlying59 (zero62 _) b L.length D rfl HO.out _ _ rfl HK.out ?_)
  go_ret
  exact ⟨rfl, Hb2.out⟩

set_option maxHeartbeats 1000000 in
theorem add_in (r b : Nat) (L : List Pr) (D : DU) (p : Pr) (hf : FitP p) (hp : p ∈ L) (w : World) (h : RelAt r b L D w) :
    Calls Try.prog 13 #[.pointer (some ⟨r, 0, none⟩), .int .i64 p.1, .int .i64 p.2] w fun e w' => e = .returned (.bool false) ∧ Hid (Below w.heap.size w w') := by
  have hh := has_any r b L D p hf w h
  rw [decide_eq_true hp] at hh
  have HH := Lib.hid hh
  clear hh h hp hf
  go_enter Try.func13, Try.ntmps13
  go_wp2_with (first | (go_at_call 12; refine HH.out.mono ?_; rintro e w2 ⟨rfl, h2⟩))
  go_ret
  exact ⟨rfl, h2.out⟩

set_option maxHeartbeats 1000000 in
theorem add_new (r b : Nat) (L : List Pr) (D : DU) (p : Pr) (hf : FitP p) (hp : p ∉ L) (hn : L.length ≤ 1000000) (w : World) (h : RelAt r b L D w) :
    Calls Try.prog 13 #[.pointer (some ⟨r, 0, none⟩), .int .i64 p.1, .int .i64 p.2] w fun e w' => e = .returned (.bool true) ∧ Hid (RelAt r b (L ++ [p]) (D.put (pl p) (.agg [])) w' ∧ w.grownBy w' (some b)) := by
  have hh := has_any r b L D p hf w h
  rw [decide_eq_false hp] at hh
  have HH := Lib.hid hh
  have H := Lib.hid h
  have Hf := Lib.hid hf
  have Hp := Lib.hid hp
  have HK := Lib.hid (key_pl A57 Try.underlying3 sz57 hf)
  clear hh h hp hf
  go_enter Try.func13, Try.ntmps13
  go_wp2_with (first
    | (go_at_call 12; refine HH.out.mono ?_; rintro e w2 ⟨rfl, h2⟩; have H2 := Lib.hid (H.out.below h2.out); have c2 := H2.out.box.cell)
    | (at_mapUpdate; refine wpList_mapUpdate_own _ rfl _ _ _ 59 rfl 57 62 K57 Try.underlying59 _ b L.length D rfl H2.out.prs.own (by unfold maxLen; omega) _ _ _ rfl rfl HK.out _ [] unitElem_mk ?_; intro w3 hown3 hgrow3))
  go_ret
  refine ⟨rfl, ⟨(hgrow3.block r H2.out.rlt (fun e => H2.out.ne (Option.some.inj e))).trans H2.out.box, pairs_put A57 Try.underlying3 sz57 K57 H2.out.prs Hp.out Hf.out hown3⟩, ?_⟩
  exact ((grown_below h2.out).but _).trans hgrow3

theorem len_any (r b : Nat) (L : List Pr) (D : DU) (w : World) (h : RelAt r b L D w) :
    Calls Try.prog 35 #[.pointer (some ⟨r, 0, none⟩)] w fun e w' => e = .returned (.int .i64 L.length) ∧ w = w' := by
  have c0 := h.box.cell
  have hl := h.prs.own.len Try.underlying59
  rw [h.prs.size] at hl
  clear h
  go_enter Try.func35, Try.ntmps35
  go_wp2
  go_ret
  exact ⟨rfl, rfl⟩
end Go.Proofs.Ytadlgkakjaecdaa
