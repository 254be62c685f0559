/- Rows of events and builders: the ground; tell, by a contract. -/
import Derived.Test.YtdemoikadojepaaProg
import Derived.WalkSmall
import Derived.WalkKit
import Derived.WalkLawsBesides
import Derived.WalkSpells
import Derived.OneCell
import Derived.LoopN
import Derived.LoopTactic
import Derived.Lib.Hide
import Derived.BigQuiet
import Derived.Deep.QuietTactic
import Derived.Deep.AppendLies
import Derived.Deep.LoopGhost
import Derived.Outline
import Derived.Maps.AppendAt
import Derived.RangeFuncBox
import Derived.Laws.AppendOwn
import Derived.Laws.AppendOwnNone
import Derived.Laws.OwnMore
import Derived.Laws.Rows
import Derived.Lib.SliceRun
import Derived.OwnWalk
import Derived.Deep.RegionHeld3
import Derived.Deep.RegionWith
import Derived.Deep.RegionLaw
namespace Go.Proofs.Ytdemoikadojepaa
open Go.RowKit Go.Maps Go.WideMaps Go.WideElems Go.ChangeShapes Go.WideShapes

/-- Whole numbers as cells. -/
abbrev ints (l : List Int) : List Value := l.map (Value.int .i64)
theorem ints_one (l : List Int) : ∀ u ∈ ints l, u.oneCell' = true := by
  intro u hu
  obtain ⟨x, _, rfl⟩ := List.mem_map.1 hu
  rfl
/-- Cells that lie behind a slice's address. -/
def SlAt (W : World) (a : Option Addr) (xs : List Value) : Prop := (a = none ∧ xs = []) ∨ ∃ b off, a = some ⟨b, off, none⟩ ∧ (xs ≠ [] → b < W.heap.size) ∧ ∀ j u, xs[j]? = some u → W.cell? ⟨b, off + j, none⟩ = some u
theorem SlAt.below {W W' : World} {a : Option Addr} {xs : List Value} (h : SlAt W a xs) (hb : Below W.heap.size W W') : SlAt W' a xs := by
  rcases h with h | ⟨b, off, e, hl, h⟩
  · exact .inl h
  · refine .inr ⟨b, off, e, fun hx => Nat.lt_of_lt_of_le (hl hx) hb.size, fun j u hj => ?_⟩
    have hne : xs ≠ [] := by intro e'; rw [e'] at hj; simp at hj
    exact (hb.cell (p := ⟨b, off + j, none⟩) (hl hne)).trans (h j u hj)
theorem SlAt.drew {W : World} {a : Option Addr} {xs : List Value} (h : SlAt W a xs) : SlAt W.drew a xs := h
/-- A row of one's own, read. -/
theorem row_sl {W : World} {B : Nat} {e : TypeId} {size n : Nat} {v : Value} {xs : List Value} (h : W.ownsRow B e size v n xs) : ∃ a c, v = .slice a n c ∧ SlAt W a xs ∧ n ≤ c := by
  obtain ⟨hl, ⟨rfl, h0⟩ | ⟨g, cap, cur, rfl, hb, hg, hn, hm, hs, ht⟩⟩ := h
  · subst h0
    exact ⟨none, 0, rfl, .inl ⟨rfl, List.eq_nil_of_length_eq_zero (by rw [hl]; simp)⟩, Nat.le_refl _⟩
  · refine ⟨_, cap, rfl, .inr ⟨g, 0, rfl, fun _ => (Array.getElem?_eq_some_iff.1 hg).1, fun j u hj => ?_⟩, hn⟩
    rw [Nat.zero_add]
    have hj2 : cur[j]? = some u := by
      rw [← ht, List.getElem?_take] at hj
      split at hj
      · simpa using hj
      · cases hj
    simp [World.cell?, hg, hj2]
theorem row_eq {W : World} {B : Nat} {e : TypeId} {size n n' : Nat} {v : Value} {xs xs' : List Value} (h : W.ownsRow B e size v n xs) (hn : n = n') (hx : xs = xs') : W.ownsRow B e size v n' xs' := by subst hn; subst hx; exact h
theorem row_base {W : World} {B B' : Nat} {e : TypeId} {size n : Nat} {v : Value} {xs : List Value} (h : W.ownsRow B e size v n xs) (hB : B' ≤ B) : W.ownsRow B' e size v n xs :=
  ⟨h.1, h.2.imp id fun ⟨g, cap, cur, e, hb, r⟩ => ⟨g, cap, cur, e, Nat.le_trans hB hb, r⟩⟩
theorem row_kept {W W' : World} {B : Nat} {e : TypeId} {size n : Nat} {v : Value} {xs : List Value} (h : W.ownsRow B e size v n xs) (hb : ∀ k, B ≤ k → k < W.heap.size → W'.heap[k]? = W.heap[k]?) : W'.ownsRow B e size v n xs :=
  ⟨h.1, h.2.imp id fun ⟨g, cap, cur, e, hB, hg, r⟩ => ⟨g, cap, cur, e, hB, (hb g hB (Array.getElem?_eq_some_iff.1 hg).1).trans hg, r⟩⟩
theorem row_below {W W' : World} {B : Nat} {e : TypeId} {size n : Nat} {v : Value} {xs : List Value} (h : W.ownsRow B e size v n xs) (hb : Below W.heap.size W W') : W'.ownsRow B e size v n xs := row_kept h fun k _ hk => hb.block k hk
theorem row_pos {W : World} {B : Nat} {e : TypeId} {size n : Nat} {v : Value} {xs : List Value} (h : W.ownsRow B e size v n xs) (hn : 0 < n) : ∃ g c, v = .slice (some ⟨g, 0, none⟩) n c ∧ B ≤ g ∧ g < W.heap.size := by
  rcases h.2 with ⟨_, h0⟩ | ⟨g, cap, cur, rfl, hb, hg, _⟩
  · omega
  · exact ⟨g, cap, rfl, hb, (Array.getElem?_eq_some_iff.1 hg).1⟩
theorem boxed_below {W W' : World} {B B0 : Nat} {t : TypeId} {v : Value} (h : Boxed W B t v) (hb : Below B0 W W') (hB : B < B0) : Boxed W' B t v := (hb.block B hB).trans h
theorem boxed_setCell {W : World} {B : Nat} {t : TypeId} {v : Value} (h : Boxed W B t v) {p : Addr} (hp : p.block ≠ B) (u : Value) : Boxed (W.setCell p u) B t v := (Below.heap_setCell W p u B (fun e => hp e.symm)).trans h
/-- A new row. -/
theorem cells_new (w : World) (cs : Array Value) (t : TypeId) : ∃ W, w.alloc (.cells cs t) = W ∧ Hid (Below w.heap.size w W) ∧ Hid (w.heap.size < W.heap.size) ∧ Hid (W.heap[w.heap.size]? = some (.cells cs t)) := by
  refine ⟨_, rfl, (Below.refl _ _).alloc (Nat.le_refl _) _, ?_, World.alloc_heap_new w _⟩
  show _ < _
  simp
theorem news_new (w : World) (cs : Array Value) (t : TypeId) : ∀ j u, cs.toList[j]? = some u → (w.alloc (.cells cs t)).cell? ((⟨w.heap.size, 0, none⟩ : Addr).add j) = some u := World.news_of_block (World.alloc_heap_new w _)
theorem row_two {W : World} {B : Nat} {x y : Value} {t : TypeId} (h : W.heap[B]? = some (.cells #[x, y] t)) : W.cell? ⟨B, 0, none⟩ = some x ∧ W.cell? ⟨B, 1, none⟩ = some y := by simp [World.cell?, h]
theorem row_eight {W : World} {B : Nat} {x y z u x' y' z' u' : Value} {t : TypeId} (h : W.heap[B]? = some (.cells #[x, y, z, u, x', y', z', u'] t)) :
    (W.cell? ⟨B, 0, none⟩ = some x ∧ W.cell? ⟨B, 1, none⟩ = some y ∧ W.cell? ⟨B, 2, none⟩ = some z ∧ W.cell? ⟨B, 3, none⟩ = some u) ∧ W.cell? ⟨B, 4, none⟩ = some x' ∧ W.cell? ⟨B, 5, none⟩ = some y' ∧ W.cell? ⟨B, 6, none⟩ = some z' ∧ W.cell? ⟨B, 7, none⟩ = some u' := by simp [World.cell?, h]

/-- An event, and its cells. -/
abbrev ev (k tx th ob op ke va re : Int) : Value := .agg #[.int .i64 k, .int .i64 tx, .int .i64 th, .int .i64 ob, .int .i64 op, .int .i64 ke, .int .i64 va, .int .i64 re]
theorem elem41 : (Try.prog.info? 41).map (fun i => (i.zero, i.size, i.bytes)) = some (some (ev 0 0 0 0 0 0 0 0), 8, 64) := by kernel_rfl
theorem elem52 : (Try.prog.info? 52).map (fun i => (i.zero, i.size, i.bytes)) = some (some (.agg #[.int .i64 0, .int .i64 0]), 2, 16) := by kernel_rfl

/-- Nothing but block p and the row has been written; the row has gone to a new block at most. -/
structure Told (p : Nat) (v : Value) (w : World) (v' : Value) (w' : World) : Prop where
  os : w'.os = w.os
  tape : w'.tape = w.tape
  output : w'.output = w.output
  size : w.heap.size ≤ w'.heap.size
  block : ∀ k, k < w.heap.size → k ≠ p → some k ≠ v.ownBlock → w'.heap[k]? = w.heap[k]?
  own : v'.ownBlock = v.ownBlock ∨ ∀ k, v'.ownBlock = some k → w.heap.size ≤ k
theorem Told.refl (p : Nat) (v : Value) (w : World) : Told p v w v w := ⟨rfl, rfl, rfl, Nat.le_refl _, fun _ _ _ _ => rfl, .inl rfl⟩
theorem Told.trans {p : Nat} {v1 v2 v3 : Value} {a b c : World} (h : Told p v1 a v2 b) (k : Told p v2 b v3 c) : Told p v1 a v3 c := by
  refine ⟨k.os.trans h.os, k.tape.trans h.tape, k.output.trans h.output, Nat.le_trans h.size k.size, fun i hi hp hv => ?_, ?_⟩
  · refine (k.block i (Nat.lt_of_lt_of_le hi h.size) hp (fun e => ?_)).trans (h.block i hi hp hv)
    rcases h.own with h1 | h1
    · exact hv (e.trans h1)
    · have := h1 i e.symm; omega
  · rcases k.own with k1 | k1
    · rcases h.own with h1 | h1
      · exact .inl (k1.trans h1)
      · exact .inr fun i hi => h1 i (k1.symm.trans hi)
    · exact .inr fun i hi => Nat.le_trans h.size (k1 i hi)
theorem Told.of {p : Nat} {v : Value} {a b : World} (h : Below a.heap.size a b) : Told p v a v b := ⟨h.os, h.tape, h.output, h.size, fun k hk _ _ => h.block k hk, .inl rfl⟩
/-- Below B all is as it was, but for block p. -/
theorem Told.below {p B e size n : Nat} {v v' : Value} {xs : List Value} {a b : World} (h : Told p v a v' b) (hr : a.ownsRow B e size v n xs) (hB : B ≤ a.heap.size) (hp : p < B) : Below p a b :=
  ⟨h.os, h.tape, h.output, h.size, fun k hk => h.block k (by omega) (by omega) (fun e => by have := (hr.lt k e.symm).1; omega)⟩
theorem Told.kept {p B e size n : Nat} {v v' : Value} {xs : List Value} {a b : World} (h : Told p v a v' b) (hr : a.ownsRow B e size v n xs) (hB : B ≤ a.heap.size) {k : Nat} (hk : k < B) (hp : k ≠ p) : b.heap[k]? = a.heap[k]? :=
  h.block k (by omega) hp (fun e => by have := (hr.lt k e.symm).1; omega)
/-- A builder: its objects as they are, its events a row of its own. -/
structure BdAt (p B : Nat) (vo : Value) (n : Nat) (F : List Int) (v : Value) (W : World) : Prop where
  box : W.heap[p]? = some (.cells #[vo, v] 60)
  lt : p < B
  le : B ≤ W.heap.size
  row : W.ownsRow B 41 8 v n (ints F)
theorem BdAt.below {p B : Nat} {vo : Value} {n : Nat} {F : List Int} {v : Value} {W W' : World} (h : BdAt p B vo n F v W) (hb : Below W.heap.size W W') : BdAt p B vo n F v W' :=
  ⟨(hb.block p (Nat.lt_of_lt_of_le h.lt h.le)).trans h.box, h.lt, Nat.le_trans h.le hb.size, row_below h.row hb⟩

set_option maxHeartbeats 4000000 in
theorem tell_any (p B : Nat) (vo : Value) (n : Nat) (F : List Int) (hn : n ≤ 1000) (k tx th ob op ke va re : Int) (w : World) (v : Value) (h : BdAt p B vo n F v w) :
    Calls Try.prog 47 #[.pointer (some ⟨p, 0, none⟩), ev k tx th ob op ke va re] w fun e w' => ∃ v', e = .returned (.tuple #[]) ∧ Hid (BdAt p B vo (n + 1) (F ++ [k, tx, th, ob, op, ke, va, re]) v' w' ∧ Told p v w v' w') := by
  obtain ⟨i0, hi, hz0, hz1, hz2⟩ := info_parts elem41
  obtain ⟨W, hW, Hb, hs, Hx⟩ := cells_new w #[.int .i64 k, .int .i64 tx, .int .i64 th, .int .i64 ob, .int .i64 op, .int .i64 ke, .int .i64 va, .int .i64 re] 41
  have H := Lib.hid (h.below Hb.out)
  obtain ⟨W1, hW1, Hb1, hs1, Hx1⟩ := cells_new W.drew #[.int .i64 k, .int .i64 tx, .int .i64 th, .int .i64 ob, .int .i64 op, .int .i64 ke, .int .i64 va, .int .i64 re] 41
  have H1 : Hid (BdAt p B vo n F v W1) := h.below (Hb.out.trans (((Below.refl _ W).drew.trans Hb1.out).mono Hb.out.size))
  obtain ⟨q0, q1⟩ := row_two H.out.box
  obtain ⟨⟨e0, e1, e2, e3⟩, e4, e5, e6, e7⟩ := row_eight Hx.out
  obtain ⟨-, r1⟩ := row_two H1.out.box
  have Hx2 := Lib.hid ((((((Below.refl _ W).drew (a := W)).trans Hb1.out).block w.heap.size hs.out).trans Hx.out))
  have hs2 : Hid (w.heap.size < W1.heap.size) := Nat.lt_of_lt_of_le hs.out (((Below.refl _ W).drew (a := W)).trans Hb1.out).size
  obtain ⟨⟨f0, f1, f2, f3⟩, f4, f5, f6, f7⟩ := row_eight Hx2.out
  have H0 := Lib.hid h
  clear h
  go_enter Try.func47, Try.ntmps47
  go_wp2
  go_region_law
    (first
      | (refine step_append_lies _ rfl _ _ 24 rfl B 41 i0 _ 8 64 Try.underlying24 hi hz0 hz1 hz2 rfl (by decide) v n (ints F) rfl H1.out.row ⟨W.heap.size, 0, none⟩ 1 1 (ints [k, tx, th, ob, op, ke, va, re]) rfl rfl (by rw [← hW1]; exact news_new W.drew _ 41) (ints_one _) (by decide) (by unfold maxLen; omega) (by omega) H1.out.le W1.heap.size rfl ?_
         intro g6 cap6 w6 hown6 hgrow6 hat6 hlt6
         have hnw : some w.heap.size ≠ v.ownBlock := fun e => by have h1 := (H0.out.row.lt _ e.symm).2; omega
         obtain ⟨⟨g0, g1, g2, g3⟩, g4, g5, g7, g8⟩ := row_eight ((hgrow6.block w.heap.size hs2.out hnw).trans Hx2.out)
         have hnb : some p ≠ v.ownBlock := fun e => by have h1 := (H1.out.row.lt p e.symm).1; have h2 := H1.out.lt; omega
         have HP6 := Lib.hid ((hgrow6.block p (Nat.lt_of_lt_of_le H1.out.lt H1.out.le) hnb).trans H1.out.box)
         obtain ⟨-, p1⟩ := row_two HP6.out
         have p2 := frozen_of_row _ _ 1 _ _ HP6.out
         have Hend : Hid (BdAt p B vo (n + 1) (F ++ [k, tx, th, ob, op, ke, va, re]) (.slice (some ⟨g6, 0, none⟩) (n + 1) cap6) (w6.setCell ⟨p, 1, none⟩ (.slice (some ⟨g6, 0, none⟩) (n + 1) cap6)) ∧ Told p v w (.slice (some ⟨g6, 0, none⟩) (n + 1) cap6) (w6.setCell ⟨p, 1, none⟩ (.slice (some ⟨g6, 0, none⟩) (n + 1) cap6))) := by
           have hbb : Below B w W1 := (Hb.out.trans (((Below.refl _ W).drew.trans Hb1.out).mono Hb.out.size)).mono H0.out.le
           have hk6 : Below B w w6 := hbb.grown hgrow6 H1.out.le (fun k hk => (H1.out.row.lt k hk).1)
           refine ⟨⟨heap_setCell_same w6 p 1 _ _ _ HP6.out, H0.out.lt, ?_, ?_⟩, ?_⟩
           · have h1 := hk6.size; have h2 := H0.out.le
             have h3 := ((Below.refl 0 w6).setCell (p := ⟨p, 1, none⟩) (Nat.zero_le _) (.slice (some ⟨g6, 0, none⟩) (n + 1) cap6)).size
             omega
           · have h4 : ints (F ++ [k, tx, th, ob, op, ke, va, re]) = ints F ++ ints [k, tx, th, ob, op, ke, va, re] := List.map_append
             rw [h4]
             exact ownsRow_setCell_below hown6 H0.out.lt _
           · have h5 := (Below.refl p w6).setCell (p := ⟨p, 1, none⟩) (Nat.le_refl _) (.slice (some ⟨g6, 0, none⟩) (n + 1) cap6)
             have hbw : Below w.heap.size w W1 := Hb.out.trans (((Below.refl _ W).drew.trans Hb1.out).mono Hb.out.size)
             refine ⟨h5.os.trans hk6.os, h5.tape.trans hk6.tape, h5.output.trans hk6.output, Nat.le_trans hk6.size h5.size, fun k hk hp hv => ?_, ?_⟩
             · exact (Below.heap_setCell w6 ⟨p, 1, none⟩ _ k hp).trans ((hgrow6.block k (Nat.lt_of_lt_of_le hk hbw.size) hv).trans (hbw.block k hk))
             · rcases hat6 with h7 | h7
               · exact .inl h7.symm
               · refine .inr fun k hk => ?_
                 have h8 : g6 = k := by simpa [Value.ownBlock] using hk
                 have h9 := hbw.size
                 omega
         clear hown6 hgrow6 hat6 hlt6))
  all_goals
    go_wp2

    refine bodyPost_end (results_none rfl _ _ _) rfl ?_
    exact ⟨_, rfl, Hend.out⟩
end Go.Proofs.Ytdemoikadojepaa
