/- A state in memory; the operations of registers and counters, by contracts. -/
import Derived.Test.YtcjfcomadcebnaaGreatDoorSb
import Derived.Carry
import Derived.Maps.Keyed
import Derived.Deep.RegionHeld3
import Derived.Deep.RegionWith
namespace Go.Proofs.YtcjfcomadcebnaaGreatDoor
open Go.RowKit Go.Maps Go.WideMaps Go.WideElems Go.ChangeShapes Go.WideShapes

section
variable {P : Program} {md : Region.Mode} {ops : Array Oper} {Q : Exit → Act → World → Prop} {S : World → Prop} {fuel : Nat} {listed : Array Bool} {a : Act} {w : World}
/-- An operation that is passed over. -/
theorem held_skip (i : Nat) (d : Option Tmp) {oi : Oper} (hi : ops[i]? = some oi) (hd : oi.dst = d) (hs : Region.noSelect ops = true) (hf : Region.free md ops listed i = true) (hr : (Region.ready md ops listed).contains i = true)
    (hQ : ∀ c a w, Q (.panic c) (a.put d undef) w → Q (.panic c) a w) (hw : Region.wanted oi (yielded ops a.tmps) = false) (hS : S w)
    (h : wpAnyH P md ops Q S fuel (listed.setIfInBounds i true) (a.put d undef) w) : wpAnyH P md ops Q S (fuel + 1) listed a w := by
  subst hd
  exact wpAnyH_take hi hs hf hr hQ (Or.inr ⟨hw, rfl⟩) hS h
/-- An operation that yields in every world that meets S. -/
theorem held_take (i : Nat) (d : Option Tmp) (v : Value) {oi : Oper} (hi : ops[i]? = some oi) (hd : oi.dst = d) (hs : Region.noSelect ops = true) (hf : Region.free md ops listed i = true) (hr : (Region.ready md ops listed).contains i = true)
    (hQ : ∀ c a w, Q (.panic c) (a.put d v) w → Q (.panic c) a w) (hw : Region.wanted oi (yielded ops a.tmps) = true) (hy : ∀ w, S w → (execOp a.eval oi).run P w = .ok (.value v) w) (hS : S w)
    (h : wpAnyH P md ops Q S fuel (listed.setIfInBounds i true) (a.put d v) w) : wpAnyH P md ops Q S (fuel + 1) listed a w := by
  subst hd
  exact wpAnyH_take hi hs hf hr hQ (Or.inl ⟨hw, hy⟩) hS h
end

variable {T : TypeId} {er : Nat → Addr}

/-- A state's value. -/
abbrev stv (k n : Int) (l : List UInt8) : Value := .agg #[.int .i64 k, .int .i64 n, tv l]
/-- A state lies in a block. -/
structure StAt (w : World) (B : Nat) (k n : Int) (l : List UInt8) : Prop where
  c0 : w.cell? ⟨B, 0, none⟩ = some (.int .i64 k)
  c1 : w.cell? ⟨B, 1, none⟩ = some (.int .i64 n)
  c2 : w.cell? ⟨B, 2, none⟩ = some (tv l)
  free : ∀ i, w.frozen? ⟨B, i, none⟩ = false
theorem StAt.lt {w : World} {B : Nat} {k n : Int} {l : List UInt8} (h : StAt w B k n l) : B < w.heap.size := World.block_lt_of_cell? w _ h.c0
theorem StAt.below {w w' : World} {B C : Nat} {k n : Int} {l : List UInt8} (h : StAt w B k n l) (hb : Below C w w') (hC : B < C) : StAt w' B k n l :=
  ⟨(hb.cell (p := ⟨B, 0, none⟩) hC).trans h.c0, (hb.cell (p := ⟨B, 1, none⟩) hC).trans h.c1, (hb.cell (p := ⟨B, 2, none⟩) hC).trans h.c2, fun i => (hb.frozen (p := ⟨B, i, none⟩) hC).trans (h.free i)⟩
theorem StAt.below' {w w' : World} {B : Nat} {k n : Int} {l : List UInt8} (h : StAt w B k n l) (hb : Below w.heap.size w w') : StAt w' B k n l := h.below hb h.lt
theorem StAt.drewN {w : World} {B : Nat} {k n : Int} {l : List UInt8} (h : StAt w B k n l) (q : Nat) : StAt (w.drewN q) B k n l := ⟨h.c0, h.c1, h.c2, h.free⟩
theorem StAt.drew {w : World} {B : Nat} {k n : Int} {l : List UInt8} (h : StAt w B k n l) : StAt w.drew B k n l := ⟨h.c0, h.c1, h.c2, h.free⟩
theorem stAt_new (w : World) (k n : Int) (l : List UInt8) : StAt (w.alloc (.cells #[.int .i64 k, .int .i64 n, tv l] 34)) w.heap.size k n l :=
  ⟨by rw [World.cell?_alloc_new]; rfl, by rw [World.cell?_alloc_new]; rfl, by rw [World.cell?_alloc_new]; rfl, fun i => World.frozen?_alloc_new ..⟩
/-- A state laid over another one. -/
def World.setSt (w : World) (Z : Nat) (k n : Int) (l : List UInt8) : World := ((w.setCell ⟨Z, 0, none⟩ (.int .i64 k)).setCell ⟨Z, 1, none⟩ (.int .i64 n)).setCell ⟨Z, 2, none⟩ (tv l)
theorem StAt.set {w : World} {Z : Nat} {k n k' n' : Int} {l l' : List UInt8} (h : StAt w Z k n l) : StAt (World.setSt w Z k' n' l') Z k' n' l' := by
  unfold World.setSt
  have o : ∀ (W : World) (i j : Nat) (v : Value), i ≠ j → (W.setCell ⟨Z, i, none⟩ v).cell? ⟨Z, j, none⟩ = W.cell? ⟨Z, j, none⟩ := fun W i j v hij => World.cell?_setCell_other _ _ _ _ (by intro h'; injection h' with _ h2; exact hij h2)
  have a0 : (w.setCell ⟨Z, 0, none⟩ (.int .i64 k')).cell? ⟨Z, 0, none⟩ = some (.int .i64 k') := World.cell?_setCell_same _ _ _ h.c0
  have a1 : ((w.setCell ⟨Z, 0, none⟩ (.int .i64 k')).setCell ⟨Z, 1, none⟩ (.int .i64 n')).cell? ⟨Z, 1, none⟩ = some (.int .i64 n') := World.cell?_setCell_same _ _ _ ((o _ 0 1 _ (by decide)).trans h.c1)
  have a2 := World.cell?_setCell_same ((w.setCell ⟨Z, 0, none⟩ (.int .i64 k')).setCell ⟨Z, 1, none⟩ (.int .i64 n')) ⟨Z, 2, none⟩ (tv l') ((o _ 1 2 _ (by decide)).trans ((o _ 0 2 _ (by decide)).trans h.c2))
  refine ⟨(o _ 2 0 _ (by decide)).trans ((o _ 1 0 _ (by decide)).trans a0), (o _ 2 1 _ (by decide)).trans a1, a2, fun i => ?_⟩
  exact (World.frozen?_setCell ..).trans ((World.frozen?_setCell ..).trans ((World.frozen?_setCell ..).trans (h.free i)))
theorem setSt_below {B : Nat} {a w : World} (h : Below B a w) {Z : Nat} (hZ : B ≤ Z) (k n : Int) (l : List UInt8) : Below B a (World.setSt w Z k n l) :=
  ((h.setCell (p := ⟨Z, 0, none⟩) hZ _).setCell (p := ⟨Z, 1, none⟩) hZ _).setCell (p := ⟨Z, 2, none⟩) hZ _
theorem setSt_far (w : World) (Z : Nat) (k n : Int) (l : List UInt8) (g i : Nat) (h : Z ≠ g) : (World.setSt w Z k n l).cell? ⟨g, i, none⟩ = w.cell? ⟨g, i, none⟩ := by
  unfold World.setSt
  have o : ∀ (W : World) (j : Nat) (v : Value), (W.setCell ⟨Z, j, none⟩ v).cell? ⟨g, i, none⟩ = W.cell? ⟨g, i, none⟩ := fun W j v => World.cell?_setCell_other _ _ _ _ (by intro h'; injection h' with h1; exact h h1)
  rw [o, o, o]
theorem load_st {W : World} {Z : Nat} {k n : Int} {l : List UInt8} (h : StAt W Z k n l) : (loadVar 34 ⟨Z, 0, none⟩).run Tryz.prog W = .ok (stv k n l) W := by
  obtain ⟨c0, c1, c2, _⟩ := h
  go_simp
theorem StAt.far {w : World} {Z : Nat} {k n : Int} {l : List UInt8} (h : StAt w Z k n l) {g i : Nat} (hg : g ≠ Z) (v : Value) : StAt (w.setCell ⟨g, i, none⟩ v) Z k n l := by
  have o : ∀ j, (w.setCell ⟨g, i, none⟩ v).cell? ⟨Z, j, none⟩ = w.cell? ⟨Z, j, none⟩ := fun j => World.cell?_setCell_other _ _ _ _ (by intro h'; injection h' with h1; exact hg h1)
  exact ⟨(o 0).trans h.c0, (o 1).trans h.c1, (o 2).trans h.c2, fun i => (World.frozen?_setCell ..).trans (h.free i)⟩
theorem below_drew {B : Nat} {a w : World} (h : Below B a w) : Below B a w.drew := ⟨h.os, h.tape, h.output, h.size, h.block⟩

/-- Texts put behind one another. -/
theorem cat_tv (x y : List UInt8) : (⟨x.toArray⟩ : ByteArray) ++ ⟨y.toArray⟩ = ⟨(x ++ y).toArray⟩ := by
  rw [← arr_of ((⟨x.toArray⟩ : ByteArray) ++ ⟨y.toArray⟩)]
  congr 2
theorem cat_run (x y : List UInt8) (h : x.length + y.length ≤ 9223372036854775807) (w : World) : (Go.binOp .add 9 (tv x) (tv y)).run Tryz.prog w = .ok (tv (x ++ y)) w := by
  have h1 : ¬ 9223372036854775807 < x.length + y.length := by omega
  have e := cat_tv x y
  go_simp

/-- What an operation's function answers. -/
def OpIs (f : FuncId) (k n : Int) (l : List UInt8) (key val : Int) (k' n' : Int) (l' : List UInt8) (r g : Int) (w : World) : Prop :=
  Calls Tryz.prog f #[stv k n l, .int .i64 key, .int .i64 val] w fun e w' => e = .returned (.tuple #[stv k' n' l', .int .i64 r, .int .i64 g]) ∧ Hid (Below w.heap.size w w')

/-- The boxes of an operation's function. -/
structure Boxes (w W : World) (k n : Int) (l : List UInt8) : Prop where
  below : Below w.heap.size w W
  box : StAt W w.heap.size k n l
  out : StAt W (w.heap.size + 1) 0 0 []
theorem boxes_new (w : World) (k n : Int) (l : List UInt8) : Boxes w ((w.alloc (.cells #[.int .i64 k, .int .i64 n, tv l] 34)).alloc (.cells #[.int .i64 0, .int .i64 0, .string ⟨#[]⟩] 34)) k n l := by
  have h1 : Below w.heap.size w (w.alloc (.cells #[.int .i64 k, .int .i64 n, tv l] 34)) := (Below.refl _ _).alloc (Nat.le_refl _) _
  have hs : (w.alloc (.cells #[.int .i64 k, .int .i64 n, tv l] 34)).heap.size = w.heap.size + 1 := Array.size_push ..
  have h2 : Below (w.alloc (.cells #[.int .i64 k, .int .i64 n, tv l] 34)).heap.size (w.alloc (.cells #[.int .i64 k, .int .i64 n, tv l] 34)) ((w.alloc (.cells #[.int .i64 k, .int .i64 n, tv l] 34)).alloc (.cells #[.int .i64 0, .int .i64 0, .string ⟨#[]⟩] 34)) := (Below.refl _ _).alloc (Nat.le_refl _) _
  refine ⟨h1.trans (h2.mono h1.size), (stAt_new w k n l).below' h2, ?_⟩
  have := stAt_new (w.alloc (.cells #[.int .i64 k, .int .i64 n, tv l] 34)) 0 0 []
  rw [hs] at this
  exact this
theorem res81 (tmps : Array Value) (W : World) (Z : Nat) (k n : Int) (l : List UInt8) (v7 v8 : Value) (h : StAt W Z k n l) (h2 : tmps.getD 6 undef = .pointer (some ⟨Z, 0, none⟩)) (h3 : tmps.getD 7 undef = v7) (h4 : tmps.getD 8 undef = v8) : (results Tryz.f81 tmps).run Tryz.prog W = .ok (.tuple #[stv k n l, v7, v8]) W := by
  have hl := load_st h
  clear h
  have h2' : tmps[6]?.getD undef = .pointer (some ⟨Z, 0, none⟩) := by simpa using h2
  have h3' : tmps[7]?.getD undef = v7 := by simpa using h3
  have h4' : tmps[8]?.getD undef = v8 := by simpa using h4
  simp [results, Tryz.results81, h2', h3', h4', asAddr, hl]
theorem res82 (tmps : Array Value) (W : World) (Z : Nat) (k n : Int) (l : List UInt8) (v7 v8 : Value) (h : StAt W Z k n l) (h2 : tmps.getD 6 undef = .pointer (some ⟨Z, 0, none⟩)) (h3 : tmps.getD 7 undef = v7) (h4 : tmps.getD 8 undef = v8) : (results Tryz.f82 tmps).run Tryz.prog W = .ok (.tuple #[stv k n l, v7, v8]) W := by
  have hl := load_st h
  clear h
  have h2' : tmps[6]?.getD undef = .pointer (some ⟨Z, 0, none⟩) := by simpa using h2
  have h3' : tmps[7]?.getD undef = v7 := by simpa using h3
  have h4' : tmps[8]?.getD undef = v8 := by simpa using h4
  simp [results, Tryz.results82, h2', h3', h4', asAddr, hl]
theorem res83 (tmps : Array Value) (W : World) (Z : Nat) (k n : Int) (l : List UInt8) (v7 v8 : Value) (h : StAt W Z k n l) (h2 : tmps.getD 6 undef = .pointer (some ⟨Z, 0, none⟩)) (h3 : tmps.getD 7 undef = v7) (h4 : tmps.getD 8 undef = v8) : (results Tryz.f83 tmps).run Tryz.prog W = .ok (.tuple #[stv k n l, v7, v8]) W := by
  have hl := load_st h
  clear h
  have h2' : tmps[6]?.getD undef = .pointer (some ⟨Z, 0, none⟩) := by simpa using h2
  have h3' : tmps[7]?.getD undef = v7 := by simpa using h3
  have h4' : tmps[8]?.getD undef = v8 := by simpa using h4
  simp [results, Tryz.results83, h2', h3', h4', asAddr, hl]
theorem res84 (tmps : Array Value) (W : World) (Z : Nat) (k n : Int) (l : List UInt8) (v7 v8 : Value) (h : StAt W Z k n l) (h2 : tmps.getD 6 undef = .pointer (some ⟨Z, 0, none⟩)) (h3 : tmps.getD 7 undef = v7) (h4 : tmps.getD 8 undef = v8) : (results Tryz.f84 tmps).run Tryz.prog W = .ok (.tuple #[stv k n l, v7, v8]) W := by
  have hl := load_st h
  clear h
  have h2' : tmps[6]?.getD undef = .pointer (some ⟨Z, 0, none⟩) := by simpa using h2
  have h3' : tmps[7]?.getD undef = v7 := by simpa using h3
  have h4' : tmps[8]?.getD undef = v8 := by simpa using h4
  simp [results, Tryz.results84, h2', h3', h4', asAddr, hl]
theorem res85 (tmps : Array Value) (W : World) (Z : Nat) (k n : Int) (l : List UInt8) (v7 v8 : Value) (h : StAt W Z k n l) (h2 : tmps.getD 6 undef = .pointer (some ⟨Z, 0, none⟩)) (h3 : tmps.getD 7 undef = v7) (h4 : tmps.getD 8 undef = v8) : (results Tryz.f85 tmps).run Tryz.prog W = .ok (.tuple #[stv k n l, v7, v8]) W := by
  have hl := load_st h
  clear h
  have h2' : tmps[6]?.getD undef = .pointer (some ⟨Z, 0, none⟩) := by simpa using h2
  have h3' : tmps[7]?.getD undef = v7 := by simpa using h3
  have h4' : tmps[8]?.getD undef = v8 := by simpa using h4
  simp [results, Tryz.results85, h2', h3', h4', asAddr, hl]
theorem res86 (tmps : Array Value) (W : World) (Z : Nat) (k n : Int) (l : List UInt8) (v7 v8 : Value) (h : StAt W Z k n l) (h2 : tmps.getD 6 undef = .pointer (some ⟨Z, 0, none⟩)) (h3 : tmps.getD 7 undef = v7) (h4 : tmps.getD 8 undef = v8) : (results Tryz.f86 tmps).run Tryz.prog W = .ok (.tuple #[stv k n l, v7, v8]) W := by
  have hl := load_st h
  clear h
  have h2' : tmps[6]?.getD undef = .pointer (some ⟨Z, 0, none⟩) := by simpa using h2
  have h3' : tmps[7]?.getD undef = v7 := by simpa using h3
  have h4' : tmps[8]?.getD undef = v8 := by simpa using h4
  simp [results, Tryz.results86, h2', h3', h4', asAddr, hl]
theorem res87 (tmps : Array Value) (W : World) (Z : Nat) (k n : Int) (l : List UInt8) (v7 v8 : Value) (h : StAt W Z k n l) (h2 : tmps.getD 6 undef = .pointer (some ⟨Z, 0, none⟩)) (h3 : tmps.getD 7 undef = v7) (h4 : tmps.getD 8 undef = v8) : (results Tryz.f87 tmps).run Tryz.prog W = .ok (.tuple #[stv k n l, v7, v8]) W := by
  have hl := load_st h
  clear h
  have h2' : tmps[6]?.getD undef = .pointer (some ⟨Z, 0, none⟩) := by simpa using h2
  have h3' : tmps[7]?.getD undef = v7 := by simpa using h3
  have h4' : tmps[8]?.getD undef = v8 := by simpa using h4
  simp [results, Tryz.results87, h2', h3', h4', asAddr, hl]
theorem res88 (tmps : Array Value) (W : World) (Z : Nat) (k n : Int) (l : List UInt8) (v7 v8 : Value) (h : StAt W Z k n l) (h2 : tmps.getD 6 undef = .pointer (some ⟨Z, 0, none⟩)) (h3 : tmps.getD 7 undef = v7) (h4 : tmps.getD 8 undef = v8) : (results Tryz.f88 tmps).run Tryz.prog W = .ok (.tuple #[stv k n l, v7, v8]) W := by
  have hl := load_st h
  clear h
  have h2' : tmps[6]?.getD undef = .pointer (some ⟨Z, 0, none⟩) := by simpa using h2
  have h3' : tmps[7]?.getD undef = v7 := by simpa using h3
  have h4' : tmps[8]?.getD undef = v8 := by simpa using h4
  simp [results, Tryz.results88, h2', h3', h4', asAddr, hl]


set_option maxRecDepth 100000 in
theorem number_op (k n : Int) (l : List UInt8) (key val : Int) (w : World) : OpIs 81 k n l key val k n l 3 n w := by
  have hB := boxes_new w k n l
  generalize hW : (w.alloc (.cells #[.int .i64 k, .int .i64 n, tv l] 34)).alloc (.cells #[.int .i64 0, .int .i64 0, .string ⟨#[]⟩] 34) = W at hB
  have HB := Lib.hid hB
  obtain ⟨c0, c1, c2, fr⟩ := hB.box
  obtain ⟨d0, d1, d2, fz⟩ := hB.out
  clear hB
  go_enter Tryz.func81, Tryz.ntmps81
  go_wp2
  clear hW
  refine wp_region_held_drew (S := (fun w' => w'.cell? ⟨w.heap.size, 0, none⟩ = some (.int .i64 k) ∧ w'.cell? ⟨w.heap.size, 1, none⟩ = some (.int .i64 n) ∧ w'.cell? ⟨w.heap.size, 2, none⟩ = some (tv l))) (by kernel_rfl) ⟨c0, c1, c2⟩ (fun hHeld => ?_)
  refine held_take 0 (some 9) ?_ rfl rfl (by kernel_rfl) (by kernel_rfl) (by kernel_rfl) (fun _ _ _ h => h) (by kernel_rfl) ?_ (by assumption) ?_
  rotate_left
  · intro w hSw; obtain ⟨s0, s1, s2⟩ := hSw; go_simp <;> (try with_reducible rfl)
  simp only [Act.put, List.setIfInBounds_toArray, List.set_cons_zero, List.set_cons_succ]
  refine held_take 1 (some 10) ?_ rfl rfl (by kernel_rfl) (by kernel_rfl) (by kernel_rfl) (fun _ _ _ h => h) (by kernel_rfl) ?_ (by assumption) ?_
  rotate_left
  · intro w hSw; obtain ⟨s0, s1, s2⟩ := hSw; go_simp <;> (try with_reducible rfl)
  simp only [Act.put, List.setIfInBounds_toArray, List.set_cons_zero, List.set_cons_succ]
  refine held_take 2 (some 11) ?_ rfl rfl (by kernel_rfl) (by kernel_rfl) (by kernel_rfl) (fun _ _ _ h => h) (by kernel_rfl) ?_ (by assumption) ?_
  rotate_left
  · intro w hSw; obtain ⟨s0, s1, s2⟩ := hSw; go_simp <;> (try with_reducible rfl)
  simp only [Act.put, List.setIfInBounds_toArray, List.set_cons_zero, List.set_cons_succ]
  refine wpAnyH_ready (rs := [3]) (by kernel_rfl) (by simp) (AllReadyH.cons rfl (fun K hK => ?_) AllReadyH.nil)
  go_simp
  refine hK.out _ _ ?_ (fun hHeld => ?_)
  · (try dsimp only); exact ⟨(World.cell?_drew ..).trans ((setSt_far W (w.heap.size + 1) k n l w.heap.size 0 (by omega)).trans c0), (World.cell?_drew ..).trans ((setSt_far W (w.heap.size + 1) k n l w.heap.size 1 (by omega)).trans c1), (World.cell?_drew ..).trans ((setSt_far W (w.heap.size + 1) k n l w.heap.size 2 (by omega)).trans c2)⟩
  clear hK K
  try simp only [Act.put, List.setIfInBounds_toArray, List.set_cons_zero, List.set_cons_succ]
  refine held_take 4 (some 7) ?_ rfl rfl (by kernel_rfl) (by kernel_rfl) (by kernel_rfl) (fun _ _ _ h => h) (by kernel_rfl) ?_ (by assumption) ?_
  rotate_left
  · intro w hSw; obtain ⟨s0, s1, s2⟩ := hSw; go_simp <;> (try with_reducible rfl)
  simp only [Act.put, List.setIfInBounds_toArray, List.set_cons_zero, List.set_cons_succ]
  refine held_take 5 (some 8) ?_ rfl rfl (by kernel_rfl) (by kernel_rfl) (by kernel_rfl) (fun _ _ _ h => h) (by kernel_rfl) ?_ (by assumption) ?_
  rotate_left
  · intro w hSw; obtain ⟨s0, s1, s2⟩ := hSw; go_simp <;> (try with_reducible rfl)
  simp only [Act.put, List.setIfInBounds_toArray, List.set_cons_zero, List.set_cons_succ]
  refine wpAnyH_done (by kernel_rfl) ?_ _
  go_wp2
  exact bodyPost_ret (res81 _ _ (w.heap.size + 1) k n l _ _ HB.out.out.set.drew rfl rfl rfl) rfl ⟨rfl, below_drew (setSt_below HB.out.below (by omega) _ _ _)⟩

set_option maxRecDepth 100000 in
theorem write_op (k n : Int) (l : List UInt8) (key val : Int) (w : World) : OpIs 82 k n l key val k val l 1 0 w := by
  have hB := boxes_new w k n l
  generalize hW : (w.alloc (.cells #[.int .i64 k, .int .i64 n, tv l] 34)).alloc (.cells #[.int .i64 0, .int .i64 0, .string ⟨#[]⟩] 34) = W at hB
  have HB := Lib.hid hB
  obtain ⟨c0, c1, c2, fr⟩ := hB.box
  obtain ⟨d0, d1, d2, fz⟩ := hB.out
  clear hB
  go_enter Tryz.func82, Tryz.ntmps82
  go_wp2
  exact bodyPost_ret (res82 _ _ (w.heap.size + 1) k val l _ _ (HB.out.out.far (by omega) _).set rfl rfl rfl) rfl ⟨rfl, setSt_below (HB.out.below.setCell (p := ⟨w.heap.size, 1, none⟩) (Nat.le_refl _) _) (by omega) _ _ _⟩

set_option maxRecDepth 100000 in
theorem add_op (k n : Int) (l : List UInt8) (key val : Int) (h0 : -9223372036854775808 ≤ n + val) (h1 : n + val ≤ 9223372036854775807) (w : World) : OpIs 83 k n l key val k (n + val) l 1 0 w := by
  have hB := boxes_new w k n l
  generalize hW : (w.alloc (.cells #[.int .i64 k, .int .i64 n, tv l] 34)).alloc (.cells #[.int .i64 0, .int .i64 0, .string ⟨#[]⟩] 34) = W at hB
  have HB := Lib.hid hB
  obtain ⟨c0, c1, c2, fr⟩ := hB.box
  obtain ⟨d0, d1, d2, fz⟩ := hB.out
  clear hB
  go_enter Tryz.func83, Tryz.ntmps83
  go_wp2
  exact bodyPost_ret (res83 _ _ (w.heap.size + 1) k (n + val) l _ _ (HB.out.out.far (by omega) _).set rfl rfl rfl) rfl ⟨rfl, setSt_below (HB.out.below.setCell (p := ⟨w.heap.size, 1, none⟩) (Nat.le_refl _) _) (by omega) _ _ _⟩

set_option maxRecDepth 100000 in
theorem enq_op (k n : Int) (l : List UInt8) (key val : Int) (hv : fits64 val) (w : World) (hG : Glob T er w) (hlen : l.length ≤ 1000000000) : OpIs 85 k n l key val k n (l ++ 32 :: Lib.itoa val) 1 0 w := by
  have Hp := Lib.hid (fun W (h : Glob T er W) => print_any val hv.1 hv.2 W h)
  have HG := Lib.hid hG
  clear hG
  have hB := boxes_new w k n l
  generalize hW : (w.alloc (.cells #[.int .i64 k, .int .i64 n, tv l] 34)).alloc (.cells #[.int .i64 0, .int .i64 0, .string ⟨#[]⟩] 34) = W at hB
  have HB := Lib.hid hB
  obtain ⟨c0, c1, c2, fr⟩ := hB.box
  obtain ⟨d0, d1, d2, fz⟩ := hB.out
  clear hB
  have HGW := Lib.hid (HG.out.below' HB.out.below)
  have hil := itoa_len val hv.1 hv.2
  have hcat : (⟨l.toArray⟩ : ByteArray) ++ (⟨#[32]⟩ ++ ⟨(Lib.itoa val).toArray⟩) = ⟨(l ++ 32 :: Lib.itoa val).toArray⟩ := by
    rw [show (⟨#[32]⟩ : ByteArray) = ⟨[32].toArray⟩ from rfl, cat_tv, cat_tv]; rfl
  generalize l ++ 32 :: Lib.itoa val = l2 at *
  generalize Lib.itoa val = l0 at *
  go_enter Tryz.func85, Tryz.ntmps85
  go_wp2
  clear hW
  go_region_with (first | (go_at_call 40; refine (Hp.out _ HGW.out.drew).mono ?_; rintro e w2 ⟨rfl, hb2⟩; have H2 : Hid (Boxes w w2 k n l) := ⟨(below_drew HB.out.below).trans (hb2.out.mono HB.out.below.size), HB.out.box.drew.below' hb2.out, HB.out.out.drew.below' hb2.out⟩; clear hb2 c0 c1 c2 fr d0 d1 d2 fz; obtain ⟨c0, c1, c2, fr⟩ := H2.out.box; obtain ⟨d0, d1, d2, fz⟩ := H2.out.out))
  all_goals
    try rw [hcat]
    go_wp2
    exact bodyPost_ret (res85 _ _ (w.heap.size + 1) k n l2 _ _ (H2.out.out.far (by omega) _).set rfl rfl rfl) rfl ⟨rfl, setSt_below (H2.out.below.setCell (p := ⟨w.heap.size, 2, none⟩) (Nat.le_refl _) _) (by omega) _ _ _⟩
end Go.Proofs.YtcjfcomadcebnaaGreatDoor
