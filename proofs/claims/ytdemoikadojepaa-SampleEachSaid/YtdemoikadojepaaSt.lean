/- Programs in memory; the ground of Caught. -/
import Derived.Test.YtdemoikadojepaaSr
namespace Go.Proofs.Ytdemoikadojepaa
open Go.RowKit Go.Maps Go.WideMaps Go.WideElems Go.ChangeShapes Go.WideShapes

theorem newA {V : World} {k : Nat} (o : Obj) (h : k = V.heap.size) : (V.alloc o).heap[k]? = some o := by subst h; exact World.alloc_heap_new V o
theorem keepA {V : World} {k : Nat} {x : Obj} (o : Obj) (h : V.heap[k]? = some x) : (V.alloc o).heap[k]? = some x := (Below.heap_alloc _ _ _ (Array.getElem?_eq_some_iff.1 h).1).trans h
theorem keepB {V W : World} {k : Nat} {x : Obj} (hb : Below V.heap.size V W) (h : V.heap[k]? = some x) : W.heap[k]? = some x := (hb.block k (Array.getElem?_eq_some_iff.1 h).1).trans h
theorem keepD {V : World} {k : Nat} {x : Obj} (h : V.heap[k]? = some x) : V.drew.heap[k]? = some x := h
theorem keepE {V : World} {k j : Nat} {x : Obj} (h : V.heap[j]? = some x) (e : k = j) : V.heap[k]? = some x := by subst e; exact h
theorem stepD {W V : World} {n : Nat} (h : Below n W V) : Below n W V.drew := h.drew
theorem stepA {W V : World} (h : Below W.heap.size W V) (o : Obj) : Below W.heap.size W (V.alloc o) := h.alloc h.size o
theorem stepB {W V U : World} (h : Below W.heap.size W V) (k : Below V.heap.size V U) : Below W.heap.size W U := h.trans (k.mono h.size)

theorem le_of {W V : World} (h : Below W.heap.size W V) : W.heap.size ≤ V.heap.size := h.size

/-- A program of two threads, of one transaction each, of two acts each. -/
structure PgAt (B q u0 u1 v0 v1 : Nat) (vt : Value) (W : World) : Prop where
  le : B ≤ W.heap.size
  cs : W.heap[q]? = some (.cells (ints [0, 0]).toArray 3)
  ts : W.ownsRow B 53 1 vt 2 [.slice (some ⟨u0, 0, none⟩) 1 1, .slice (some ⟨u1, 0, none⟩) 1 1]
  t0 : W.heap[u0]? = some (.cells #[.slice (some ⟨v0, 0, none⟩) 2 2] 74)
  t1 : W.heap[u1]? = some (.cells #[.slice (some ⟨v1, 0, none⟩) 2 2] 74)
  a0 : W.heap[v0]? = some (.cells (ints [2, 0, 1, 2, 1, 1]).toArray 73)
  a1 : W.heap[v1]? = some (.cells (ints [1, 0, 0, 1, 1, 0]).toArray 73)
theorem PgAt.below {B q u0 u1 v0 v1 : Nat} {vt : Value} {W W' : World} (h : PgAt B q u0 u1 v0 v1 vt W) (hb : Below W.heap.size W W') : PgAt B q u0 u1 v0 v1 vt W' :=
  ⟨Nat.le_trans h.le hb.size, keepB hb h.cs, row_below h.ts hb, keepB hb h.t0, keepB hb h.t1, keepB hb h.a0, keepB hb h.a1⟩
theorem PgAt.base {B B' q u0 u1 v0 v1 : Nat} {vt : Value} {W : World} (h : PgAt B q u0 u1 v0 v1 vt W) (hB : B' ≤ B) : PgAt B' q u0 u1 v0 v1 vt W :=
  ⟨Nat.le_trans hB h.le, h.cs, row_base h.ts hB, h.t0, h.t1, h.a0, h.a1⟩
def sched : List Int := [1, 1, 1, 0, 0, 0, 0, 0, 0, 0, 0, 1, 1]
/-- What a call gives that answers the program and the schedule. -/
def CaughtRes (w : World) (e : Ending) (w' : World) : Prop :=
  ∃ q u0 u1 v0 v1 vt vs, e = .returned (.tuple #[.agg #[.slice (some ⟨q, 0, none⟩) 2 2, vt], vs]) ∧ Hid (PgAt w.heap.size q u0 u1 v0 v1 vt w' ∧ w'.ownsRow w.heap.size 3 1 vs 13 (ints sched) ∧ Below w.heap.size w w')

theorem pg_set {B q u0 u1 v0 v1 r o : Nat} {vt u x y : Value} {t : TypeId} {W : World} (h : PgAt B q u0 u1 v0 v1 vt W) (hr : W.heap[r]? = some (.cells #[x, y] t)) (h45 : t = 45) (hB : r < B) : PgAt B q u0 u1 v0 v1 vt (W.setCell ⟨r, o, none⟩ u) := by
  subst h45
  have hne : ∀ {k : Nat} {ob : Obj}, W.heap[k]? = some ob → ob ≠ .cells #[x, y] 45 → (W.setCell ⟨r, o, none⟩ u).heap[k]? = some ob := fun {k ob} hk hne => (Below.heap_setCell W ⟨r, o, none⟩ u k (fun e => hne (by
    have e : k = r := e
    subst e; rw [hr] at hk; exact (Option.some.inj hk).symm))).trans hk
  refine ⟨Nat.le_trans h.le ((Below.refl 0 W).setCell (p := ⟨r, o, none⟩) (Nat.zero_le _) u).size, hne h.cs ?_, ownsRow_setCell_below h.ts hB u, hne h.t0 ?_, hne h.t1 ?_, hne h.a0 ?_, hne h.a1 ?_⟩ <;> (intro e; cases e)
theorem keepS {V : World} {k r o : Nat} {x : Obj} {v : Value} (hne : r ≠ k) (h : V.heap[k]? = some x) : (V.setCell ⟨r, o, none⟩ v).heap[k]? = some x := (Below.heap_setCell V ⟨r, o, none⟩ v k (fun e => hne e.symm)).trans h
/-- The program and the schedule, laid into the result's box. -/
theorem caught_end {r B q u0 u1 v0 v1 : Nat} {vt vs x y x0 y0 : Value} {w W w6 : World} (hb : Below w.heap.size w W) (hp : PgAt B q u0 u1 v0 v1 vt W) (hr : w.heap.size ≤ r) (hrB : r < B) (hrl : r < W.heap.size) (hR : W.heap[r]? = some (.cells #[x0, y0] 45)) (h6 : Below W.heap.size W w6) (hv : w6.ownsRow W.heap.size 3 1 vs 13 (ints sched)) :
    PgAt w.heap.size q u0 u1 v0 v1 vt ((w6.setCell ⟨r, 0, none⟩ x).setCell ⟨r, 1, none⟩ y) ∧ ((w6.setCell ⟨r, 0, none⟩ x).setCell ⟨r, 1, none⟩ y).ownsRow w.heap.size 3 1 vs 13 (ints sched) ∧ Below w.heap.size w ((w6.setCell ⟨r, 0, none⟩ x).setCell ⟨r, 1, none⟩ y) := by
  have hp6 := hp.below h6
  have hR6 := keepB h6 hR
  have h1 := pg_set (o := 0) (u := x) hp6 hR6 rfl hrB
  have hR7 := heap_setCell_same w6 r 0 _ _ x hR6
  have h2 := pg_set (o := 1) (u := y) (x := x) (y := y0) h1 hR7 rfl hrB
  exact ⟨h2.base (by omega), row_base (ownsRow_setCell_below (ownsRow_setCell_below hv hrl _) hrl _) hb.size, ((stepB hb h6).setCell (p := ⟨r, 0, none⟩) hr x).setCell (p := ⟨r, 1, none⟩) hr y⟩

theorem rep_3 (q : Nat) (w : World) (hq : w.heap[q]? = some (.cells #[.int .i64 1] 3)) :
    Calls Try.prog 40 #[.slice (some ⟨q, 0, none⟩) 1 1, .int .i64 3] w fun e w' => e = .returned (.slice (some ⟨w.heap.size, 0, none⟩) 3 3) ∧ Hid (w'.heap[w.heap.size]? = some (.cells (ints [1, 1, 1]).toArray 3) ∧ Below w.heap.size w w') := rep_any q 1 3 1 (.inl rfl) w (by simp [World.cell?, hq])
theorem rep_8 (q : Nat) (w : World) (hq : w.heap[q]? = some (.cells #[.int .i64 0] 3)) :
    Calls Try.prog 40 #[.slice (some ⟨q, 0, none⟩) 1 1, .int .i64 8] w fun e w' => e = .returned (.slice (some ⟨w.heap.size, 0, none⟩) 8 8) ∧ Hid (w'.heap[w.heap.size]? = some (.cells (ints [0, 0, 0, 0, 0, 0, 0, 0]).toArray 3) ∧ Below w.heap.size w w') := rep_any q 1 8 0 (.inr (.inl rfl)) w (by simp [World.cell?, hq])
theorem rep_2 (q : Nat) (w : World) (hq : w.heap[q]? = some (.cells #[.int .i64 1] 3)) :
    Calls Try.prog 40 #[.slice (some ⟨q, 0, none⟩) 1 1, .int .i64 2] w fun e w' => e = .returned (.slice (some ⟨w.heap.size, 0, none⟩) 2 2) ∧ Hid (w'.heap[w.heap.size]? = some (.cells (ints [1, 1]).toArray 3) ∧ Below w.heap.size w w') := rep_any q 1 2 1 (.inr (.inr rfl)) w (by simp [World.cell?, hq])
theorem cat_3 (b a0 a1 a2 : Nat) (w : World) (hb : w.heap[b]? = some (.cells #[.slice (some ⟨a0, 0, none⟩) 3 3, .slice (some ⟨a1, 0, none⟩) 8 8, .slice (some ⟨a2, 0, none⟩) 2 2] 42)) (h0 : w.heap[a0]? = some (.cells (ints [1, 1, 1]).toArray 3)) (h1 : w.heap[a1]? = some (.cells (ints [0, 0, 0, 0, 0, 0, 0, 0]).toArray 3)) (h2 : w.heap[a2]? = some (.cells (ints [1, 1]).toArray 3)) :
    Calls Try.prog 39 #[.slice (some ⟨b, 0, none⟩) 3 3] w fun e w' => ∃ v, e = .returned v ∧ Hid (w'.ownsRow w.heap.size 3 1 v 13 (ints sched) ∧ Below w.heap.size w w') :=
  cat_any b a0 a1 a2 3 3 8 2 _ _ _ rfl rfl rfl (by decide) (by decide) w ⟨by simp [World.cell?, hb], by simp [World.cell?, hb], by simp [World.cell?, hb], h0, h1, h2⟩

end Go.Proofs.Ytdemoikadojepaa
