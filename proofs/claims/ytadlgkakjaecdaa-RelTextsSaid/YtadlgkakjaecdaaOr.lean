/- Three rows of one's own, written over. -/
import Derived.Test.YtadlgkakjaecdaaAd
namespace Go.Proofs.Ytadlgkakjaecdaa
open Go.RowKit Go.Maps Go.WideMaps Go.WideElems Go.ChangeShapes Go.WideShapes

theorem own_cell {W : World} {B g n c j : Nat} {e : TypeId} {size : Nat} {xs : List Value} (h : W.ownsRow B e size (.slice (some ⟨g, 0, none⟩) n c) n xs) (hj : j < n * size) : ∃ u, W.cell? ⟨g, j, none⟩ = some u ∧ W.frozen? ⟨g, j, none⟩ = false := by
  have hl := h.1
  have hj' : j < xs.length := by omega
  have hc := h.cells (g := g) rfl j _ (List.getElem?_eq_getElem hj')
  rw [Addr.add_lit, Nat.zero_add] at hc
  exact ⟨_, hc, h.frozenAt j⟩
theorem row_addr {W : World} {B : Nat} {e : TypeId} {size n c : Nat} {a : Option Addr} {xs : List Value} (h : W.ownsRow B e size (.slice a n c) n xs) (hn : 0 < n) : ∃ g, a = some ⟨g, 0, none⟩ := by
  rcases h.2 with ⟨e, h0⟩ | ⟨g, cap, cur, e, _⟩
  · omega
  · cases e
    exact ⟨g, rfl⟩
theorem row_base {W : World} {B B' : Nat} {e : TypeId} {size n : Nat} {v : Value} {xs : List Value} (h : W.ownsRow B e size v n xs) (hB : B' ≤ B) : W.ownsRow B' e size v n xs :=
  ⟨h.1, h.2.imp id fun ⟨g, cap, cur, e1, hb, r⟩ => ⟨g, cap, cur, e1, Nat.le_trans hB hb, r⟩⟩
/-- Rows of one's own, each in its own block. -/
structure Ow3 (B : Nat) (w2 : World) (vp vx vy : Value) (np nx ny : Nat) (W : World) : Prop where
  p : ∃ cs, W.ownsRow B 57 2 vp np cs
  x : ∃ cs, W.ownsRow B 3 1 vx nx cs
  y : ∃ cs, W.ownsRow B 3 1 vy ny cs
  px : ∀ k, vp.ownBlock = some k → vx.ownBlock ≠ some k
  py : ∀ k, vp.ownBlock = some k → vy.ownBlock ≠ some k
  xy : ∀ k, vx.ownBlock = some k → vy.ownBlock ≠ some k
  below : Below B w2 W
theorem below_set {B g j : Nat} {w W : World} (h : Below B w W) (hg : B ≤ g) (u : Value) (hB : B ≤ W.heap.size) (hw : W.grownBy (W.setCell ⟨g, j, none⟩ u) (some g)) : Below B w (W.setCell ⟨g, j, none⟩ u) :=
  h.grown hw hB (fun k e => by cases e; exact hg)
section
variable {B : Nat} {w2 : World} {np nx ny : Nat} {W : World}
theorem Ow3.setP {g c : Nat} {vx vy : Value} (h : Ow3 B w2 (.slice (some ⟨g, 0, none⟩) np c) vx vy np nx ny W) (hB : B ≤ w2.heap.size) (j : Nat) (u : Value) : Ow3 B w2 (.slice (some ⟨g, 0, none⟩) np c) vx vy np nx ny (W.setCell ⟨g, j, none⟩ u) := by
  obtain ⟨cs, hp⟩ := h.p
  obtain ⟨xs, hx⟩ := h.x
  obtain ⟨ys, hy⟩ := h.y
  have hs := hp.stored j u
  refine ⟨⟨_, hs.1⟩, ⟨xs, row_keep hx hs.2 (fun k e => by cases e; exact h.px g rfl)⟩, ⟨ys, row_keep hy hs.2 (fun k e => by cases e; exact h.py g rfl)⟩, h.px, h.py, h.xy, below_set h.below (hp.lt g rfl).1 u (Nat.le_trans hB h.below.size) hs.2⟩
theorem Ow3.setX {g c : Nat} {vp vy : Value} (h : Ow3 B w2 vp (.slice (some ⟨g, 0, none⟩) nx c) vy np nx ny W) (hB : B ≤ w2.heap.size) (j : Nat) (u : Value) : Ow3 B w2 vp (.slice (some ⟨g, 0, none⟩) nx c) vy np nx ny (W.setCell ⟨g, j, none⟩ u) := by
  obtain ⟨cs, hp⟩ := h.p
  obtain ⟨xs, hx⟩ := h.x
  obtain ⟨ys, hy⟩ := h.y
  have hs := hx.stored j u
  refine ⟨⟨cs, row_keep hp hs.2 (fun k e => by cases e; exact fun e => h.px g e rfl)⟩, ⟨_, hs.1⟩, ⟨ys, row_keep hy hs.2 (fun k e => by cases e; exact h.xy g rfl)⟩, h.px, h.py, h.xy, below_set h.below (hx.lt g rfl).1 u (Nat.le_trans hB h.below.size) hs.2⟩
theorem Ow3.setY {g c : Nat} {vp vx : Value} (h : Ow3 B w2 vp vx (.slice (some ⟨g, 0, none⟩) ny c) np nx ny W) (hB : B ≤ w2.heap.size) (j : Nat) (u : Value) : Ow3 B w2 vp vx (.slice (some ⟨g, 0, none⟩) ny c) np nx ny (W.setCell ⟨g, j, none⟩ u) := by
  obtain ⟨cs, hp⟩ := h.p
  obtain ⟨xs, hx⟩ := h.x
  obtain ⟨ys, hy⟩ := h.y
  have hs := hy.stored j u
  refine ⟨⟨cs, row_keep hp hs.2 (fun k e => by cases e; exact fun e => h.py g e rfl)⟩, ⟨xs, row_keep hx hs.2 (fun k e => by cases e; exact fun e => h.xy g e rfl)⟩, ⟨_, hs.1⟩, h.px, h.py, h.xy, below_set h.below (hy.lt g rfl).1 u (Nat.le_trans hB h.below.size) hs.2⟩
end
/-- Rows of different times lie in different blocks. -/
theorem rows_apart {W W' : World} {B B' : Nat} {e e' : TypeId} {s s' n n' : Nat} {v v' : Value} {xs xs' : List Value} (h : W.ownsRow B e s v n xs) (h' : W'.ownsRow B' e' s' v' n' xs') (hB : W.heap.size ≤ B') : ∀ k, v.ownBlock = some k → v'.ownBlock ≠ some k := fun k hk hk' => by
  have h1 := (h.lt k hk).2
  have h2 := (h'.lt k hk').1
  omega
/-- What Pairs, Ahead and Behind answer lies in new memory. -/
theorem pairs_own (r b : Nat) (L : List Pr) (D : DU) (hn : L.length ≤ 1000000) (w : World) (h : RelAt r b L D w) :
    Calls Try.prog 36 #[.pointer (some ⟨r, 0, none⟩)] w fun e w' => ∃ n a c cs, e = .returned (.slice a n c) ∧ n ≤ 1000000 ∧ Hid (w'.ownsRow w.heap.size 57 2 (.slice a n c) n cs ∧ Below w.heap.size w w') := by
  refine (pairs_any r b L D hn w h).mono ?_
  rintro e w' ⟨v, l, rfl, h1⟩
  have hrow := h1.out.2.2.2.1
  obtain ⟨a, c, rfl, _, _⟩ := row_slP hrow
  exact ⟨_, a, c, _, rfl, by rw [h1.out.2.2.1]; exact hn, hrow, h1.out.2.2.2.2⟩
theorem ahead_own (r b : Nat) (L : List Pr) (D : DU) (hn : L.length ≤ 1000000) (x : Int) (w : World) (h : RelAt r b L D w) :
    Calls Try.prog 16 #[.pointer (some ⟨r, 0, none⟩), .int .i64 x] w fun e w' => ∃ n a c cs, e = .returned (.slice a n c) ∧ n ≤ 1000000 ∧ Hid (w'.ownsRow w.heap.size 3 1 (.slice a n c) n cs ∧ Below w.heap.size w w') := by
  refine (ahead_any r b L D hn x w h).mono ?_
  rintro e w' ⟨v, l, rfl, h1⟩
  have hrow := h1.out.2.2.1
  have hl : l.length ≤ 1000000 := by
    have h2 := nodupI_len (riseI_nodup h1.out.1) (G := L.map (·.1)) (fun z hz => List.mem_map.2 ⟨(z, x), (h1.out.2.1 z).1 hz, rfl⟩)
    rw [List.length_map] at h2
    omega
  obtain ⟨a, c, rfl, _, _⟩ := row_slI hrow
  exact ⟨_, a, c, _, rfl, hl, hrow, h1.out.2.2.2⟩
theorem behind_own (r b : Nat) (L : List Pr) (D : DU) (hn : L.length ≤ 1000000) (x : Int) (w : World) (h : RelAt r b L D w) :
    Calls Try.prog 18 #[.pointer (some ⟨r, 0, none⟩), .int .i64 x] w fun e w' => ∃ n a c cs, e = .returned (.slice a n c) ∧ n ≤ 1000000 ∧ Hid (w'.ownsRow w.heap.size 3 1 (.slice a n c) n cs ∧ Below w.heap.size w w') := by
  refine (behind_any r b L D hn x w h).mono ?_
  rintro e w' ⟨v, l, rfl, h1⟩
  have hrow := h1.out.2.2.1
  have hl : l.length ≤ 1000000 := by
    have h2 := nodupI_len (riseI_nodup h1.out.1) (G := L.map (·.2)) (fun z hz => List.mem_map.2 ⟨(x, z), (h1.out.2.1 z).1 hz, rfl⟩)
    rw [List.length_map] at h2
    omega
  obtain ⟨a, c, rfl, _, _⟩ := row_slI hrow
  exact ⟨_, a, c, _, rfl, hl, hrow, h1.out.2.2.2⟩
end Go.Proofs.Ytadlgkakjaecdaa
