/- A graph mapped by a function that keeps who was asked for: what stands while it is made. -/
import Derived.Test.YthgkloapnihpaaaGreatM9
import Derived.Test.YthgkloapnihpaaaGreatUa
namespace Go.Proofs.YthgkloapnihpaaaGreat
open Go.RowKit Go.Maps Go.WideMaps Go.WideElems Go.ChangeShapes Go.WideShapes
namespace K
theorem intsO_off {W W' : World} {B : Nat} {v : Value} {zs : List Int} {Z : Nat → Prop} (h : IntsO W B v zs) (g : Off Z W W') (hv : ∀ q, v.ownBlock = some q → ¬ Z q) : IntsO W' B v zs := by
  rcases h with hn | ⟨b, off, cap, cur, e, hb, hc, r⟩
  · exact .inl hn
  · exact .inr ⟨b, off, cap, cur, e, hb, (g.block b (Array.getElem?_eq_some_iff.1 hc).1 (hv b (by rw [e]; rfl))).trans hc, r⟩
theorem ask_off {W W' : World} {bx : Nat} {va : Value} {A : List Int} {Z : Nat → Prop} (h : Ask bx va A W) (g : Off Z W W') (hb : ¬ Z bx) (hv : ∀ q, va.ownBlock = some q → ¬ Z q) : Ask bx va A W' :=
  ⟨(g.block bx (Array.getElem?_eq_some_iff.1 h.box).1 hb).trans h.box, intsO_off h.row g hv⟩
theorem grAt_off {Z Zx : Nat → Prop} {B g c : Nat} {N : List Int} {E : List Ed} {W W' : World} (h : GrAt Z B g c N E W) (ho : Off Zx W W') (hr : ∀ q, Zx q → q ≠ g ∧ ¬ Z q) : GrAt Z B g c N E W' := by
  obtain ⟨ob, DO, F, DI, f, h1, h2⟩ := h
  exact ⟨ob, DO, F, DI, f, h1.off ho (fun k hk => ⟨(hr k hk).1, fun hf => (hr k hk).2 (h2 k hf)⟩), h2⟩
theorem off_trans {Z : Nat → Prop} {w w1 w2 : World} (h : Off Z w w1) (k : Off Z w1 w2) : Off Z w w2 :=
  ⟨k.os.trans h.os, k.tape.trans h.tape, k.output.trans h.output, Nat.le_trans h.size k.size, fun i hi hz => (k.block i (Nat.lt_of_lt_of_le hi h.size) hz).trans (h.block i hi hz)⟩
theorem off_mono {Z Z' : Nat → Prop} {w w' : World} (h : Off Z w w') (hz : ∀ q, Z q → Z' q) : Off Z' w w' := ⟨h.os, h.tape, h.output, h.size, fun i hi hn => h.block i hi fun g => hn (hz i g)⟩
/-- A graph that is being made, the places of nodes, their images, who was asked for; a row that is read lies as it lay in V. -/
structure MapSt (V : World) (B0 g pb bx c : Nat) (va : Value) (A L I M : List Int) (E : List Ed) (v : Value) (a : Option Addr) (W : World) : Prop where
  gr : ∃ Z B, B ≤ W.heap.size ∧ GrAt Z B g c M E W ∧ (∀ q, Z q → B0 ≤ q ∧ q < W.heap.size ∧ q ≠ pb) ∧ (∀ q, v.ownBlock = some q → ¬ Z q) ∧ (∀ q o, a = some ⟨q, o, none⟩ → ¬ Z q) ∧ ∀ q, va.ownBlock = some q → ¬ Z q
  place : PlaceAt pb L W
  images : IntsO W B0 v I
  lay : ∀ q o, a = some ⟨q, o, none⟩ → W.heap[q]? = V.heap[q]?
  src : ∀ q o, a = some ⟨q, o, none⟩ → v.ownBlock ≠ some q ∧ q ≠ pb ∧ q < V.heap.size ∧ va.ownBlock ≠ some q ∧ B0 ≤ q
  base : B0 ≤ pb
  ask : Ask bx va A W
  apart : ∀ q, va.ownBlock = some q → v.ownBlock ≠ some q ∧ B0 ≤ q
  bxB : bx < B0
  below : Off (fun q => q = bx ∨ B0 ≤ q) V W
section
variable {V : World} {B0 g pb bx c : Nat} {va : Value} {A L I M : List Int} {E : List Ed} {v : Value} {a : Option Addr} {W W' : World}
theorem MapSt.b0 (h : MapSt V B0 g pb bx c va A L I M E v a W) : B0 ≤ W.heap.size := Nat.le_of_lt (Nat.lt_of_le_of_lt h.base h.place.lt)
theorem MapSt.core {Zx : Nat → Prop} {va' v' : Value} {A' L' I' : List Int} (h : MapSt V B0 g pb bx c va A L I M E v a W) (ho : Off Zx W W') (hB : ∀ q, Zx q → q = bx ∨ B0 ≤ q) (hg : ∀ q, Zx q → q ≠ g)
    (hz : ∀ Z : Nat → Prop, (∀ q, Z q → B0 ≤ q ∧ q < W.heap.size ∧ q ≠ pb) → (∀ q, v.ownBlock = some q → ¬ Z q) → (∀ q, va.ownBlock = some q → ¬ Z q) → ∀ q, Zx q → ¬ Z q)
    (ha : ∀ q o, a = some ⟨q, o, none⟩ → ¬ Zx q) (hp : PlaceAt pb L' W') (hi : IntsO W' B0 v' I') (hk : Ask bx va' A' W')
    (hv : ∀ q, v'.ownBlock = some q → v.ownBlock = some q ∨ W.heap.size ≤ q) (hva : ∀ q, va'.ownBlock = some q → va.ownBlock = some q ∨ W.heap.size ≤ q) (hap : ∀ q, va'.ownBlock = some q → v'.ownBlock ≠ some q) :
    MapSt V B0 g pb bx c va' A' L' I' M E v' a W' := by
  obtain ⟨Z, B, hBs, hgr, h1, h2, h3, h4⟩ := h.gr
  have hb0 := h.b0
  have hVs := h.below.size
  refine ⟨⟨Z, B, Nat.le_trans hBs ho.size, grAt_off hgr ho (fun q hq => ⟨hg q hq, hz Z h1 h2 h4 q hq⟩), fun q hq => ⟨(h1 q hq).1, Nat.lt_of_lt_of_le (h1 q hq).2.1 ho.size, (h1 q hq).2.2⟩, fun q e hq => ?_, h3, fun q e hq => ?_⟩, hp, hi,
    fun q o e => (ho.block q (Nat.lt_of_lt_of_le (h.src q o e).2.2.1 hVs) (ha q o e)).trans (h.lay q o e), fun q o e => ⟨fun e2 => ?_, (h.src q o e).2.1, (h.src q o e).2.2.1, fun e2 => ?_, (h.src q o e).2.2.2.2⟩, h.base, hk, fun q e => ⟨hap q e, ?_⟩, h.bxB, off_trans h.below (off_mono ho hB)⟩
  · rcases hv q e with g1 | g1
    · exact h2 q g1 hq
    · have := (h1 q hq).2.1
      omega
  · rcases hva q e with g1 | g1
    · exact h4 q g1 hq
    · have := (h1 q hq).2.1
      omega
  · rcases hv q e2 with g1 | g1
    · exact (h.src q o e).1 g1
    · have := (h.src q o e).2.2.1
      omega
  · rcases hva q e2 with g1 | g1
    · exact (h.src q o e).2.2.2.1 g1
    · have := (h.src q o e).2.2.1
      omega
  · rcases hva q e with g1 | g1
    · exact (h.apart q g1).2
    · omega
theorem MapSt.boxed (h : MapSt V B0 g pb bx c va A L I M E v a W) : ∃ u, W.heap[g]? = some (.cells #[u] 73) := by
  obtain ⟨Z, B, -, hgr, -⟩ := h.gr
  obtain ⟨ob, DO, F, DI, f, h1, -⟩ := hgr
  exact ⟨_, h1.box⟩
theorem MapSt.pobj (h : MapSt V B0 g pb bx c va A L I M E v a W) : ∃ o, W.heap[pb]? = some o ∧ o.isCells = false := by
  obtain ⟨D, hd, -⟩ := h.place
  exact dom_obj hd
theorem MapSt.pbg (h : MapSt V B0 g pb bx c va A L I M E v a W) : pb ≠ g := by
  intro e
  obtain ⟨u, hu⟩ := h.boxed
  obtain ⟨o, ho, hc⟩ := h.pobj
  rw [e, hu] at ho
  cases ho
  cases hc
theorem MapSt.on (h : MapSt V B0 g pb bx c va A L I M E v a W) (hb : Below W.heap.size W W') : MapSt V B0 g pb bx c va A L I M E v a W' :=
  h.core (Zx := fun _ => False) (Off.below hb) (fun _ e => e.elim) (fun _ e => e.elim) (fun _ _ _ _ _ e => e.elim) (fun _ _ _ e => e) (h.place.off (Z := fun _ => False) (Off.below hb) id) (h.images.below hb) (ask_off (Z := fun _ => False) h.ask (Off.below hb) id (fun _ _ e => e)) (fun _ e => .inl e) (fun _ e => .inl e) (fun q e => (h.apart q e).1)
theorem MapSt.put (h : MapSt V B0 g pb bx c va A L I M E v a W) {x : Int} (hx : fit64 x) (hn : x ∉ L) (hl : L.length < maxLen) : ∃ W', (Instr.mapUpdate 54 (.map (some pb)) (iv x) (iv (L.length : Int))).run Tryz.prog W = .ok () W' ∧ Hid (MapSt V B0 g pb bx c va A (L ++ [x]) I M E v a W') := by
  obtain ⟨W', h1, h2, h3⟩ := h.place.put hx hn hl
  obtain ⟨o, ho, hc⟩ := h.pobj
  have hvp : v.ownBlock ≠ some pb := h.images.no ho hc
  have hap : va.ownBlock ≠ some pb := h.ask.row.no ho hc
  have hofs : Off (fun q => q = pb) W W' := Off.grown h3 (fun k e => .inl (Option.some.inj e).symm)
  refine ⟨W', h1, h.core hofs (fun q e => .inr (e ▸ h.base)) (fun q e => e ▸ h.pbg) (fun Z z1 _ _ q e hq => (z1 q hq).2.2 e) (fun q o e1 e2 => (h.src q o e1).2.1 e2) h2 (h.images.kept h3 (.inr hvp)) (ask_off h.ask hofs (fun e => ?_) (fun q e e2 => hap (e2 ▸ e))) (fun _ e => .inl e) (fun _ e => .inl e) (fun q e => (h.apart q e).1)⟩
  have h4 := h.bxB
  have h5 := h.base
  omega
theorem MapSt.app (h : MapSt V B0 g pb bx c va A L I M E v a W) {v' : Value} {y : Int} (h1 : IntsO W' B0 v' (I ++ [y])) (h2 : W.grownBy W' v.ownBlock) (h3 : ∀ k, v'.ownBlock = some k → v.ownBlock = some k ∨ W.heap.size ≤ k) : MapSt V B0 g pb bx c va A L (I ++ [y]) M E v' a W' := by
  obtain ⟨o, ho, hc⟩ := h.pobj
  have hvp : v.ownBlock ≠ some pb := h.images.no ho hc
  obtain ⟨u, hu⟩ := h.boxed
  have hvg : v.ownBlock ≠ some g := h.images.ne hu fun cur2 e3 => by cases e3
  have hofs : Off (fun q => v.ownBlock = some q) W W' := Off.grown h2 (fun k e => .inl e)
  refine h.core hofs (fun q e => .inr (h.images.lt e).1) (fun q e e2 => hvg (e2 ▸ e)) (fun Z _ z2 _ q e => z2 q e) (fun q o e1 e2 => (h.src q o e1).1 e2) (h.place.off hofs hvp) h1 (ask_off h.ask hofs (fun e => ?_) (fun q e e2 => (h.apart q e).1 e2)) h3 (fun _ e => .inl e) (fun q e e2 => ?_)
  · have h4 := h.bxB
    have h5 := (h.images.lt e).1
    omega
  · rcases h3 q e2 with g1 | g1
    · exact (h.apart q e).1 g1
    · have := (h.ask.row.lt e).2
      omega
theorem MapSt.asked (h : MapSt V B0 g pb bx c va A L I M E v a W) {va' : Value} {k : Int} (h1 : Ask bx va' (A ++ [k]) W') (h2 : Off (fun q => q = bx ∨ va.ownBlock = some q) W W') (h3 : ∀ q, va'.ownBlock = some q → va.ownBlock = some q ∨ W.heap.size ≤ q) : MapSt V B0 g pb bx c va' (A ++ [k]) L I M E v a W' := by
  obtain ⟨o, ho, hc⟩ := h.pobj
  have hap : va.ownBlock ≠ some pb := h.ask.row.no ho hc
  obtain ⟨u, hu⟩ := h.boxed
  have hag : va.ownBlock ≠ some g := h.ask.row.ne hu fun cur2 e3 => by cases e3
  have hbg : bx ≠ g := by
    intro e
    have h4 := h.ask.box
    rw [e, hu] at h4
    cases h4
  have hbx := h.bxB
  have hbase := h.base
  have hib : ∀ q, v.ownBlock = some q → ¬ (q = bx ∨ va.ownBlock = some q) := fun q e e2 => by
    rcases e2 with rfl | e2
    · have := (h.images.lt e).1
      omega
    · exact (h.apart q e2).1 e
  refine h.core h2 (fun q e => e.imp id fun e => (h.apart q e).2) (fun q e e2 => ?_) (fun Z z1 _ z3 q e hq => ?_) (fun q o e1 e2 => ?_) (h.place.off h2 (fun e => ?_)) (intsO_off h.images h2 hib) h1 (fun _ e => .inl e) h3 (fun q e e2 => ?_)
  · rcases e with e | e
    · exact hbg (e.symm.trans e2)
    · exact hag (e2 ▸ e)
  · rcases e with rfl | e
    · have := (z1 _ hq).1
      omega
    · exact z3 q e hq
  · rcases e2 with rfl | e2
    · have := (h.src _ o e1).2.2.2.2
      omega
    · exact (h.src q o e1).2.2.2.1 e2
  · rcases e with e | e
    · omega
    · exact hap e
  · rcases h3 q e with g1 | g1
    · exact (h.apart q g1).1 e2
    · have := (h.images.lt e2).2
      omega
theorem mapSt_wrote {c2 B : Nat} {M2 : List Int} {E2 : List Ed} {Z : Nat → Prop} (h : MapSt V B0 g pb bx c va A L I M E v a W) (hB : B ≤ W.heap.size) (hz : ∀ q, Z q → B0 ≤ q ∧ q < W.heap.size ∧ q ≠ pb) (hv : ∀ q, v.ownBlock = some q → ¬ Z q) (ha : ∀ q o, a = some ⟨q, o, none⟩ → ¬ Z q) (hva : ∀ q, va.ownBlock = some q → ¬ Z q)
    (k1 : GrAt (More Z W W') B g c2 M2 E2 W') (k2 : Off Z W W') : MapSt V B0 g pb bx c2 va A L I M2 E2 v a W' := by
  have hpl := h.place.lt
  have hB0 := h.b0
  have hVs := h.below.size
  have hbx := h.bxB
  refine ⟨⟨_, B, Nat.le_trans hB k2.size, k1, fun q hq => ?_, fun q e hq => ?_, fun q o e hq => ?_, fun q e hq => ?_⟩, h.place.off k2 (fun hz2 => (hz _ hz2).2.2 rfl), intsO_off h.images k2 hv, fun q o e => (k2.block q (Nat.lt_of_lt_of_le (h.src q o e).2.2.1 hVs) (ha q o e)).trans (h.lay q o e), h.src, h.base, ask_off h.ask k2 (fun hz2 => ?_) hva, h.apart, h.bxB, off_trans h.below (off_mono k2 fun q hq => .inr (hz q hq).1)⟩
  · rcases hq with g1 | g1
    · exact ⟨(hz q g1).1, Nat.lt_of_lt_of_le (hz q g1).2.1 k2.size, (hz q g1).2.2⟩
    · exact ⟨by omega, g1.2, by omega⟩
  · rcases hq with g1 | g1
    · exact hv q e g1
    · have := (h.images.lt e).2
      omega
  · rcases hq with g1 | g1
    · exact ha q o e g1
    · have := (h.src q o e).2.2.1
      omega
  · rcases hq with g1 | g1
    · exact hva q e g1
    · have := (h.ask.row.lt e).2
      omega
  · have := (hz _ hz2).1
    omega
theorem MapSt.node (h : MapSt V B0 g pb bx c va A L I M E v a W) (y : Int) (hy : fit64 y) (hc : c < maxLen) : Calls Tryz.prog 20 #[.pointer (some ⟨g, 0, none⟩), iv y] W fun e w' => ∃ b, e = .returned (.bool b) ∧ Hid (MapSt V B0 g pb bx (c + 1) va A L I (putI M y) E v a w' ∧ W.heap.size ≤ w'.heap.size) := by
  obtain ⟨Z, B, hB, hgr, hz, hv, ha, hva⟩ := h.gr
  refine (node_any y hy hc W hgr).mono ?_
  rintro e w' ⟨rfl, K⟩
  obtain ⟨k1, k2⟩ := K.out
  exact ⟨_, rfl, mapSt_wrote h hB hz hv ha hva k1 k2, k2.size⟩
theorem MapSt.edge (h : MapSt V B0 g pb bx c va A L I M E v a W) (x y z : Int) (hx : fit64 x) (hy : fit64 y) (hzf : fit64 z) (hc : c ≤ 100000) (hE : E.length ≤ 100000) : Calls Tryz.prog 19 #[.pointer (some ⟨g, 0, none⟩), iv x, iv y, iv z] W fun e w' => ∃ b, e = .returned (.bool b) ∧ Hid (MapSt V B0 g pb bx (c + 3) va A L I (putI (putI M x) y) (putE E (x, y, z)) v a w' ∧ W.heap.size ≤ w'.heap.size) := by
  obtain ⟨Z, B, hB, hgr, hz, hv, ha, hva⟩ := h.gr
  refine (edge_any x y z hx hy hzf hc hE W hB hgr).mono ?_
  rintro e w' ⟨rfl, K⟩
  obtain ⟨k1, k2⟩ := K.out
  exact ⟨_, rfl, mapSt_wrote h hB hz hv ha hva k1 k2, k2.size⟩
/-- Another row is read. -/
theorem MapSt.turn {a' : Option Addr} (h : MapSt V B0 g pb bx c va A L I M E v a W) (hb : Below W.heap.size W W') (ha : ∀ q o, a' = some ⟨q, o, none⟩ → W.heap.size ≤ q ∧ q < W'.heap.size) : MapSt W' B0 g pb bx c va A L I M E v a' W' := by
  have h2 := h.on hb
  obtain ⟨Z, B, hB, hgr, hz, hv, -, hva⟩ := h.gr
  have hpl := h.place.lt
  have hb0 := h.b0
  refine ⟨⟨Z, B, Nat.le_trans hB hb.size, hgr.below hb, fun q hq => ⟨(hz q hq).1, Nat.lt_of_lt_of_le (hz q hq).2.1 hb.size, (hz q hq).2.2⟩, hv, fun q o e hq => ?_, hva⟩, h2.place, h2.images, fun _ _ _ => rfl, fun q o e => ⟨fun e2 => ?_, ?_, (ha q o e).2, fun e2 => ?_, ?_⟩, h.base, h2.ask, h.apart, h.bxB, Off.refl _ _⟩
  · have h1 := (ha q o e).1
    have h2 := (hz q hq).2.1
    omega
  · have h1 := (ha q o e).1
    have h2 := (h.images.lt e2).2
    omega
  · have h1 := (ha q o e).1
    omega
  · have h1 := (ha q o e).1
    have h2 := (h.ask.row.lt e2).2
    omega
  · have h1 := (ha q o e).1
    omega
/-- At the start. -/
theorem mapSt_start {w w1 : World} {g bx : Nat} (hg : GrAt (fun k => w.heap.size ≤ k ∧ k < w1.heap.size) w.heap.size g 0 [] [] w1) (hb : Below w.heap.size w w1) (hk : Ask bx (.slice none 0 0) [] w) : MapSt (w1.alloc (.map #[] 0)) w.heap.size g w1.heap.size bx 0 (.slice none 0 0) [] [] [] [] [] (.slice none 0 0) none (w1.alloc (.map #[] 0)) := by
  have hb2 : Below w1.heap.size w1 (w1.alloc (.map #[] 0)) := (Below.refl _ _).alloc (Nat.le_refl _) _
  have hs : (w1.alloc (.map #[] 0)).heap.size = w1.heap.size + 1 := by simp
  have hlt := (Array.getElem?_eq_some_iff.1 hk.box).1
  refine ⟨⟨_, w.heap.size, by rw [hs]; have := hb.size; omega, hg.below hb2, fun q hq => ⟨hq.1, by rw [hs]; omega, by omega⟩, fun q e => by simp [Value.ownBlock] at e, fun _ _ e => (nomatch e), fun q e => by simp [Value.ownBlock] at e⟩, ⟨_, dom_made Tryz.prog 3 il fit64 asIs w1, fun j hj => by simp at hj⟩, intsO_nil _ _, fun _ _ e => (nomatch e), fun _ _ e => (nomatch e), hb.size, ?_, fun q e => by simp [Value.ownBlock] at e, hlt, Off.refl _ _⟩
  exact ⟨(hb2.block bx (Nat.lt_of_lt_of_le hlt hb.size)).trans ((hb.block bx hlt).trans hk.box), intsO_nil _ _⟩
end
end K
end Go.Proofs.YthgkloapnihpaaaGreat
