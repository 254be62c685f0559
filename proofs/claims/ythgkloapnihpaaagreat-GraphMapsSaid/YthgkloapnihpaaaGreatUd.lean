/- A graph mapped to letters: what stands while it is made. -/
import Derived.Test.YthgkloapnihpaaaGreatM9
import Derived.Test.YthgkloapnihpaaaGreatUa
namespace Go.Proofs.YthgkloapnihpaaaGreat
open Go.RowKit Go.Maps Go.WideMaps Go.WideElems Go.ChangeShapes Go.WideShapes
namespace S
/-- A row of letters. -/
def TxtO (W : World) (B : Nat) (v : Value) (zs : List Int) : Prop := W.ownsRow B 9 1 v zs.length (zs.map sv)
section
variable {W W' : World} {B : Nat} {v : Value} {zs : List Int}
theorem txtO_nil (W : World) (B : Nat) : TxtO W B (.slice none 0 0) [] := World.ownsRow_nil _ _ _ _
theorem TxtO.lt (h : TxtO W B v zs) {k : Nat} (hk : v.ownBlock = some k) : B ≤ k ∧ k < W.heap.size := World.ownsRow.lt h k hk
theorem TxtO.ne (h : TxtO W B v zs) {k : Nat} {o : Obj} (hk : W.heap[k]? = some o) (hne : ∀ cur, o ≠ .cells cur 9 (0, 0)) : v.ownBlock ≠ some k := by
  rcases h.2 with ⟨rfl, _⟩ | ⟨g, cap, cur, rfl, _, hg, _⟩
  · simp [Value.ownBlock]
  · intro e1
    have e2 : g = k := by simpa [Value.ownBlock] using e1
    subst e2
    rw [hk] at hg
    exact hne cur (Option.some.inj hg)
theorem TxtO.no (h : TxtO W B v zs) {k : Nat} {o : Obj} (hk : W.heap[k]? = some o) (ho : o.isCells = false) : v.ownBlock ≠ some k := h.ne hk fun cur e => by
  rw [e] at ho
  cases ho
theorem TxtO.off {Z : Nat → Prop} (h : TxtO W B v zs) (g : Off Z W W') (hv : ∀ q, v.ownBlock = some q → ¬ Z q) : TxtO W' B v zs := by
  refine ⟨h.1, h.2.imp id ?_⟩
  rintro ⟨b, cap, cur, e, hb, hc, r⟩
  exact ⟨b, cap, cur, e, hb, (g.block b (Array.getElem?_eq_some_iff.1 hc).1 (hv b (by rw [e]; rfl))).trans hc, r⟩
theorem TxtO.below (h : TxtO W B v zs) (hb : Below W.heap.size W W') : TxtO W' B v zs := h.off (Z := fun _ => False) (Off.below hb) (fun _ _ e => e)
theorem TxtO.kept {row : Option Nat} (h : TxtO W B v zs) (hg : W.grownBy W' row) (hne : v.ownBlock = none ∨ v.ownBlock ≠ row) : TxtO W' B v zs :=
  h.off (Z := fun q => row = some q) (Off.grown hg (fun k e => .inl e)) (fun q e e2 => by
    rcases hne with g | g
    · rw [g] at e
      cases e
    · exact g (e.trans e2.symm))
theorem TxtO.alloc (h : TxtO W B v zs) (o : Obj) : TxtO (W.alloc o) B v zs := h.below ((Below.refl _ _).alloc (Nat.le_refl _) _)
theorem TxtO.sl (h : TxtO W B v zs) : ∃ a c, v = .slice a zs.length c := row_sl h
theorem TxtO.at {p : Option Addr} {m c : Nat} (h : TxtO W B (.slice p m c) zs) {k : Nat} (hk : k < zs.length) : ∃ g, p = some ⟨g, 0, none⟩ ∧ W.cell? ⟨g, k, none⟩ = some (sv (zs.getD k 0)) := by
  rcases h.2 with ⟨_, h0⟩ | ⟨g, cap, cur, e, hr⟩
  · omega
  · simp only [Value.slice.injEq] at e
    obtain ⟨rfl, -, rfl⟩ := e
    have h2 := World.ownsRow.cells h (g := g) rfl k (sv (zs.getD k 0)) (by rw [List.getElem?_map, List.getElem?_eq_getElem hk, List.getD_eq_getElem?_getD, List.getElem?_eq_getElem hk]; rfl)
    rw [Addr.add_lit, Nat.zero_add] at h2
    exact ⟨g, rfl, h2⟩
end
theorem GrAt.grown {Z : Nat → Prop} {B g c : Nat} {N : List Int} {E : List Ed} {W W' : World} {row : Option Nat} (h : GrAt Z B g c N E W) (hg : W.grownBy W' row) (hr : ∀ k, row = some k → k ≠ g ∧ ¬ Z k) : GrAt Z B g c N E W' := by
  obtain ⟨ob, DO, F, DI, f, h1, h2⟩ := h
  exact ⟨ob, DO, F, DI, f, h1.kept hg (fun k e => ⟨(hr k e).1, fun hf => (hr k e).2 (h2 k hf)⟩), h2⟩
theorem GrAt.boxed {Z : Nat → Prop} {B g c : Nat} {N : List Int} {E : List Ed} {W : World} (h : GrAt Z B g c N E W) : ∃ v, W.heap[g]? = some (.cells #[v] 70) := by
  obtain ⟨ob, DO, F, DI, f, h1, h2⟩ := h
  exact ⟨_, h1.box⟩
/-- A graph that is being made, the places of nodes, their images; a row that is read lies as it lay in V. -/
structure MapSt (V : World) (B0 g pb c : Nat) (L I M : List Int) (E : List Ed) (v : Value) (a : Option Addr) (W : World) : Prop where
  gr : ∃ Z B, B ≤ W.heap.size ∧ GrAt Z B g c M E W ∧ (∀ q, Z q → B0 ≤ q ∧ q < W.heap.size ∧ q ≠ pb) ∧ (∀ q, v.ownBlock = some q → ¬ Z q) ∧ ∀ q o, a = some ⟨q, o, none⟩ → ¬ Z q
  place : PlaceAt pb L W
  images : TxtO W B0 v I
  lay : ∀ q o, a = some ⟨q, o, none⟩ → W.heap[q]? = V.heap[q]?
  src : ∀ q o, a = some ⟨q, o, none⟩ → v.ownBlock ≠ some q ∧ q ≠ pb ∧ q < V.heap.size
  base : B0 ≤ pb
  below : Below B0 V W
section
variable {V : World} {B0 g pb c : Nat} {L I M : List Int} {E : List Ed} {v : Value} {a : Option Addr} {W W' : World}
theorem MapSt.b0 (h : MapSt V B0 g pb c L I M E v a W) : B0 ≤ W.heap.size := Nat.le_of_lt (Nat.lt_of_le_of_lt h.base h.place.lt)
/-- What writes at none of its blocks. -/
theorem MapSt.grown {row : Option Nat} (h : MapSt V B0 g pb c L I M E v a W) (hg : W.grownBy W' row) (hb : ∀ k, row = some k → B0 ≤ k) (hpl : PlaceAt pb L W') (hi : TxtO W' B0 v I) (h1 : ∀ k Z B, row = some k → GrAt Z B g c M E W → (∀ q, Z q → B0 ≤ q ∧ q < W.heap.size ∧ q ≠ pb) → (∀ q, v.ownBlock = some q → ¬ Z q) → k ≠ g ∧ ¬ Z k) (h2 : ∀ k q o, row = some k → a = some ⟨q, o, none⟩ → k ≠ q) : MapSt V B0 g pb c L I M E v a W' := by
  obtain ⟨Z, B, hB, hgr, hz, hv, ha⟩ := h.gr
  exact ⟨⟨Z, B, Nat.le_trans hB hg.size, hgr.grown hg (fun k e => h1 k Z B e hgr hz hv), fun q hq => ⟨(hz q hq).1, Nat.lt_of_lt_of_le (hz q hq).2.1 hg.size, (hz q hq).2.2⟩, hv, ha⟩, hpl, hi,
    fun q o e => (hg.block q (Nat.lt_of_lt_of_le (h.src q o e).2.2 h.below.size) (fun e2 => h2 q q o e2.symm e rfl)).trans (h.lay q o e), h.src, h.base, h.below.grown hg h.b0 hb⟩
theorem MapSt.on (h : MapSt V B0 g pb c L I M E v a W) (hb : Below W.heap.size W W') : MapSt V B0 g pb c L I M E v a W' :=
  h.grown (grown_below hb) (fun k e => by cases e) (h.place.off (Z := fun _ => False) (Off.below hb) id) (h.images.below hb) (fun k Z B e => by cases e) (fun k q o e => by cases e)
theorem MapSt.put (h : MapSt V B0 g pb c L I M E v a W) {x : Int} (hx : fit64 x) (hn : x ∉ L) (hl : L.length < maxLen) : ∃ W', (Instr.mapUpdate 54 (.map (some pb)) (iv x) (iv (L.length : Int))).run Tryz.prog W = .ok () W' ∧ Hid (MapSt V B0 g pb c (L ++ [x]) I M E v a W') := by
  obtain ⟨W', h1, h2, h3⟩ := h.place.put hx hn hl
  obtain ⟨D, hd, -⟩ := h.place
  obtain ⟨o, ho, hc⟩ := dom_obj hd
  have hvp : v.ownBlock ≠ some pb := h.images.no ho hc
  have h4 : MapSt V B0 g pb c (L ++ [x]) I M E v a W' := by
    obtain ⟨Z, B, hB, hgr, hz, hv, ha⟩ := h.gr
    have hpg : pb ≠ g := by
      intro e
      subst e
      obtain ⟨u, hu⟩ := hgr.boxed
      rw [hu] at ho
      cases ho
      cases hc
    exact ⟨⟨Z, B, Nat.le_trans hB h3.size, hgr.grown h3 (fun k e => by cases e; exact ⟨hpg, fun hz2 => (hz _ hz2).2.2 rfl⟩), fun q hq => ⟨(hz q hq).1, Nat.lt_of_lt_of_le (hz q hq).2.1 h3.size, (hz q hq).2.2⟩, hv, ha⟩, h2, h.images.kept h3 (.inr hvp),
      fun q o e => (h3.block q (Nat.lt_of_lt_of_le (h.src q o e).2.2 h.below.size) (fun e2 => (h.src q o e).2.1 (Option.some.inj e2))).trans (h.lay q o e), h.src, h.base, h.below.grown h3 h.b0 (fun k e => by cases e; exact h.base)⟩
  exact ⟨W', h1, h4⟩
theorem MapSt.app (h : MapSt V B0 g pb c L I M E v a W) {v' : Value} {y : Int} (h1 : TxtO W' B0 v' (I ++ [y])) (h2 : W.grownBy W' v.ownBlock) (h3 : ∀ k, v'.ownBlock = some k → v.ownBlock = some k ∨ W.heap.size ≤ k) : MapSt V B0 g pb c L (I ++ [y]) M E v' a W' := by
  obtain ⟨Z, B, hB, hgr, hz, hv, ha⟩ := h.gr
  obtain ⟨D, hd, hat⟩ := h.place
  obtain ⟨o, ho, hc⟩ := dom_obj hd
  have hvp : v.ownBlock ≠ some pb := h.images.no ho hc
  obtain ⟨u, hu⟩ := hgr.boxed
  have hvg : v.ownBlock ≠ some g := h.images.ne hu fun cur2 e3 => by cases e3
  refine ⟨⟨Z, B, Nat.le_trans hB h2.size, hgr.grown h2 (fun k e => ⟨fun e2 => hvg (e.trans (congrArg some e2)), hv k e⟩), fun q hq => ⟨(hz q hq).1, Nat.lt_of_lt_of_le (hz q hq).2.1 h2.size, (hz q hq).2.2⟩, fun q e hq => ?_, ha⟩, ⟨D, hd.kept h2 (fun e => hvp e.symm), hat⟩, h1,
    fun q o e => (h2.block q (Nat.lt_of_lt_of_le (h.src q o e).2.2 h.below.size) (fun e2 => (h.src q o e).1 e2.symm)).trans (h.lay q o e), fun q o e => ⟨fun e2 => ?_, (h.src q o e).2⟩, h.base, h.below.grown h2 h.b0 (fun k e => (h.images.lt e).1)⟩
  · rcases h3 q e with g1 | g1
    · exact hv q g1 hq
    · have := (hz q hq).2.1
      omega
  · rcases h3 q e2 with g1 | g1
    · exact (h.src q o e).1 g1
    · have h4 := (h.src q o e).2.2
      have h5 := h.below.size
      omega
theorem mapSt_wrote {c2 B : Nat} {M2 : List Int} {E2 : List Ed} {Z : Nat → Prop} (h : MapSt V B0 g pb c L I M E v a W) (hB : B ≤ W.heap.size) (hz : ∀ q, Z q → B0 ≤ q ∧ q < W.heap.size ∧ q ≠ pb) (hv : ∀ q, v.ownBlock = some q → ¬ Z q) (ha : ∀ q o, a = some ⟨q, o, none⟩ → ¬ Z q)
    (k1 : GrAt (More Z W W') B g c2 M2 E2 W') (k2 : Off Z W W') : MapSt V B0 g pb c2 L I M2 E2 v a W' := by
  have hpl := h.place.lt
  have hB0 := h.b0
  have hVs := h.below.size
  refine ⟨⟨_, B, Nat.le_trans hB k2.size, k1, fun q hq => ?_, fun q e hq => ?_, fun q o e hq => ?_⟩, h.place.off k2 (fun hz2 => (hz _ hz2).2.2 rfl), ?_, fun q o e => (k2.block q (Nat.lt_of_lt_of_le (h.src q o e).2.2 hVs) (ha q o e)).trans (h.lay q o e), h.src, h.base, ⟨k2.os.trans h.below.os, k2.tape.trans h.below.tape, k2.output.trans h.below.output, Nat.le_trans hVs k2.size, fun i hi => (k2.block i (Nat.lt_of_lt_of_le hi hB0) (fun hz2 => by have := (hz _ hz2).1; omega)).trans (h.below.block i hi)⟩⟩
  · rcases hq with g1 | g1
    · exact ⟨(hz q g1).1, Nat.lt_of_lt_of_le (hz q g1).2.1 k2.size, (hz q g1).2.2⟩
    · exact ⟨by omega, g1.2, by omega⟩
  · rcases hq with g1 | g1
    · exact hv q e g1
    · have := (h.images.lt e).2
      omega
  · rcases hq with g1 | g1
    · exact ha q o e g1
    · have := (h.src q o e).2.2
      omega
  · have hi := h.images
    exact hi.off k2 hv
set_option maxRecDepth 100000 in
theorem MapSt.node (h : MapSt V B0 g pb c L I M E v a W) (y : Int) (hy : fitS y) (hc : c < maxLen) : Calls Tryz.prog 27 #[.pointer (some ⟨g, 0, none⟩), sv y] W fun e w' => ∃ b, e = .returned (.bool b) ∧ Hid (MapSt V B0 g pb (c + 1) L I (putI M y) E v a w' ∧ W.heap.size ≤ w'.heap.size) := by
  obtain ⟨Z, B, hB, hgr, hz, hv, ha⟩ := h.gr
  refine (node_any y hy hc W hgr).mono ?_
  rintro e w' ⟨rfl, K⟩
  refine ⟨_, rfl, ?_, K.out.2.size⟩
  obtain ⟨k1, k2⟩ := K.out
  exact mapSt_wrote h hB hz hv ha k1 k2
set_option maxRecDepth 100000 in
theorem MapSt.edge (h : MapSt V B0 g pb c L I M E v a W) (x y z : Int) (hx : fitS x) (hy : fitS y) (hzf : fit64 z) (hc : c ≤ 100000) (hE : E.length ≤ 100000) : Calls Tryz.prog 28 #[.pointer (some ⟨g, 0, none⟩), sv x, sv y, iv z] W fun e w' => ∃ b, e = .returned (.bool b) ∧ Hid (MapSt V B0 g pb (c + 3) L I (putI (putI M x) y) (putE E (x, y, z)) v a w' ∧ W.heap.size ≤ w'.heap.size) := by
  obtain ⟨Z, B, hB, hgr, hz, hv, ha⟩ := h.gr
  refine (edge_any x y z hx hy hzf hc hE W hB hgr).mono ?_
  rintro e w' ⟨rfl, K⟩
  obtain ⟨k1, k2⟩ := K.out
  exact ⟨_, rfl, mapSt_wrote h hB hz hv ha k1 k2, k2.size⟩
/-- Another row is read. -/
theorem MapSt.turn {a' : Option Addr} (h : MapSt V B0 g pb c L I M E v a W) (hb : Below W.heap.size W W') (ha : ∀ q o, a' = some ⟨q, o, none⟩ → W.heap.size ≤ q ∧ q < W'.heap.size) : MapSt W' B0 g pb c L I M E v a' W' := by
  obtain ⟨Z, B, hB, hgr, hz, hv, -⟩ := h.gr
  have hpl := h.place.lt
  refine ⟨⟨Z, B, Nat.le_trans hB hb.size, hgr.below hb, fun q hq => ⟨(hz q hq).1, Nat.lt_of_lt_of_le (hz q hq).2.1 hb.size, (hz q hq).2.2⟩, hv, fun q o e hq => ?_⟩, h.place.off (Z := fun _ => False) (Off.below hb) id, h.images.below hb, fun _ _ _ => rfl, fun q o e => ⟨fun e2 => ?_, ?_, (ha q o e).2⟩, h.base, Below.refl _ _⟩
  · have h1 := (ha q o e).1
    have h2 := (hz q hq).2.1
    omega
  · have h1 := (ha q o e).1
    have h2 := (h.images.lt e2).2
    omega
  · have h1 := (ha q o e).1
    omega
/-- At the start. -/
theorem mapSt_start {w w1 : World} {g : Nat} (hg : GrAt (fun k => w.heap.size ≤ k ∧ k < w1.heap.size) w.heap.size g 0 [] [] w1) (hb : Below w.heap.size w w1) : MapSt (w1.alloc (.map #[] 0)) w.heap.size g w1.heap.size 0 [] [] [] [] (.slice none 0 0) none (w1.alloc (.map #[] 0)) := by
  have hb2 : Below w1.heap.size w1 (w1.alloc (.map #[] 0)) := (Below.refl _ _).alloc (Nat.le_refl _) _
  have hs : (w1.alloc (.map #[] 0)).heap.size = w1.heap.size + 1 := by simp
  exact ⟨⟨_, w.heap.size, by rw [hs]; have := hb.size; omega, hg.below hb2, fun q hq => ⟨hq.1, by rw [hs]; omega, by omega⟩, fun q e => by simp [Value.ownBlock] at e, fun _ _ e => (nomatch e)⟩, ⟨_, dom_made Tryz.prog 3 il fit64 asIs w1, fun j hj => by simp at hj⟩, txtO_nil _ _, fun _ _ e => (nomatch e), fun _ _ e => (nomatch e), hb.size, Below.refl _ _⟩
end
end S
end Go.Proofs.YthgkloapnihpaaaGreat
