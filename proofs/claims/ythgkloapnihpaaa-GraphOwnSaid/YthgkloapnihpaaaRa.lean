/- A graph mapped: plain lists; what stands while it is made. -/
import Derived.Test.YthgkloapnihpaaaQh
namespace Go.Proofs.Ythgkloapnihpaaa
open Go.RowKit Go.Maps Go.WideMaps Go.WideElems Go.ChangeShapes Go.WideShapes

/-- The nodes of a graph mapped, and its edges. -/
def mapN (φ : Int → Int) (N : List Int) : List Int := N.foldl (fun M x => putI M (φ x)) []
def mapE (φ : Int → Int) (E : List Ed) : List Ed := E.foldl (fun M x => putE M (φ x.1, φ x.2.1, x.2.2)) []
theorem mapN_next {φ : Int → Int} {N : List Int} {q : Nat} (h : q < N.length) : mapN φ (N.take (q + 1)) = putI (mapN φ (N.take q)) (φ (N.getD q 0)) := by
  unfold mapN
  rw [List.take_add_one, List.getElem?_eq_getElem h, List.getD_eq_getElem?_getD, List.getElem?_eq_getElem h, List.foldl_append]
  rfl
theorem mapE_next {φ : Int → Int} {E : List Ed} {q : Nat} (h : q < E.length) : mapE φ (E.take (q + 1)) = putE (mapE φ (E.take q)) (φ (E.getD q e0).1, φ (E.getD q e0).2.1, (E.getD q e0).2.2) := by
  unfold mapE
  rw [List.take_add_one, List.getElem?_eq_getElem h, List.getD_eq_getElem?_getD, List.getElem?_eq_getElem h, List.foldl_append]
  rfl
theorem mem_foldl_map {φ : Int → Int} {x : Int} : ∀ {N M : List Int}, x ∈ N.foldl (fun M x => putI M (φ x)) M ↔ x ∈ M ∨ ∃ y ∈ N, φ y = x
  | [], M => by simp
  | y :: N, M => by
    rw [List.foldl_cons, mem_foldl_map, mem_putI]
    constructor
    · rintro ((rfl | h) | ⟨z, h, e⟩)
      · exact .inr ⟨y, by simp, rfl⟩
      · exact .inl h
      · exact .inr ⟨z, by simp [h], e⟩
    · rintro (h | ⟨z, h, e⟩)
      · exact .inl (.inr h)
      · rcases List.mem_cons.1 h with rfl | h
        · exact .inl (.inl e.symm)
        · exact .inr ⟨z, h, e⟩
theorem mem_mapN {φ : Int → Int} {x : Int} {N : List Int} : x ∈ mapN φ N ↔ ∃ y ∈ N, φ y = x := by
  unfold mapN
  rw [mem_foldl_map]
  simp
theorem foldl_map_rise {φ : Int → Int} : ∀ (N : List Int) {M : List Int}, RiseI M → RiseI (N.foldl (fun M x => putI M (φ x)) M)
  | [], _, h => h
  | x :: N, _, h => foldl_map_rise N (rise_putI (φ x) h)
theorem mapN_rise (φ : Int → Int) (N : List Int) : RiseI (mapN φ N) := foldl_map_rise N List.Pairwise.nil
theorem foldl_map_len {φ : Int → Int} : ∀ (N M : List Int), (N.foldl (fun M x => putI M (φ x)) M).length ≤ M.length + N.length
  | [], M => by simp
  | x :: N, M => by
    have h1 := foldl_map_len (φ := φ) N (putI M (φ x))
    have h2 := putI_length M (φ x)
    rw [List.foldl_cons, List.length_cons]
    omega
theorem mapN_len (φ : Int → Int) (N : List Int) : (mapN φ N).length ≤ N.length := by
  have := foldl_map_len (φ := φ) N []
  simpa [mapN] using this
theorem foldl_mapE_len {φ : Int → Int} : ∀ (E M : List Ed), (E.foldl (fun M x => putE M (φ x.1, φ x.2.1, x.2.2)) M).length ≤ M.length + E.length
  | [], M => by simp
  | x :: E, M => by
    have h1 := foldl_mapE_len (φ := φ) E (putE M (φ x.1, φ x.2.1, x.2.2))
    have h2 := putE_length M (φ x.1, φ x.2.1, x.2.2)
    rw [List.foldl_cons, List.length_cons]
    omega
theorem mapE_len (φ : Int → Int) (E : List Ed) : (mapE φ E).length ≤ E.length := by
  have := foldl_mapE_len (φ := φ) E []
  simpa [mapE] using this

/-- A map of numbers to their places. -/
def PlaceAt (pb : Nat) (L : List Int) (W : World) : Prop := ∃ D, DomAt Try.prog 3 il fit64 asIs pb L.length L D W ∧ ∀ j, j < L.length → ∀ z, D.atKey (il (L.getD j 0)) z = .held (iv (j : Int))
theorem PlaceAt.off {pb : Nat} {L : List Int} {W W' : World} {Z : Nat → Prop} (h : PlaceAt pb L W) (g : Off Z W W') (hz : ¬ Z pb) : PlaceAt pb L W' := by
  obtain ⟨D, hd, ha⟩ := h
  refine ⟨D, ?_, ha⟩
  obtain ⟨es, clock, hb, r⟩ := hd.own
  exact ⟨⟨es, clock, (g.block pb (Array.getElem?_eq_some_iff.1 hb).1 hz).trans hb, r⟩, hd.has, hd.only, hd.fit⟩
theorem PlaceAt.lt {pb : Nat} {L : List Int} {W : World} (h : PlaceAt pb L W) : pb < W.heap.size := by
  obtain ⟨D, hd, -⟩ := h
  exact hd.own.lt
theorem PlaceAt.look {pb : Nat} {L : List Int} {W : World} (h : PlaceAt pb L W) {j : Nat} (hj : j < L.length) : (Instr.lookup 82 (.map (some pb)) (iv (L.getD j 0)) false).run Try.prog W = .ok (iv (j : Int)) W := by
  obtain ⟨D, hd, ha⟩ := h
  have hm : L.getD j 0 ∈ L := by
    rw [List.getD_eq_getElem?_getD, List.getElem?_eq_getElem hj]
    exact List.getElem_mem hj
  exact look_as hd Try.underlying82 (z := iv 0) (by kernel_rfl) (hd.fit _ hm) (ha j hj _)
theorem PlaceAt.put {pb : Nat} {L : List Int} {W : World} (h : PlaceAt pb L W) {x : Int} (hx : fit64 x) (hn : x ∉ L) (hl : L.length < maxLen) : ∃ W', (Instr.mapUpdate 82 (.map (some pb)) (iv x) (iv (L.length : Int))).run Try.prog W = .ok () W' ∧ PlaceAt pb (L ++ [x]) W' ∧ W.grownBy W' (some pb) := by
  obtain ⟨D, hd, ha⟩ := h
  obtain ⟨W', h1, h2, h3⟩ := put_as hd Try.underlying82 hl hx (iv (L.length : Int)) (L' := L ++ [x]) (fun y => by simp)
  refine ⟨W', h1, ⟨_, by rw [List.length_append]; exact h2, fun j hj z => ?_⟩, h3⟩
  rw [List.length_append] at hj
  simp only [List.length_singleton] at hj
  by_cases e : j = L.length
  · subst e
    have e1 : (L ++ [x]).getD L.length 0 = x := by simp
    rw [e1, at_put hd hx hx, if_pos rfl]
  · have hj2 : j < L.length := by omega
    have e1 : (L ++ [x]).getD j 0 = L.getD j 0 := by
      rw [List.getD_eq_getElem?_getD, List.getD_eq_getElem?_getD, List.getElem?_append_left hj2]
    have hm : L.getD j 0 ∈ L := by
      rw [List.getD_eq_getElem?_getD, List.getElem?_eq_getElem hj2]
      exact List.getElem_mem hj2
    rw [e1, at_put hd hx (hd.fit _ hm), if_neg (fun (e2 : L.getD j 0 = x) => hn (e2 ▸ hm))]
    exact ha j hj2 z
theorem GrAt.grown {Z : Nat → Prop} {B g c : Nat} {N : List Int} {E : List Ed} {W W' : World} {row : Option Nat} (h : GrAt Z B g c N E W) (hg : W.grownBy W' row) (hr : ∀ k, row = some k → k ≠ g ∧ ¬ Z k) : GrAt Z B g c N E W' := by
  obtain ⟨ob, DO, F, DI, f, h1, h2⟩ := h
  exact ⟨ob, DO, F, DI, f, h1.kept hg (fun k e => ⟨(hr k e).1, fun hf => (hr k e).2 (h2 k hf)⟩), h2⟩
theorem GrAt.boxed {Z : Nat → Prop} {B g c : Nat} {N : List Int} {E : List Ed} {W : World} (h : GrAt Z B g c N E W) : ∃ v, W.heap[g]? = some (.cells #[v] 61) := by
  obtain ⟨ob, DO, F, DI, f, h1, h2⟩ := h
  exact ⟨_, h1.box⟩
/-- A graph that is being made, the places of nodes, their images; a row that is read lies as it lay in V. -/
structure MapSt (V : World) (B0 g pb c : Nat) (L I M : List Int) (E : List Ed) (v : Value) (a : Option Addr) (W : World) : Prop where
  gr : ∃ Z B, B ≤ W.heap.size ∧ GrAt Z B g c M E W ∧ (∀ q, Z q → B0 ≤ q ∧ q < W.heap.size ∧ q ≠ pb) ∧ (∀ q, v.ownBlock = some q → ¬ Z q) ∧ ∀ q o, a = some ⟨q, o, none⟩ → ¬ Z q
  place : PlaceAt pb L W
  images : IntsO W B0 v I
  lay : ∀ q o, a = some ⟨q, o, none⟩ → W.heap[q]? = V.heap[q]?
  src : ∀ q o, a = some ⟨q, o, none⟩ → v.ownBlock ≠ some q ∧ q ≠ pb ∧ q < V.heap.size
  base : B0 ≤ pb
  below : Below B0 V W
section
variable {V : World} {B0 g pb c : Nat} {L I M : List Int} {E : List Ed} {v : Value} {a : Option Addr} {W W' : World}
theorem MapSt.b0 (h : MapSt V B0 g pb c L I M E v a W) : B0 ≤ W.heap.size := Nat.le_of_lt (Nat.lt_of_le_of_lt h.base h.place.lt)
/-- What writes at none of its blocks. -/
theorem MapSt.grown {row : Option Nat} (h : MapSt V B0 g pb c L I M E v a W) (hg : W.grownBy W' row) (hb : ∀ k, row = some k → B0 ≤ k) (hpl : PlaceAt pb L W') (hi : IntsO W' B0 v I) (h1 : ∀ k Z B, row = some k → GrAt Z B g c M E W → (∀ q, Z q → B0 ≤ q ∧ q < W.heap.size ∧ q ≠ pb) → (∀ q, v.ownBlock = some q → ¬ Z q) → k ≠ g ∧ ¬ Z k) (h2 : ∀ k q o, row = some k → a = some ⟨q, o, none⟩ → k ≠ q) : MapSt V B0 g pb c L I M E v a W' := by
  obtain ⟨Z, B, hB, hgr, hz, hv, ha⟩ := h.gr
  exact ⟨⟨Z, B, Nat.le_trans hB hg.size, hgr.grown hg (fun k e => h1 k Z B e hgr hz hv), fun q hq => ⟨(hz q hq).1, Nat.lt_of_lt_of_le (hz q hq).2.1 hg.size, (hz q hq).2.2⟩, hv, ha⟩, hpl, hi,
    fun q o e => (hg.block q (Nat.lt_of_lt_of_le (h.src q o e).2.2 h.below.size) (fun e2 => h2 q q o e2.symm e rfl)).trans (h.lay q o e), h.src, h.base, h.below.grown hg h.b0 hb⟩
theorem MapSt.on (h : MapSt V B0 g pb c L I M E v a W) (hb : Below W.heap.size W W') : MapSt V B0 g pb c L I M E v a W' :=
  h.grown (grown_below hb) (fun k e => by cases e) (h.place.off (Z := fun _ => False) (Off.below hb) id) (h.images.below hb) (fun k Z B e => by cases e) (fun k q o e => by cases e)
theorem MapSt.put (h : MapSt V B0 g pb c L I M E v a W) {x : Int} (hx : fit64 x) (hn : x ∉ L) (hl : L.length < maxLen) : ∃ W', (Instr.mapUpdate 82 (.map (some pb)) (iv x) (iv (L.length : Int))).run Try.prog W = .ok () W' ∧ Hid (MapSt V B0 g pb c (L ++ [x]) I M E v a W') := by
  obtain ⟨W', h1, h2, h3⟩ := h.place.put hx hn hl
  obtain ⟨D, hd, -⟩ := h.place
  obtain ⟨o, ho, hc⟩ := dom_obj hd
  have hvp : v.ownBlock ≠ some pb := h.images.no ho hc
  have h4 : MapSt V B0 g pb c (L ++ [x]) I M E v a W' := by
    obtain ⟨Z, B, hB, hgr, hz, hv, ha⟩ := h.gr
    have hpg : pb ≠ g := by
      intro e
      subst e
      obtain ⟨u, hu⟩ := hgr.boxed
      rw [hu] at ho
      cases ho
      cases hc
    exact ⟨⟨Z, B, Nat.le_trans hB h3.size, hgr.grown h3 (fun k e => by cases e; exact ⟨hpg, fun hz2 => (hz _ hz2).2.2 rfl⟩), fun q hq => ⟨(hz q hq).1, Nat.lt_of_lt_of_le (hz q hq).2.1 h3.size, (hz q hq).2.2⟩, hv, ha⟩, h2, h.images.kept h3 (.inr hvp),
      fun q o e => (h3.block q (Nat.lt_of_lt_of_le (h.src q o e).2.2 h.below.size) (fun e2 => (h.src q o e).2.1 (Option.some.inj e2))).trans (h.lay q o e), h.src, h.base, h.below.grown h3 h.b0 (fun k e => by cases e; exact h.base)⟩
  exact ⟨W', h1, h4⟩
theorem MapSt.app (h : MapSt V B0 g pb c L I M E v a W) {v' : Value} {y : Int} (h1 : IntsO W' B0 v' (I ++ [y])) (h2 : W.grownBy W' v.ownBlock) (h3 : ∀ k, v'.ownBlock = some k → v.ownBlock = some k ∨ W.heap.size ≤ k) : MapSt V B0 g pb c L (I ++ [y]) M E v' a W' := by
  obtain ⟨Z, B, hB, hgr, hz, hv, ha⟩ := h.gr
  obtain ⟨D, hd, hat⟩ := h.place
  obtain ⟨o, ho, hc⟩ := dom_obj hd
  have hvp : v.ownBlock ≠ some pb := h.images.no ho hc
  obtain ⟨u, hu⟩ := hgr.boxed
  have hvg : v.ownBlock ≠ some g := h.images.ne hu fun cur2 e3 => by cases e3
  refine ⟨⟨Z, B, Nat.le_trans hB h2.size, hgr.grown h2 (fun k e => ⟨fun e2 => hvg (e.trans (congrArg some e2)), hv k e⟩), fun q hq => ⟨(hz q hq).1, Nat.lt_of_lt_of_le (hz q hq).2.1 h2.size, (hz q hq).2.2⟩, fun q e hq => ?_, ha⟩, ⟨D, hd.kept h2 (fun e => hvp e.symm), hat⟩, h1,
    fun q o e => (h2.block q (Nat.lt_of_lt_of_le (h.src q o e).2.2 h.below.size) (fun e2 => (h.src q o e).1 e2.symm)).trans (h.lay q o e), fun q o e => ⟨fun e2 => ?_, (h.src q o e).2⟩, h.base, h.below.grown h2 h.b0 (fun k e => (h.images.lt e).1)⟩
  · rcases h3 q e with g1 | g1
    · exact hv q g1 hq
    · have := (hz q hq).2.1
      omega
  · rcases h3 q e2 with g1 | g1
    · exact (h.src q o e).1 g1
    · have h4 := (h.src q o e).2.2
      have h5 := h.below.size
      omega
theorem mapSt_wrote {c2 B : Nat} {M2 : List Int} {E2 : List Ed} {Z : Nat → Prop} (h : MapSt V B0 g pb c L I M E v a W) (hB : B ≤ W.heap.size) (hz : ∀ q, Z q → B0 ≤ q ∧ q < W.heap.size ∧ q ≠ pb) (hv : ∀ q, v.ownBlock = some q → ¬ Z q) (ha : ∀ q o, a = some ⟨q, o, none⟩ → ¬ Z q)
    (k1 : GrAt (More Z W W') B g c2 M2 E2 W') (k2 : Off Z W W') : MapSt V B0 g pb c2 L I M2 E2 v a W' := by
  have hpl := h.place.lt
  have hB0 := h.b0
  have hVs := h.below.size
  refine ⟨⟨_, B, Nat.le_trans hB k2.size, k1, fun q hq => ?_, fun q e hq => ?_, fun q o e hq => ?_⟩, h.place.off k2 (fun hz2 => (hz _ hz2).2.2 rfl), ?_, fun q o e => (k2.block q (Nat.lt_of_lt_of_le (h.src q o e).2.2 hVs) (ha q o e)).trans (h.lay q o e), h.src, h.base, ⟨k2.os.trans h.below.os, k2.tape.trans h.below.tape, k2.output.trans h.below.output, Nat.le_trans hVs k2.size, fun i hi => (k2.block i (Nat.lt_of_lt_of_le hi hB0) (fun hz2 => by have := (hz _ hz2).1; omega)).trans (h.below.block i hi)⟩⟩
  · rcases hq with g1 | g1
    · exact ⟨(hz q g1).1, Nat.lt_of_lt_of_le (hz q g1).2.1 k2.size, (hz q g1).2.2⟩
    · exact ⟨by omega, g1.2, by omega⟩
  · rcases hq with g1 | g1
    · exact hv q e g1
    · have := (h.images.lt e).2
      omega
  · rcases hq with g1 | g1
    · exact ha q o e g1
    · have := (h.src q o e).2.2
      omega
  · have hi := h.images
    rcases hi with hn | ⟨b, off, cap, cur, e, hb, hc, r⟩
    · exact .inl hn
    · exact .inr ⟨b, off, cap, cur, e, hb, (k2.block b (Array.getElem?_eq_some_iff.1 hc).1 (hv b (by rw [e]; rfl))).trans hc, r⟩
theorem MapSt.node (h : MapSt V B0 g pb c L I M E v a W) (y : Int) (hy : fit64 y) (hc : c < maxLen) : Calls Try.prog 15 #[.pointer (some ⟨g, 0, none⟩), iv y] W fun e w' => ∃ b, e = .returned (.bool b) ∧ Hid (MapSt V B0 g pb (c + 1) L I (putI M y) E v a w' ∧ W.heap.size ≤ w'.heap.size) := by
  obtain ⟨Z, B, hB, hgr, hz, hv, ha⟩ := h.gr
  refine (node_any y hy hc W hgr).mono ?_
  rintro e w' ⟨rfl, K⟩
  refine ⟨_, rfl, ?_, K.out.2.size⟩
  obtain ⟨k1, k2⟩ := K.out
  exact mapSt_wrote h hB hz hv ha k1 k2
theorem MapSt.edge (h : MapSt V B0 g pb c L I M E v a W) (x y z : Int) (hx : fit64 x) (hy : fit64 y) (hzf : fit64 z) (hc : c ≤ 100000) (hE : E.length ≤ 100000) : Calls Try.prog 12 #[.pointer (some ⟨g, 0, none⟩), iv x, iv y, iv z] W fun e w' => ∃ b, e = .returned (.bool b) ∧ Hid (MapSt V B0 g pb (c + 3) L I (putI (putI M x) y) (putE E (x, y, z)) v a w' ∧ W.heap.size ≤ w'.heap.size) := by
  obtain ⟨Z, B, hB, hgr, hz, hv, ha⟩ := h.gr
  refine (edge_any x y z hx hy hzf hc hE W hB hgr).mono ?_
  rintro e w' ⟨rfl, K⟩
  obtain ⟨k1, k2⟩ := K.out
  exact ⟨_, rfl, mapSt_wrote h hB hz hv ha k1 k2, k2.size⟩
/-- Another row is read. -/
theorem MapSt.turn {a' : Option Addr} (h : MapSt V B0 g pb c L I M E v a W) (hb : Below W.heap.size W W') (ha : ∀ q o, a' = some ⟨q, o, none⟩ → W.heap.size ≤ q ∧ q < W'.heap.size) : MapSt W' B0 g pb c L I M E v a' W' := by
  obtain ⟨Z, B, hB, hgr, hz, hv, -⟩ := h.gr
  have hpl := h.place.lt
  refine ⟨⟨Z, B, Nat.le_trans hB hb.size, hgr.below hb, fun q hq => ⟨(hz q hq).1, Nat.lt_of_lt_of_le (hz q hq).2.1 hb.size, (hz q hq).2.2⟩, hv, fun q o e hq => ?_⟩, h.place.off (Z := fun _ => False) (Off.below hb) id, h.images.below hb, fun _ _ _ => rfl, fun q o e => ⟨fun e2 => ?_, ?_, (ha q o e).2⟩, h.base, Below.refl _ _⟩
  · have h1 := (ha q o e).1
    have h2 := (hz q hq).2.1
    omega
  · have h1 := (ha q o e).1
    have h2 := (h.images.lt e2).2
    omega
  · have h1 := (ha q o e).1
    omega
theorem SlI.lay {W W' : World} {a : Option Addr} {l : List Int} (h : SlI W a l) (g : ∀ q o, a = some ⟨q, o, none⟩ → W'.heap[q]? = W.heap[q]?) (hs : W.heap.size ≤ W'.heap.size) : SlI W' a l := by
  rcases h with h | ⟨b, off, e, hl, h⟩
  · exact .inl h
  · exact .inr ⟨b, off, e, fun hx => Nat.lt_of_lt_of_le (hl hx) hs, fun k x hk => (World.cell?_of_block (g b off e)).trans (h k x hk)⟩
theorem SlE.lay {W W' : World} {a : Option Addr} {l : List Ed} (h : SlE W a l) (g : ∀ q o, a = some ⟨q, o, none⟩ → W'.heap[q]? = W.heap[q]?) (hs : W.heap.size ≤ W'.heap.size) : SlE W' a l := by
  rcases h with h | ⟨b, off, e, hl, h⟩
  · exact .inl h
  · refine .inr ⟨b, off, e, fun hx => Nat.lt_of_lt_of_le (hl hx) hs, fun k p hk => ?_⟩
    obtain ⟨h1, h2, h3⟩ := h k p hk
    exact ⟨(World.cell?_of_block (g b off e)).trans h1, (World.cell?_of_block (g b off e)).trans h2, (World.cell?_of_block (g b off e)).trans h3⟩
/-- At the start. -/
theorem mapSt_start {w w1 : World} {g : Nat} (hg : GrAt (fun k => w.heap.size ≤ k ∧ k < w1.heap.size) w.heap.size g 0 [] [] w1) (hb : Below w.heap.size w w1) : MapSt (w1.alloc (.map #[] 0)) w.heap.size g w1.heap.size 0 [] [] [] [] (.slice none 0 0) none (w1.alloc (.map #[] 0)) := by
  have hb2 : Below w1.heap.size w1 (w1.alloc (.map #[] 0)) := (Below.refl _ _).alloc (Nat.le_refl _) _
  have hs : (w1.alloc (.map #[] 0)).heap.size = w1.heap.size + 1 := by simp
  exact ⟨⟨_, w.heap.size, by rw [hs]; have := hb.size; omega, hg.below hb2, fun q hq => ⟨hq.1, by rw [hs]; omega, by omega⟩, fun q e => by simp [Value.ownBlock] at e, fun _ _ e => (nomatch e)⟩, ⟨_, dom_made Try.prog 3 il fit64 asIs w1, fun j hj => by simp at hj⟩, intsO_nil _ _, fun _ _ e => (nomatch e), fun _ _ e => (nomatch e), hb.size, Below.refl _ _⟩
end
end Go.Proofs.Ythgkloapnihpaaa
