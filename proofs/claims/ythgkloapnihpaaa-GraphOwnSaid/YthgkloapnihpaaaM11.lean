/- Helpers, joined: Lg. -/
import Derived.Test.YthgkloapnihpaaaM10

/- What graphs tell, by contracts as the statements take them. -/
namespace Go.Proofs.Ythgkloapnihpaaa
open Go.RowKit Go.Maps Go.WideMaps Go.WideElems Go.ChangeShapes Go.WideShapes

theorem mem_foldl_putE {p : Ed} : ∀ {es : List Ed} {E : List Ed}, p ∈ es.foldl putE E ↔ p ∈ E ∨ p ∈ es
  | [], E => by simp
  | x :: es, E => by
    rw [List.foldl_cons, mem_foldl_putE, mem_putE, List.mem_cons]
    constructor
    · rintro ((rfl | h) | h)
      · exact .inr (.inl rfl)
      · exact .inl h
      · exact .inr (.inr h)
    · rintro (h | rfl | h)
      · exact .inl (.inr h)
      · exact .inl (.inl rfl)
      · exact .inr h
theorem mem_edgesUp {p : Ed} {es : List Ed} : p ∈ edgesUp es ↔ p ∈ es := by
  unfold edgesUp
  rw [mem_foldl_putE]
  simp
/-- What holds of a graph in memory, whatever the world. -/
theorem gr_facts {Z : Nat → Prop} {B g c : Nat} {N : List Int} {E : List Ed} {W : World} (h : GrAt Z B g c N E W) : RiseI N ∧ EndsIn N E ∧ (∀ x ∈ N, fit64 x) ∧ RiseE E := by
  obtain ⟨ob, DO, F, DI, f, hG, -⟩ := h
  exact ⟨hG.nodes, hG.ends, fun a ha => hG.dom.fit a ha, hG.edges⟩
/-- A graph, whatever blocks it has. -/
def Gr (g c : Nat) (N : List Int) (E : List Ed) (W : World) : Prop := ∃ Z B, GrAt Z B g c N E W
section
variable {g c : Nat} {N : List Int} {E : List Ed} {W : World}
theorem Gr.below {W' : World} (h : Gr g c N E W) (hb : Below W.heap.size W W') : Gr g c N E W' := gat_below h hb
theorem Gr.facts (h : Gr g c N E W) : RiseI N ∧ EndsIn N E ∧ (∀ x ∈ N, fit64 x) ∧ RiseE E := by
  obtain ⟨Z, B, h⟩ := h
  exact gr_facts h
theorem Gr.topN (h : Gr g c N E W) (hc : c ≤ 100000) (hN : N.length ≤ 500) (ht : topoZ N E N.length [] = none) : Calls Try.prog 28 #[.pointer (some ⟨g, 0, none⟩)] W fun e w' => ∃ p c, e = .returned (.tuple #[.slice p 0 c, .bool false]) ∧ Hid (Below W.heap.size W w') := by
  obtain ⟨Z, B, h⟩ := h
  refine (topo_p hc hN W h).mono ?_
  rintro e w' ⟨v, O, ok, rfl, K⟩
  obtain ⟨k1, k2, k3⟩ := K.out
  rw [ht] at k2
  rcases k2 with ⟨-, rfl, rfl⟩ | ⟨h2, -⟩
  · obtain ⟨p, c, rfl, -⟩ := k1.sl
    exact ⟨p, c, rfl, k3⟩
  · cases h2
theorem Gr.topS (h : Gr g c N E W) (hc : c ≤ 100000) (hN : N.length ≤ 500) {l : List Int} (ht : topoZ N E N.length [] = some l) : Calls Try.prog 28 #[.pointer (some ⟨g, 0, none⟩)] W fun e w' => ∃ p c, e = .returned (.tuple #[.slice p l.length c, .bool true]) ∧ Hid (SlI w' p l ∧ Below W.heap.size W w') := by
  obtain ⟨Z, B, h⟩ := h
  refine (topo_p hc hN W h).mono ?_
  rintro e w' ⟨v, O, ok, rfl, K⟩
  obtain ⟨k1, k2, k3⟩ := K.out
  rw [ht] at k2
  rcases k2 with ⟨h2, -, -⟩ | ⟨h2, rfl⟩
  · cases h2
  · cases h2
    obtain ⟨p, c, rfl, hs⟩ := k1.sl
    exact ⟨p, c, rfl, hs, k3⟩
theorem Gr.cycN (h : Gr g c N E W) (hc : c ≤ 100000) (hN : N.length ≤ 500) (ht : startZ (EdR E) N = none) : Calls Try.prog 26 #[.pointer (some ⟨g, 0, none⟩)] W fun e w' => ∃ p c, e = .returned (.slice p 0 c) ∧ Hid (Below W.heap.size W w') := by
  obtain ⟨Z, B, h⟩ := h
  refine (cycle_p hc hN W h).mono ?_
  rintro e w' ⟨v, l, rfl, K⟩
  obtain ⟨k1, k2, k3⟩ := K.out
  have e := cycIs_same k2 (.inl ⟨ht, rfl⟩)
  subst e
  obtain ⟨p, c, rfl, -⟩ := k1.sl
  exact ⟨p, c, rfl, k3⟩
theorem Gr.cycS (h : Gr g c N E W) (hc : c ≤ 100000) (hN : N.length ≤ 500) (ht : startZ (EdR E) N ≠ none) : Calls Try.prog 26 #[.pointer (some ⟨g, 0, none⟩)] W fun e w' => ∃ p n c, e = .returned (.slice p (n + 1) c) ∧ Hid (Below W.heap.size W w') := by
  obtain ⟨Z, B, h⟩ := h
  refine (cycle_p hc hN W h).mono ?_
  rintro e w' ⟨v, l, rfl, K⟩
  obtain ⟨k1, k2, k3⟩ := K.out
  rcases k2 with ⟨h1, -⟩ | ⟨s, L, -, -, h4⟩
  · exact absurd h1 ht
  · subst h4
    obtain ⟨p, c, rfl, -⟩ := k1.sl
    exact ⟨p, _, c, rfl, k3⟩
theorem Gr.kinds (h : Gr g c N E W) (a b : Int) (ha : fit64 a) (hb : fit64 b) (hE : E.length ≤ 100000) : Calls Try.prog 18 #[.pointer (some ⟨g, 0, none⟩), iv a, iv b] W fun e w' => ∃ p c, e = .returned (.slice p (kindsE E a b).length c) ∧ Hid (SlI w' p (kindsE E a b) ∧ Below W.heap.size W w') := by
  obtain ⟨Z, B, h⟩ := h
  refine (kinds_any a b ha hb hE W h).mono ?_
  rintro e w' ⟨v, rfl, K⟩
  obtain ⟨p, c, rfl, hs⟩ := (intsO_row K.out.1).sl
  exact ⟨p, c, rfl, hs, K.out.2⟩
theorem Gr.nodes (h : Gr g c N E W) (hc : c ≤ 100000) : Calls Try.prog 32 #[.pointer (some ⟨g, 0, none⟩)] W fun e w' => ∃ p c, e = .returned (.slice p N.length c) ∧ Hid (SlI w' p N ∧ Below W.heap.size W w') := by
  obtain ⟨Z, B, h⟩ := h
  refine (nodes_any hc W h).mono ?_
  rintro e w' ⟨v, rfl, K⟩
  obtain ⟨p, c, rfl, hs⟩ := (intsO_row K.out.1).sl
  exact ⟨p, c, rfl, hs, K.out.2⟩
theorem pts_cells {R : Int → Int → Prop} {B n cp : Nat} {p : Option Addr} {ps : Pts} {V : World} (h : PtsAt B (.slice p n cp) ps V) (hp : ps.map (·.2) = partsOf R N) (hn : ps.length = n) {q : Nat} (hq : q < n) :
    ∃ g10 gx ox cx a l, p = some ⟨g10, 0, none⟩ ∧ (partsOf R N).getD q [] = a :: l ∧ a ∈ N ∧ (a :: l).length ≤ N.length ∧ (∀ x ∈ a :: l, x ∈ N) ∧ ∀ W, Below V.heap.size V W → W.cell? ⟨g10, q, none⟩ = some (.slice (some ⟨gx, ox, none⟩) (l.length + 1) cx) ∧ W.cell? ⟨gx, ox, none⟩ = some (iv a) ∧ SlI W (some ⟨gx, ox, none⟩) (a :: l) := by
  have hqp : q < ps.length := by omega
  have hqP : q < (partsOf R N).length := by rw [← hp, List.length_map]; exact hqp
  have hpe : (partsOf R N).getD q [] = (ps[q]).2 := by
    rw [← hp, List.getD_eq_getElem?_getD, List.getElem?_map, List.getElem?_eq_getElem hqp]
    rfl
  obtain ⟨x, hx⟩ : ∃ x, ps[q] = x := ⟨_, rfl⟩
  have hxm : x ∈ ps := by rw [← hx]; exact List.getElem_mem hqp
  rw [hx] at hpe
  obtain ⟨k, -, hxk, hxne⟩ := parts_ne (by rw [← hpe]; exact getD_in hqP : x.2 ∈ partsOf R N)
  have hxi := h.each x hxm
  have hrow := h.row
  rw [hn] at hrow
  have hg : ∃ g10, p = some ⟨g10, 0, none⟩ := by
    rcases hrow.2 with ⟨e, h0⟩ | ⟨g', cap, cur, e, -⟩
    · omega
    · simp only [Value.slice.injEq] at e
      exact ⟨g', e.1⟩
  obtain ⟨g10, rfl⟩ := hg
  obtain ⟨vx, px⟩ := x
  simp only at hxi hpe hxk hxne
  obtain ⟨p2, cx, rfl, hcx, h2⟩ := hxi.form
  obtain ⟨gx, ox, rfl, -, -, -⟩ := h2 hxne
  obtain ⟨a, l, rfl⟩ : ∃ a l, px = a :: l := by cases px with
    | nil => exact absurd rfl hxne
    | cons a l => exact ⟨a, l, rfl⟩
  have hsub : ∀ z ∈ a :: l, z ∈ N := fun z hz => by
    rw [hxk] at hz
    exact (mem_cls.1 hz).1
  refine ⟨g10, gx, ox, cx, a, l, rfl, hpe, hsub a (by simp), by rw [hxk]; exact List.length_filter_le _ _, hsub, fun W hb => ?_⟩
  have hxi2 := hxi.below hb
  obtain ⟨p3, c3, e3, hs⟩ := hxi2.sl
  simp only [Value.slice.injEq] at e3
  obtain ⟨rfl, -, rfl⟩ := e3
  refine ⟨?_, hs.cell1 (k := 0) (by simp) rfl, hs⟩
  have h3 := (row_kept hrow hb).cells (g := g10) rfl q (.slice (some ⟨gx, ox, none⟩) (a :: l).length cx) (by rw [List.getElem?_map, List.getElem?_eq_getElem hqp, hx]; rfl)
  rwa [Addr.add_lit, Nat.zero_add] at h3
end
/-- Are all parts so far single nodes without an edge to themselves? -/
def sgl (E : List Ed) (ps : List (List Int)) (q : Nat) : Bool := (ps.take q).all fun p => p.length == 1 && (kindsE E (p.headD 0) (p.headD 0)).length == 0
theorem sgl_next {E : List Ed} {ps : List (List Int)} {q : Nat} (h : q < ps.length) {a : Int} {l : List Int} (he : ps.getD q [] = a :: l) : sgl E ps (q + 1) = (sgl E ps q && (((a :: l).length == 1) && ((kindsE E a a).length == 0))) := by
  unfold sgl
  rw [List.take_add_one, List.getElem?_eq_getElem h, List.all_append]
  have h1 : ps[q] = a :: l := by
    rw [← he, List.getD_eq_getElem?_getD, List.getElem?_eq_getElem h]
    rfl
  rw [h1]
  simp
theorem sgl_all {N : List Int} {E : List Ed} (hN : RiseI N) (hE : EndsIn N E) {n : Nat} (hn : (partsOf (EdR E) N).length = n) : sgl E (partsOf (EdR E) N) n = true ↔ startZ (EdR E) N = none := by
  rw [← single_iff hN hE]
  unfold sgl
  rw [List.take_of_length_le (by omega), List.all_eq_true]
  constructor
  · intro h p hp
    have h1 := Bool.and_eq_true_iff.1 (h p hp)
    exact ⟨eq_of_beq h1.1, List.length_eq_zero_iff.1 (eq_of_beq h1.2)⟩
  · intro h p hp
    obtain ⟨h1, h2⟩ := h p hp
    rw [h1, h2]
    rfl
end Go.Proofs.Ythgkloapnihpaaa
