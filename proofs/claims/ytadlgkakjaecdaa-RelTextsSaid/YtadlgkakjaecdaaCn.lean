/- What leads on, read: a map that stands, whose rows are those of an elder world. -/
import Derived.Test.YtadlgkakjaecdaaRx
namespace Go.Proofs.Ytadlgkakjaecdaa
open Go.RowKit Go.Maps Go.WideMaps Go.WideElems Go.ChangeShapes Go.WideShapes

noncomputable abbrev rowsOf (V : World) (base : Nat) (v : Value) : Option (DU × List MemPlace) := rowElem (H := Unit) V base 3 .i64 v
/-- The map mb, in whatever world: of each that stands first all that stand second, in rows of the world V. -/
structure NextAt (V : World) (base mb n : Nat) (L : List Pr) (Dn : DU) (W : World) : Prop where
  own : W.ownsMap Try.prog 3 (rowsOf V base) mb n Dn
  has : ∀ a, fit64 a → Maps.has Dn (.int .i64 a) = decide (a ∈ L.map (·.1))
  row : ∀ a, fit64 a → ∀ v zs, Dn.atKey (.int .i64 a) .nil = rowDatum .i64 v zs → V.ownsInts base 3 .i64 v zs → zs.Nodup ∧ ∀ y, y ∈ zs ↔ (a, y) ∈ L
theorem next_of {base mb n : Nat} {done L : List Pr} {Dn : DU} {V : World} (h : GrpAt base mb n done Dn V) (hd : done.Nodup) (hL : ∀ p, p ∈ done ↔ p ∈ L) : NextAt V base mb n L Dn V := by
  refine ⟨?_, fun a ha => ?_, fun a ha v zs hat ho => ?_⟩
  · obtain ⟨es, clock, hb, F, hs, hD, _⟩ := h.own
    exact ⟨es, clock, hb, F, hs, hD⟩
  · rw [h.has a ha]
    have e : a ∈ done.map (·.1) ↔ a ∈ L.map (·.1) := by
      simp only [List.mem_map]
      exact ⟨fun ⟨p, hp, e⟩ => ⟨p, (hL p).1 hp, e⟩, fun ⟨p, hp, e⟩ => ⟨p, (hL p).2 hp, e⟩⟩
    exact decide_eq_decide.2 e
  · have e := grp_read h ha hat ho
    subst e
    exact ⟨succs_nodup a hd, fun y => mem_succs.trans (hL _)⟩
theorem NextAt.kept {V : World} {base mb n : Nat} {L : List Pr} {Dn : DU} {W W' : World} {row : Option Nat} (h : NextAt V base mb n L Dn W) (hg : W.grownBy W' row) (hne : some mb ≠ row) : NextAt V base mb n L Dn W' := ⟨h.own.kept hg hne, h.has, h.row⟩
/-- One look at it. -/
theorem NextAt.look {V : World} {base mb n : Nat} {L : List Pr} {Dn : DU} {W : World} (h : NextAt V base mb n L Dn W) {a : Int} (ha : fit64 a) :
    ∃ v zs, (Instr.lookup 66 (.map (some mb)) (.int .i64 a) false).run Try.prog W = .ok v W ∧ V.ownsInts base 3 .i64 v zs ∧ zs.Nodup ∧ ∀ y, y ∈ zs ↔ (a, y) ∈ L := by
  have hz : rowsOf V base (.slice none 0 0) = some (.nil, []) := rowElem_mk (World.ownsInts_nil _ _ _ _)
  obtain ⟨v, ps, hrun, hv⟩ := h.own.lookup K3 Try.underlying66 (zero33 W) hz (keyI a ha)
  obtain ⟨zs, ho, e⟩ := rowElem_inv hv
  have e1 : Dn.atKey (.int .i64 a) .nil = rowDatum .i64 v zs := (Prod.mk.inj e).1
  exact ⟨v, zs, hrun, ho, h.row a ha v zs e1 ho⟩
/-- A row of V stands in each world in which V's blocks stand. -/
theorem ints_stay {V W : World} {base bo : Nat} {v : Value} {zs : List Int} {o : Obj} (h : V.ownsInts base 3 .i64 v zs) (hg : V.grownBy W (some bo)) (hb : V.heap[bo]? = some o) (ho : o.isCells = false) : W.ownsInts base 3 .i64 v zs :=
  h.kept hg (.inr (row_no h.1 hb ho))
theorem ints_sl {W : World} {base : Nat} {v : Value} {zs : List Int} (h : W.ownsInts base 3 .i64 v zs) : ∃ a c, v = .slice a zs.length c ∧ zs.length ≤ c ∧ (zs ≠ [] → ∃ g, a = some ⟨g, 0, none⟩ ∧ base ≤ g ∧ g < W.heap.size ∧ ∀ k, k < zs.length → W.cell? ⟨g, k, none⟩ = some (.int .i64 (zs.getD k 0))) := by
  rcases h.1.2 with ⟨e, h0⟩ | ⟨g, cap, cur, e, hb, hg, hn, hm, hs, ht⟩
  · exact ⟨none, 0, by rw [e, h0], by omega, fun hne => absurd (List.eq_nil_of_length_eq_zero h0) hne⟩
  · refine ⟨_, cap, e, hn, fun _ => ⟨g, rfl, hb, (Array.getElem?_eq_some_iff.1 hg).1, fun k hk => ?_⟩⟩
    have h1 : W.ownsRow base 3 1 (.slice (some ⟨g, 0, none⟩) zs.length cap) zs.length (zs.map (Value.int .i64)) := e ▸ h.1
    rw [h1.cellAt k (by omega)]
    simp [hk]
theorem ints_base {W : World} {B B' : Nat} {v : Value} {zs : List Int} (h : W.ownsInts B 3 .i64 v zs) (hB : B' ≤ B) : W.ownsInts B' 3 .i64 v zs :=
  ⟨⟨h.1.1, h.1.2.imp id fun ⟨g, cap, cur, e, hb, r⟩ => ⟨g, cap, cur, e, Nat.le_trans hB hb, r⟩⟩, h.2⟩
theorem ints_one (w : World) (B : Nat) (hB : B ≤ w.heap.size) (a : Int) (ha : fit64 a) : (w.alloc (.cells #[.int .i64 a] 3)).ownsInts B 3 .i64 (.slice (some ⟨w.heap.size, 0, none⟩) 1 1) [a] := by
  refine ⟨⟨rfl, .inr ⟨w.heap.size, 1, #[.int .i64 a], rfl, hB, World.alloc_heap_new w _, Nat.le_refl _, by decide, rfl, rfl⟩⟩, ?_⟩
  intro x hx
  simp at hx
  subst hx
  exact ha
/-- How many entries a map has. -/
def mapLen (W : World) (b : Nat) : Nat := match W.heap[b]? with | some (.map es _) => es.size | _ => 0
theorem map_len {r b : Nat} {L : List Pr} {D : DU} {W : World} (h : RelAt r b L D W) : mapLen W b = L.length := by
  obtain ⟨es, clock, hb, F, hs, hD⟩ := h.prs.own
  have hz := h.prs.size
  rw [hD] at hz
  unfold mapLen
  rw [hb]
  simp only [Maps.size] at hz
  rw [length_sorted] at hz
  simpa using hz
def lenOf : Value → Nat
  | .slice _ n _ => n
  | _ => 0
/-- Numbers as keys of a map over which one goes. -/
structure RngI (base mb rg n : Nat) (V : World) (L : List Pr) (done : List Int) (Dn : DU) (left : Lit → Bool) (cnt : Nat) (W : World) : Prop where
  rng : W.ranges Try.prog 3 (rowsOf V base) mb rg n Dn left cnt
  left_iff : ∀ a, fit64 a → left (.int .i64 a) = (decide (a ∈ L.map (·.1)) && !decide (a ∈ done))
theorem RngI.keep {base mb rg n : Nat} {V : World} {L : List Pr} {done : List Int} {Dn : DU} {left : Lit → Bool} {cnt : Nat} {W W' : World} {row : Option Nat} (h : RngI base mb rg n V L done Dn left cnt W) (hg : W.grownBy W' row) (h1 : some mb ≠ row) (h2 : some rg ≠ row) : RngI base mb rg n V L done Dn left cnt W' :=
  ⟨h.rng.kept hg h1 h2, h.left_iff⟩
theorem rngI_more {base mb rg n : Nat} {V : World} {L : List Pr} {done : List Int} {Dn : DU} {left : Lit → Bool} {cnt cnt' : Nat} {W W' : World} (h : RngI base mb rg n V L done Dn left cnt W) {a : Int} (ha : fit64 a) (hl : left (.int .i64 a) = true)
    (hr : W'.ranges Try.prog 3 (rowsOf V base) mb rg n Dn (fun z => left z && !z.sameKey (.int .i64 a)) cnt') : a ∈ L.map (·.1) ∧ a ∉ done ∧ RngI base mb rg n V L (done ++ [a]) Dn (fun z => left z && !z.sameKey (.int .i64 a)) cnt' W' := by
  have h1 := h.left_iff a ha
  rw [hl] at h1
  have h2 : a ∈ L.map (·.1) ∧ a ∉ done := by simpa using h1.symm
  refine ⟨h2.1, h2.2, hr, fun z hz => ?_⟩
  simp only [h.left_iff z hz]
  have e : (Lit.int IntKind.i64 z).sameKey (.int .i64 a) = decide (z = a) := by simp [Lit.sameKey]
  rw [e]
  by_cases h3 : z = a <;> simp [h3]
theorem invI : ∀ key kl, keyOf Try.prog 3 key = some kl → ∃ x, key = Value.int .i64 x := fun _ _ h => by
  obtain ⟨x, rfl, _⟩ := Maps.keyOf_int_inv Try.underlying3 h
  exact ⟨x, rfl⟩
theorem invV {V : World} {base : Nat} : ∀ (v : Value) (y : DU × List MemPlace), rowsOf V base v = some y → ∃ c : Value, v = c := fun v _ _ => ⟨v, rfl⟩
theorem inv3 {x : Int} {kl : Lit} (h : keyOf Try.prog 3 (.int .i64 x) = some kl) : fit64 x ∧ kl = .int .i64 x := by
  obtain ⟨x', e, h2, h3⟩ := Maps.keyOf_int_inv Try.underlying3 h
  cases e
  exact ⟨h3, h2⟩
end Go.Proofs.Ytadlgkakjaecdaa
