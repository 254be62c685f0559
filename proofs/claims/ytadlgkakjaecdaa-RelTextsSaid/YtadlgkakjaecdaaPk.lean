/- Sets of pairs of whole numbers in memory: a map whose keys are pairs; what a range over it hands. -/
import Derived.Test.YtadlgkakjaecdaaPl
import Derived.Maps.RangeWalk
import Derived.Maps.OwnSet
import Derived.WideKeyPair
import Derived.DeepKeys4
namespace Go.Proofs.Ytadlgkakjaecdaa
open Go.RowKit Go.Maps Go.WideMaps Go.WideElems Go.ChangeShapes Go.WideShapes

abbrev fit64 (n : Int) : Prop := (Lit.int .i64 n).wf = true
/-- Both numbers of a pair fit. -/
def FitP (p : Pr) : Prop := fit64 p.1 ∧ fit64 p.2
abbrev pv (p : Pr) : Value := .agg #[.int .i64 p.1, .int .i64 p.2]
abbrev pl (p : Pr) : Lit := .string (keyBytes [.int .i64 p.1, .int .i64 p.2])

section
variable {P : Program} {k e : TypeId} (A : ArrKey P k e 2) (he : P.underlying e = some (.int .i64)) (hsz : ∃ m, P.types.size = m + 1) (K : Keyed P k)
include A he hsz

theorem key_pl {p : Pr} (h : FitP p) : keyOf P k (pv p) = some (pl p) := keyOf_pair A he hsz h.1 h.2
include K in
theorem pl_inj {p q : Pr} (hp : FitP p) (hq : FitP q) (h : pl p = pl q) : p = q := by
  have h1 := key_pl A he hsz hp
  rw [h] at h1
  have h2 := K.inj h1 (key_pl A he hsz hq)
  simp only [Value.agg.injEq] at h2
  obtain ⟨a, b⟩ := p
  obtain ⟨c, d⟩ := q
  simp at h2
  obtain ⟨rfl, rfl⟩ := h2
  rfl
theorem key_inv {key : Value} {kl : Lit} (h : keyOf P k key = some kl) : ∃ p, key = pv p ∧ FitP p ∧ kl = pl p := by
  have hag : ∃ c0 c1, key = .agg #[c0, c1] := by
    unfold keyOf at h
    simp only [A.hu] at h
    split at h
    · rename_i hf
      have hf2 := (Bool.and_eq_true _ _ ▸ hf).2
      cases key with
      | agg cs =>
        unfold Value.formed at hf2
        simp only [A.hu, A.size] at hf2
        obtain ⟨l⟩ := cs
        match l, hf2 with
        | [c0, c1], _ => exact ⟨c0, c1, rfl⟩
      | tuple cs => simp [Value.formed] at hf2
      | _ => simp [Value.formed, A.hu] at hf2
    · cases h
  obtain ⟨c0, c1, rfl⟩ := hag
  have h0 := h
  obtain ⟨m, hm⟩ := hsz
  unfold keyOf at h
  simp only [A.hu] at h
  split at h
  · rw [hm] at h
    unfold Program.keyLits at h
    simp only [A.hu, Value.cells] at h
    rw [if_pos (by rw [A.size]; rfl), show List.range 2 = [0, 1] from rfl, List.mapM_cons, List.mapM_cons, List.mapM_nil] at h
    simp only [A.one, Nat.zero_mul, Nat.one_mul, List.drop_zero, List.take_succ_cons, List.take_zero, List.drop_succ_cons] at h
    have one : ∀ {c : Value} {d : Nat} {ls : List Lit}, P.keyLits (d + 1) e [c] = some ls → ∃ a, c = .int .i64 a ∧ fit64 a := by
      intro c d ls hc
      unfold Program.keyLits at hc
      simp only [he] at hc
      cases c with
      | int q n =>
        simp only at hc
        split at hc
        · rename_i hq
          obtain ⟨rfl, hw⟩ := hq
          exact ⟨n, rfl, hw⟩
        · cases hc
      | _ => simp at hc
    cases h1 : P.keyLits (m + 1) e [c0] with
    | none => simp [h1] at h
    | some l0 =>
      cases h2 : P.keyLits (m + 1) e [c1] with
      | none => simp [h1, h2] at h
      | some l1 =>
        obtain ⟨a, rfl, ha⟩ := one h1
        obtain ⟨b, rfl, hb⟩ := one h2
        refine ⟨(a, b), rfl, ⟨ha, hb⟩, ?_⟩
        have hk := key_pl A he ⟨m, hm⟩ (p := (a, b)) ⟨ha, hb⟩
        exact Option.some.inj (h0.symm.trans hk)
  · cases h

theorem pl_key {p : Pr} (h : FitP p) (K : Keyed P k) : WideAt.IsKeyLit (pl p) := K.key (key_pl A he hsz h)
end

/-- A map that holds just these pairs, each once. -/
structure PairsAt {H : Type} (P : Program) (k : TypeId) (b : Nat) (L : List Pr) (D : DataW H) (W : World) : Prop where
  own : W.ownsMap P k unitElem b L.length D
  has : ∀ p, FitP p → Maps.has D (pl p) = decide (p ∈ L)
  size : Maps.size D = L.length
  once : L.Nodup
  fit : ∀ p ∈ L, FitP p
theorem pairs_made {H : Type} (P : Program) (k : TypeId) (w : World) : PairsAt (H := H) P k w.heap.size [] (.map []) (w.alloc (.map #[] 0)) :=
  ⟨World.ownsMap_made w P k unitElem, fun _ _ => rfl, rfl, List.nodup_nil, by simp⟩
theorem PairsAt.kept {H : Type} {P : Program} {k : TypeId} {b : Nat} {L : List Pr} {D : DataW H} {W W' : World} {row : Option Nat} (h : PairsAt P k b L D W) (hg : W.grownBy W' row) (hne : some b ≠ row) : PairsAt P k b L D W' :=
  ⟨h.own.kept hg hne, h.has, h.size, h.once, h.fit⟩
theorem PairsAt.drew {H : Type} {P : Program} {k : TypeId} {b : Nat} {L : List Pr} {D : DataW H} {W : World} (h : PairsAt P k b L D W) : PairsAt P k b L D W.drew := ⟨h.own.drew, h.has, h.size, h.once, h.fit⟩
theorem PairsAt.lt {H : Type} {P : Program} {k : TypeId} {b : Nat} {L : List Pr} {D : DataW H} {W : World} (h : PairsAt P k b L D W) : b < W.heap.size := h.own.lt

section
variable {H : Type} {P : Program} {k e : TypeId} (A : ArrKey P k e 2) (he : P.underlying e = some (.int .i64)) (hsz : ∃ m, P.types.size = m + 1) (K : Keyed P k)
include A he hsz K
/-- A pair that is not in is laid in. -/
theorem pairs_put {b : Nat} {L : List Pr} {D : DataW H} {W W' : World} {p : Pr} (h : PairsAt P k b L D W) (hp : p ∉ L) (hf : FitP p) (hown : W'.ownsMap P k unitElem b (L.length + 1) (D.put (pl p) (.agg []))) : PairsAt P k b (L ++ [p]) (D.put (pl p) (.agg [])) W' := by
  have hkl := pl_key A he hsz hf K
  have hD := h.own.isMap
  refine ⟨by rw [List.length_append]; exact hown, fun q hq => ?_, ?_, ?_, ?_⟩
  · by_cases hqp : q = p
    · subst hqp
      rw [Maps.has_put_same hD hkl]
      simp
    · have hne : pl q ≠ pl p := fun e1 => hqp (pl_inj A he hsz K hq hf e1)
      rw [Maps.has_put_other hne, h.has q hq]
      simp [hqp]
  · rw [Maps.size_put (h.own.tidy K) _, h.has p hf, h.size]
    simp [hp]
  · exact List.nodup_append.2 ⟨h.once, by simp, fun a ha b hb => by simp at hb; subst hb; exact fun e1 => hp (e1 ▸ ha)⟩
  · intro q hq
    rcases List.mem_append.1 hq with hq | hq
    · exact h.fit q hq
    · simp at hq; subst hq; exact hf
end

/-- A range over such a map: what has come, and what has not. -/
structure RngP {H : Type} (P : Program) (k : TypeId) (b r : Nat) (L done : List Pr) (D : DataW H) (left : Lit → Bool) (cnt : Nat) (W : World) : Prop where
  rng : W.ranges P k unitElem b r L.length D left cnt
  left_iff : ∀ p, FitP p → left (pl p) = (decide (p ∈ L) && !decide (p ∈ done))
  once : done.Nodup
  sub : ∀ p ∈ done, p ∈ L
section
variable {H : Type} {P : Program} {k e : TypeId} (A : ArrKey P k e 2) (he : P.underlying e = some (.int .i64)) (hsz : ∃ m, P.types.size = m + 1) (K : Keyed P k)
theorem rng_start {b r : Nat} {L : List Pr} {D : DataW H} {W W' : World} (h : PairsAt P k b L D W) (hr : W'.ranges P k unitElem b r L.length D (Maps.has D) (Maps.size D)) : RngP P k b r L [] D (Maps.has D) (Maps.size D) W' :=
  ⟨hr, fun p hp => by rw [h.has p hp]; simp, List.nodup_nil, by simp⟩
include A he hsz K
/-- One more has come. -/
theorem rng_more {b r cnt cnt' : Nat} {L done : List Pr} {D : DataW H} {left : Lit → Bool} {W W' : World} {p : Pr} (h : RngP P k b r L done D left cnt W) (hf : FitP p) (hl : left (pl p) = true) (hr : W'.ranges P k unitElem b r L.length D (fun z => left z && !z.sameKey (pl p)) cnt') :
    p ∈ L ∧ p ∉ done ∧ RngP P k b r L (done ++ [p]) D (fun z => left z && !z.sameKey (pl p)) cnt' W' := by
  have h1 := h.left_iff p hf
  rw [hl] at h1
  have h2 : p ∈ L ∧ p ∉ done := by simpa using h1.symm
  refine ⟨h2.1, h2.2, hr, fun q hq => ?_, ?_, ?_⟩
  · show (left (pl q) && !(pl q).sameKey (pl p)) = _
    rw [h.left_iff q hq]
    by_cases hqp : q = p
    · subst hqp
      rw [WideAt.sameKey_self (pl_key A he hsz hq K)]
      simp
    · rw [Maps.sameKey_ne (fun e1 => hqp (pl_inj A he hsz K hq hf e1))]
      simp [hqp]
  · exact List.nodup_append.2 ⟨h.once, by simp, fun a ha b hb => by simp at hb; subst hb; exact fun e1 => h2.2 (e1 ▸ ha)⟩
  · intro q hq
    rcases List.mem_append.1 hq with hq | hq
    · exact h.sub q hq
    · simp at hq; subst hq; exact h2.1
omit A he hsz K in
/-- All have come. -/
theorem rng_all {b r cnt : Nat} {L done : List Pr} {D : DataW H} {left : Lit → Bool} {W : World} (h : RngP P k b r L done D left cnt W) (hL : ∀ p ∈ L, FitP p) (hno : ∀ kl, left kl = false) : ∀ p, p ∈ done ↔ p ∈ L := fun p => by
  refine ⟨h.sub p, fun hp => ?_⟩
  have h1 := h.left_iff p (hL p hp)
  rw [hno] at h1
  simpa [hp] using h1.symm
end
end Go.Proofs.Ytadlgkakjaecdaa
