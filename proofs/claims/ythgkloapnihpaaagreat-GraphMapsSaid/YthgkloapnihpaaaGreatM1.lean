/- Helpers, joined: Ps, Pd, Pe, Pl, Pi, Prc, Pp, Pt, Ga, Gb. -/
import Derived.Below
import Derived.Test.YthgkloapnihpaaaGreatProg
import Derived.Maps.RangeWalk
import Derived.Maps.OwnSet
import Derived.Maps.OwnRows
import Derived.WideKeyPair
import Derived.DeepKeys4
import Derived.WalkSmall
import Derived.WalkKit
import Derived.WalkLawsBesides
import Derived.WalkSpells
import Derived.OneCell
import Derived.LoopN
import Derived.LoopTactic
import Derived.Lib.Hide
import Derived.BigQuiet
import Derived.Deep.QuietTactic
import Derived.Outline
import Derived.Maps.AppendAt
import Derived.RangeFuncBox
import Derived.Deep.RegionWith
import Derived.Deep.RegionHeld
import Derived.Deep.RegionHeld3

/- Graphs, plainly: the order in which a walk in depth leaves nodes, and groups that reach one another. -/
namespace Go.Proofs.YthgkloapnihpaaaGreat

/-- One node leads to another one over any number of edges. -/
inductive Leads (R : Int → Int → Prop) : Int → Int → Prop
  | refl (a : Int) : Leads R a a
  | step {a b c : Int} : R a b → Leads R b c → Leads R a c
theorem Leads.one {R : Int → Int → Prop} {a b : Int} (h : R a b) : Leads R a b := .step h (.refl b)
theorem Leads.trans {R : Int → Int → Prop} {a b c : Int} (h : Leads R a b) (k : Leads R b c) : Leads R a c := by
  induction h with
  | refl => exact k
  | step h1 _ ih => exact .step h1 (ih k)
theorem Leads.snoc {R : Int → Int → Prop} {a b c : Int} (h : Leads R a b) (k : R b c) : Leads R a c := h.trans (.one k)
theorem Leads.mono {R S : Int → Int → Prop} (hRS : ∀ a b, R a b → S a b) {a b : Int} (h : Leads R a b) : Leads S a b := by
  induction h with
  | refl => exact .refl _
  | step h1 _ ih => exact .step (hRS _ _ h1) ih
/-- Edges between nodes that meet p. -/
def within (R : Int → Int → Prop) (p : Int → Prop) (a b : Int) : Prop := R a b ∧ p a ∧ p b
/-- A path that leaves a set does so over an edge. -/
theorem leaves {R : Int → Int → Prop} {p : Int → Prop} {a b : Int} (h : Leads R a b) (ha : p a) (hb : ¬ p b) : ∃ x y, p x ∧ ¬ p y ∧ R x y ∧ Leads R a x ∧ Leads R y b := by
  induction h with
  | refl => exact absurd ha hb
  | @step a c b h1 h2 ih =>
    by_cases hc : p c
    · obtain ⟨x, y, g1, g2, g3, g4, g5⟩ := ih hc hb
      exact ⟨x, y, g1, g2, g3, .step h1 g4, g5⟩
    · exact ⟨a, c, ha, hc, h1, .refl _, h2⟩
/-- What holds of the order in which a walk in depth leaves nodes: what a node that has been left by then leads to has been left, too, or leads to the one that is left. -/
def LeftOk (R : Int → Int → Prop) (ord : List Int) : Prop := ∀ i a, ord[i]? = some a → ∀ p ∈ ord.take (i + 1), ∀ q, R p q → q ∈ ord.take (i + 1) ∨ Leads R q a
theorem LeftOk.snoc {R : Int → Int → Prop} {ord : List Int} {a : Int} (h : LeftOk R ord) (ha : ∀ p, p ∈ ord ∨ p = a → ∀ q, R p q → q ∈ ord ∨ q = a ∨ Leads R q a) : LeftOk R (ord ++ [a]) := by
  intro i b hi p hp q hpq
  by_cases hl : i < ord.length
  · rw [List.getElem?_append_left hl] at hi
    rw [List.take_append_of_le_length (by omega)] at hp ⊢
    exact h i b hi p hp q hpq
  · have hi2 := (List.getElem?_eq_some_iff.1 hi).1
    simp at hi2
    have e : i = ord.length := by omega
    subst e
    simp at hi
    subst hi
    rw [List.take_of_length_le (by simp)] at hp ⊢
    have hp2 : p ∈ ord ∨ p = a := by simpa using hp
    rcases ha p hp2 q hpq with h1 | h1 | h1
    · exact .inl (List.mem_append_left _ h1)
    · exact .inl (by rw [h1]; simp)
    · exact .inr h1
/-- Who leads to a node over such as have been left no later than it is led to by it. -/
theorem back {R : Int → Int → Prop} {ord : List Int} (hR : LeftOk R ord) (hn0 : ord.Nodup) {i : Nat} {k : Int} (hk : ord[i]? = some k) : ∀ (n j : Nat) (x : Int), i - j ≤ n → j ≤ i → ord[j]? = some x → Leads (within R fun y => y ∈ ord.take (i + 1)) x k → Leads R k x := by
  intro n
  induction n with
  | zero =>
    intro j x hn hj hx _
    have : j = i := by omega
    subst this
    rw [hk] at hx
    injection hx with hx
    subst hx
    exact .refl _
  | succ n ih =>
    intro j x hn hj hx hp
    by_cases hki : k ∈ ord.take (j + 1)
    · -- k stands no later than x
      obtain ⟨l, hl⟩ := List.getElem?_of_mem hki
      rw [List.getElem?_take] at hl
      split at hl
      · rename_i hlt
        have hli : l = i := (List.getElem?_inj (List.getElem?_eq_some_iff.1 hl).1 hn0).1 (hl.trans hk.symm)
        have hji : j = i := by omega
        subst hji
        rw [hk] at hx
        injection hx with hx
        subst hx
        exact .refl _
      · cases hl
    · have hxm : x ∈ ord.take (j + 1) := List.mem_of_getElem? (i := j) (by rw [List.getElem?_take, if_pos (by omega)]; exact hx)
      obtain ⟨p, q, h1, h2, h3, h4, h5⟩ := leaves (p := fun y => y ∈ ord.take (j + 1)) hp hxm hki
      have h6 := hR j x hx p h1 q h3.1
      have h7 : Leads R q x := h6.resolve_left h2
      obtain ⟨j', hj'⟩ := List.getElem?_of_mem h3.2.2
      rw [List.getElem?_take] at hj'
      split at hj'
      · rename_i hlt
        have hgt : j < j' := by
          rcases Nat.lt_or_ge j j' with g | g
          · exact g
          · exact absurd (List.mem_of_getElem? (i := j') (by rw [List.getElem?_take, if_pos (by omega)]; exact hj')) h2
        exact (ih j' q (by omega) (by omega) hj' h5).trans h7
      · cases hj'
theorem leads_flip {R : Int → Int → Prop} {a b : Int} (h : Leads R a b) : Leads (fun x y => R y x) b a := by
  induction h with
  | refl => exact .refl _
  | step h1 _ ih => exact ih.snoc h1
theorem leads_within {R : Int → Int → Prop} {p : Int → Prop} {y k : Int} (h : Leads R y k) (hp : ∀ z, Leads R y z → Leads R z k → p z) : Leads (within R p) y k := by
  induction h with
  | refl => exact .refl _
  | @step a c b h1 h2 ih =>
    exact .step ⟨h1, hp a (.refl _) (.step h1 h2), hp c (.one h1) h2⟩ (ih fun z g1 g2 => hp z (.step h1 g1) g2)
/-- They reach one another. -/
def Mutual (R : Int → Int → Prop) (a b : Int) : Prop := Leads R a b ∧ Leads R b a
theorem Mutual.refl {R : Int → Int → Prop} (a : Int) : Mutual R a a := ⟨.refl _, .refl _⟩
theorem Mutual.symm {R : Int → Int → Prop} {a b : Int} (h : Mutual R a b) : Mutual R b a := ⟨h.2, h.1⟩
theorem Mutual.trans {R : Int → Int → Prop} {a b c : Int} (h : Mutual R a b) (k : Mutual R b c) : Mutual R a c := ⟨h.1.trans k.1, k.2.trans h.2⟩
/-- Of what has not been seen that which leads to the last one that has been left, over such, is what it is in a group with. -/
theorem group_of {R : Int → Int → Prop} {ord : List Int} {S : Int → Prop} (hR : LeftOk R ord) (hn : ord.Nodup) (hin : ∀ a b, R a b → a ∈ ord ∧ b ∈ ord) (hS : ∀ a b, S a → Mutual R a b → S b) {i : Nat} {k : Int} (hk : ord[i]? = some k) (hlate : ∀ y ∈ ord.drop (i + 1), S y) (hkS : ¬ S k) (y : Int) :
    Leads (within (fun a b => R b a) fun z => ¬ S z) k y ↔ Mutual R k y := by
  constructor
  · intro h
    have h1 := leads_flip h
    have h2 : Leads (within R fun z => ¬ S z) y k := h1.mono fun a b h => ⟨h.1, h.2.2, h.2.1⟩
    have early : ∀ z, z ∈ ord → ¬ S z → z ∈ ord.take (i + 1) := fun z hz hzs => by
      have : z ∈ ord.take (i + 1) ++ ord.drop (i + 1) := by rw [List.take_append_drop]; exact hz
      exact (List.mem_append.1 this).resolve_right fun g => hzs (hlate z g)
    have h3 : Leads (within R fun z => z ∈ ord.take (i + 1)) y k := h2.mono fun a b h => ⟨h.1, early a (hin a b h.1).1 h.2.1, early b (hin a b h.1).2 h.2.2⟩
    have hy : y ∈ ord.take (i + 1) := by
      cases h3 with
      | refl => exact List.mem_of_getElem? (i := i) (by rw [List.getElem?_take, if_pos (by omega)]; exact hk)
      | step g _ => exact g.2.1
    obtain ⟨j, hj⟩ := List.getElem?_of_mem hy
    rw [List.getElem?_take] at hj
    split at hj
    · rename_i hlt
      exact ⟨back hR hn hk (i - j) j y (Nat.le_refl _) (by omega) hj h3, h3.mono fun a b h => h.1⟩
    · cases hj
  · intro h
    have h1 : Leads (within R fun z => ¬ S z) y k := leads_within h.2 fun z g1 g2 hz => hkS (hS z k hz ⟨g2, h.1.trans g1⟩)
    exact (leads_flip h1).mono fun a b h => ⟨h.1, h.2.2, h.2.1⟩
end Go.Proofs.YthgkloapnihpaaaGreat

/- Graphs, plainly: a walk in depth. -/
namespace Go.Proofs.YthgkloapnihpaaaGreat

/-- Those that are gone through, the last one first: each is led to by the one ahead of it. -/
def PathOk (R : Int → Int → Prop) : List (Int × List Int) → Prop
  | [] => True
  | [_] => True
  | x :: y :: l => R y.1 x.1 ∧ PathOk R (y :: l)
theorem PathOk.tail {R : Int → Int → Prop} {x : Int × List Int} {l : List (Int × List Int)} (h : PathOk R (x :: l)) : PathOk R l := by
  cases l with
  | nil => trivial
  | cons y l => exact h.2
theorem PathOk.todo {R : Int → Int → Prop} {x : Int} {t t' : List Int} {l : List (Int × List Int)} (h : PathOk R ((x, t) :: l)) : PathOk R ((x, t') :: l) := by
  cases l with
  | nil => trivial
  | cons y l => exact h
theorem PathOk.leads {R : Int → Int → Prop} : ∀ {x : Int × List Int} {l : List (Int × List Int)}, PathOk R (x :: l) → ∀ z ∈ x :: l, Leads R z.1 x.1
  | x, [], _, z, hz => by
    simp at hz
    subst hz
    exact .refl _
  | x, y :: l, h, z, hz => by
    rcases List.mem_cons.1 hz with rfl | hz
    · exact .refl _
    · exact (PathOk.leads h.2 z hz).snoc h.1
/-- A walk in depth: who has been left, in which order; who is gone through, and what is still to be looked at. -/
structure DfsOk (R : Int → Int → Prop) (ord : List Int) (st : List (Int × List Int)) : Prop where
  once : (ord ++ st.map (·.1)).Nodup
  left : LeftOk R ord
  done : ∀ a ∈ ord, ∀ b, R a b → b ∈ ord ∨ b ∈ st.map (·.1)
  todo : ∀ x ∈ st, ∀ b, R x.1 b → b ∈ ord ∨ b ∈ st.map (·.1) ∨ b ∈ x.2
  sub : ∀ x ∈ st, ∀ b ∈ x.2, R x.1 b
  path : PathOk R st
section
variable {R : Int → Int → Prop} {ord : List Int} {st : List (Int × List Int)}
theorem DfsOk.zero (R : Int → Int → Prop) : DfsOk R [] [] := ⟨by simp, fun i a h => by simp at h, by simp, by simp, by simp, trivial⟩
/-- One that has not been seen is gone into. -/
theorem DfsOk.start {k : Int} {l : List Int} (h : DfsOk R ord []) (hk : k ∉ ord) (hl : ∀ b, b ∈ l ↔ R k b) : DfsOk R ord [(k, l)] := by
  refine ⟨?_, h.left, fun a ha b hab => ?_, fun x hx b hb => ?_, fun x hx b hb => ?_, trivial⟩
  · have := h.once
    simp at this
    rw [List.nodup_append]
    exact ⟨this, by simp, fun a ha b hb => by simp at hb; subst hb; rintro rfl; exact hk ha⟩
  · exact (h.done a ha b hab).imp id fun g => by simp at g
  · simp at hx
    subst hx
    exact .inr (.inr ((hl b).2 hb))
  · simp at hx
    subst hx
    exact (hl b).1 hb
/-- What is next has been seen. -/
theorem DfsOk.skip {x b : Int} {t : List Int} (h : DfsOk R ord ((x, b :: t) :: st)) (hb : b ∈ ord ∨ b ∈ ((x, t) :: st).map (·.1)) : DfsOk R ord ((x, t) :: st) := by
  refine ⟨h.once, h.left, h.done, fun y hy c hc => ?_, fun y hy c hc => ?_, h.path.todo⟩
  · rcases List.mem_cons.1 hy with rfl | hy
    · rcases h.todo (x, b :: t) (List.mem_cons_self ..) c hc with g | g | g
      · exact .inl g
      · exact .inr (.inl g)
      · rcases List.mem_cons.1 g with rfl | g
        · exact hb.elim .inl fun g => .inr (.inl g)
        · exact .inr (.inr g)
    · exact h.todo y (List.mem_cons_of_mem _ hy) c hc
  · rcases List.mem_cons.1 hy with rfl | hy
    · exact h.sub (x, b :: t) (List.mem_cons_self ..) c (List.mem_cons_of_mem _ hc)
    · exact h.sub y (List.mem_cons_of_mem _ hy) c hc
/-- What is next has not been seen: it is gone into. -/
theorem DfsOk.push {x b : Int} {t l : List Int} (h : DfsOk R ord ((x, b :: t) :: st)) (hb : b ∉ ord ∧ b ∉ ((x, t) :: st).map (·.1)) (hl : ∀ c, c ∈ l ↔ R b c) : DfsOk R ord ((b, l) :: (x, t) :: st) := by
  have hup : ∀ c, c ∈ ((x, b :: t) :: st).map (·.1) → c ∈ ((b, l) :: (x, t) :: st).map (·.1) := fun c hc => List.mem_cons_of_mem _ hc
  refine ⟨?_, h.left, fun a ha c hc => (h.done a ha c hc).imp id (hup c), fun y hy c hc => ?_, fun y hy c hc => ?_, ?_⟩
  · have h1 := List.nodup_append.1 h.once
    rw [List.nodup_append]
    refine ⟨h1.1, List.nodup_cons.2 ⟨hb.2, h1.2.1⟩, fun a ha c hc => ?_⟩
    rcases List.mem_cons.1 hc with rfl | hc
    · rintro rfl; exact hb.1 ha
    · exact h1.2.2 a ha c hc
  · rcases List.mem_cons.1 hy with rfl | hy
    · exact .inr (.inr ((hl c).2 hc))
    · rcases List.mem_cons.1 hy with rfl | hy
      · rcases h.todo (x, b :: t) (List.mem_cons_self ..) c hc with g | g | g
        · exact .inl g
        · exact .inr (.inl (hup c g))
        · rcases List.mem_cons.1 g with rfl | g
          · exact .inr (.inl (by simp))
          · exact .inr (.inr g)
      · rcases h.todo y (List.mem_cons_of_mem _ hy) c hc with g | g | g
        · exact .inl g
        · exact .inr (.inl (hup c g))
        · exact .inr (.inr g)
  · rcases List.mem_cons.1 hy with rfl | hy
    · exact (hl c).1 hc
    · rcases List.mem_cons.1 hy with rfl | hy
      · exact h.sub (x, b :: t) (List.mem_cons_self ..) c (List.mem_cons_of_mem _ hc)
      · exact h.sub y (List.mem_cons_of_mem _ hy) c hc
  · exact ⟨h.sub (x, b :: t) (List.mem_cons_self ..) b (List.mem_cons_self ..), h.path.todo⟩
/-- Nothing is left to be looked at: it is left. -/
theorem DfsOk.pop {x : Int} (h : DfsOk R ord ((x, []) :: st)) : DfsOk R (ord ++ [x]) st := by
  have all : ∀ c, (c ∈ ord ∨ c ∈ ((x, []) :: st).map (·.1)) → c ∈ ord ++ [x] ∨ c ∈ st.map (·.1) := fun c hc => by
    rcases hc with g | g
    · exact .inl (List.mem_append_left _ g)
    · rcases List.mem_cons.1 g with g | g
      · exact .inl (by rw [g]; simp)
      · exact .inr g
  have hx : ∀ c, R x c → c ∈ ord ∨ c ∈ ((x, []) :: st).map (·.1) := fun c hc => by
    rcases h.todo (x, []) (List.mem_cons_self ..) c hc with g | g | g
    · exact .inl g
    · exact .inr g
    · simp at g
  refine ⟨?_, h.left.snoc fun p hp q hpq => ?_, fun a ha b hab => ?_, fun y hy c hc => ?_, fun y hy => h.sub y (List.mem_cons_of_mem _ hy), h.path.tail⟩
  · have h1 := h.once
    rw [List.map_cons] at h1
    rw [List.append_assoc]
    exact h1
  · have h1 : q ∈ ord ∨ q ∈ ((x, []) :: st).map (·.1) := by
      rcases hp with hp | rfl
      · exact h.done p hp q hpq
      · exact hx q hpq
    rcases h1 with g | g
    · exact .inl g
    · obtain ⟨z, hz, rfl⟩ := List.mem_map.1 g
      exact .inr (.inr (h.path.leads z hz))
  · rcases List.mem_append.1 ha with ha | ha
    · exact all b (h.done a ha b hab)
    · simp at ha
      subst ha
      exact all b (hx b hab)
  · rcases h.todo y (List.mem_cons_of_mem _ hy) c hc with g | g | g
    · exact (all c (.inl g)).imp id .inl
    · exact (all c (.inr g)).imp id .inl
    · exact .inr (.inr g)
end
end Go.Proofs.YthgkloapnihpaaaGreat

/- Graphs, plainly: edges that rise, an edge laid in; what they tell. -/
namespace Go.Proofs.YthgkloapnihpaaaGreat

/-- An edge: from, to, kind. -/
abbrev Ed := Int × Int × Int
/-- An edge stands ahead of another one. -/
def LtE (p q : Ed) : Prop := p.1 < q.1 ∨ (p.1 = q.1 ∧ (p.2.1 < q.2.1 ∨ (p.2.1 = q.2.1 ∧ p.2.2 < q.2.2)))
instance (p q : Ed) : Decidable (LtE p q) := by unfold LtE; infer_instance
theorem LtE.irrefl (p : Ed) : ¬ LtE p p := by unfold LtE; omega
theorem LtE.trans {p q r : Ed} (h : LtE p q) (k : LtE q r) : LtE p r := by unfold LtE at *; omega
theorem ltE_tri (p q : Ed) : LtE p q ∨ p = q ∨ LtE q p := by
  obtain ⟨a, b, c⟩ := p
  obtain ⟨a', b', c'⟩ := q
  unfold LtE
  by_cases h1 : a = a' ∧ b = b' ∧ c = c'
  · obtain ⟨rfl, rfl, rfl⟩ := h1
    exact .inr (.inl rfl)
  · simp only
    omega
abbrev RiseE (l : List Ed) : Prop := l.Pairwise LtE
theorem riseE_ext : ∀ {l m : List Ed}, RiseE l → RiseE m → (∀ p, p ∈ l ↔ p ∈ m) → l = m
  | [], [], _, _, _ => rfl
  | [], q :: m, _, _, h => by have := (h q).2 (by simp); simp at this
  | p :: l, [], _, _, h => by have := (h p).1 (by simp); simp at this
  | p :: l, q :: m, hl, hm, h => by
    have hl' := List.pairwise_cons.1 hl
    have hm' := List.pairwise_cons.1 hm
    have e : p = q := by
      have h1 := (h p).1 (by simp)
      have h2 := (h q).2 (by simp)
      rcases List.mem_cons.1 h1 with h1 | h1
      · exact h1
      · rcases List.mem_cons.1 h2 with h2 | h2
        · exact h2.symm
        · exact absurd ((hm'.1 p h1).trans (hl'.1 q h2)) (LtE.irrefl _)
    subst e
    congr 1
    refine riseE_ext hl'.2 hm'.2 (fun x => ?_)
    have hx := h x
    constructor
    · intro hx1
      rcases List.mem_cons.1 (hx.1 (by simp [hx1])) with e | e
      · subst e; exact absurd (hl'.1 x hx1) (LtE.irrefl _)
      · exact e
    · intro hx1
      rcases List.mem_cons.1 (hx.2 (by simp [hx1])) with e | e
      · subst e; exact absurd (hm'.1 x hx1) (LtE.irrefl _)
      · exact e
theorem riseE_nodup {l : List Ed} (h : RiseE l) : l.Nodup := h.imp (fun {a b} hab e => by subst e; exact LtE.irrefl _ hab)
/-- How many edges at the head stand ahead of one. -/
def aheadE (p : Ed) : List Ed → Nat
  | [] => 0
  | q :: l => if LtE q p then aheadE p l + 1 else 0
theorem aheadE_le (p : Ed) : ∀ l, aheadE p l ≤ l.length
  | [] => Nat.le_refl _
  | q :: l => by
    unfold aheadE
    have := aheadE_le p l
    split <;> simp <;> omega
theorem aheadE_take (p : Ed) : ∀ l : List Ed, ∀ q ∈ l.take (aheadE p l), LtE q p
  | [], q, h => by simp at h
  | r :: l, q, h => by
    unfold aheadE at h
    split at h
    · rename_i hr
      rw [List.take_succ_cons] at h
      rcases List.mem_cons.1 h with e | e
      · subst e; exact hr
      · exact aheadE_take p l q e
    · simp at h
theorem aheadE_drop (p : Ed) : ∀ {l}, RiseE l → ∀ q ∈ l.drop (aheadE p l), ¬ LtE q p
  | [], _, q, h => by simp at h
  | r :: l, hl, q, h => by
    have hl' := List.pairwise_cons.1 hl
    unfold aheadE at h
    split at h
    · rw [List.drop_succ_cons] at h; exact aheadE_drop p hl'.2 q h
    · rename_i hr
      rw [List.drop_zero] at h
      rcases List.mem_cons.1 h with e | e
      · subst e; exact hr
      · exact fun hq => hr ((hl'.1 q e).trans hq)
/-- An edge laid in where it belongs. -/
def putE (l : List Ed) (p : Ed) : List Ed := if p ∈ l then l else l.take (aheadE p l) ++ p :: l.drop (aheadE p l)
theorem mem_putE {l : List Ed} {p q : Ed} : q ∈ putE l p ↔ q = p ∨ q ∈ l := by
  unfold putE
  split
  · rename_i h
    constructor
    · exact .inr
    · rintro (rfl | h') <;> assumption
  · rw [List.mem_append, List.mem_cons]
    conv => rhs; rw [← List.take_append_drop (aheadE p l) l]
    rw [List.mem_append]
    constructor
    · rintro (h | h | h)
      · exact .inr (.inl h)
      · exact .inl h
      · exact .inr (.inr h)
    · rintro (h | h | h)
      · exact .inr (.inl h)
      · exact .inl h
      · exact .inr (.inr h)
theorem rise_putE {l : List Ed} (h : RiseE l) (p : Ed) : RiseE (putE l p) := by
  unfold putE
  split
  · exact h
  · rename_i hp
    have hd := aheadE_drop p h
    have ht := aheadE_take p l
    have h' : RiseE (l.take (aheadE p l) ++ l.drop (aheadE p l)) := by rw [List.take_append_drop]; exact h
    obtain ⟨h1, h2, h3⟩ := List.pairwise_append.1 h'
    refine List.pairwise_append.2 ⟨h1, List.pairwise_cons.2 ⟨fun q hq => ?_, h2⟩, fun q hq r hr => ?_⟩
    · rcases ltE_tri p q with e | e | e
      · exact e
      · subst e; exact absurd (List.mem_of_mem_drop hq) hp
      · exact absurd e (hd q hq)
    · rcases List.mem_cons.1 hr with e | e
      · subst e; exact ht q hq
      · exact h3 q hq r e
theorem putE_length (l : List Ed) (p : Ed) : (putE l p).length ≤ l.length + 1 := by
  unfold putE
  split
  · omega
  · have := aheadE_le p l
    simp
    omega
/-- An edge leads from one to the other. -/
def EdR (E : List Ed) (a b : Int) : Prop := ∃ k, (a, b, k) ∈ E
/-- The kinds of the edges from a to b, rising. -/
def kindsE (E : List Ed) (a b : Int) : List Int := (E.filter fun e => e.1 == a && e.2.1 == b).map fun e => e.2.2
theorem mem_kindsE {E : List Ed} {a b k : Int} : k ∈ kindsE E a b ↔ (a, b, k) ∈ E := by
  unfold kindsE
  rw [List.mem_map]
  constructor
  · rintro ⟨⟨a', b', k'⟩, h, rfl⟩
    rw [List.mem_filter, Bool.and_eq_true, beq_iff_eq, beq_iff_eq] at h
    obtain ⟨h1, h2, h3⟩ := h
    subst h2 h3
    exact h1
  · intro h
    exact ⟨(a, b, k), List.mem_filter.2 ⟨h, by simp⟩, rfl⟩
theorem rise_kindsE {E : List Ed} (h : RiseE E) (a b : Int) : (kindsE E a b).Pairwise (· < ·) := by
  unfold kindsE
  rw [List.pairwise_map]
  refine List.Pairwise.imp_of_mem ?_ (h.filter _)
  intro p q hp hq hpq
  rw [List.mem_filter, Bool.and_eq_true, beq_iff_eq, beq_iff_eq] at hp hq
  unfold LtE at hpq
  omega
theorem kindsE_nil {E : List Ed} {a b : Int} : kindsE E a b = [] ↔ ¬ EdR E a b := by
  constructor
  · rintro h ⟨k, hk⟩
    have := mem_kindsE.2 hk
    rw [h] at this
    simp at this
  · intro h
    cases hk : kindsE E a b with
    | nil => rfl
    | cons k l => exact absurd ⟨k, mem_kindsE.1 (by rw [hk]; simp)⟩ h
end Go.Proofs.YthgkloapnihpaaaGreat

/- Relations, plainly: pairs that rise, a pair laid in, what leads to what. -/
namespace Go.Proofs.YthgkloapnihpaaaGreat
abbrev Pr := Int × Int
/-- A pair stands ahead of another one. -/
def LtP (p q : Pr) : Prop := p.1 < q.1 ∨ (p.1 = q.1 ∧ p.2 < q.2)
instance (p q : Pr) : Decidable (LtP p q) := by unfold LtP; infer_instance
theorem LtP.irrefl (p : Pr) : ¬ LtP p p := by unfold LtP; omega
theorem LtP.trans {p q r : Pr} (h : LtP p q) (k : LtP q r) : LtP p r := by unfold LtP at *; omega
theorem ltP_tri (p q : Pr) : LtP p q ∨ p = q ∨ LtP q p := by
  obtain ⟨a, b⟩ := p
  obtain ⟨c, d⟩ := q
  unfold LtP
  by_cases h1 : a < c
  · exact .inl (.inl h1)
  by_cases h2 : c < a
  · exact .inr (.inr (.inl h2))
  have h3 : a = c := by omega
  subst h3
  by_cases h4 : b < d
  · exact .inl (.inr ⟨rfl, h4⟩)
  by_cases h5 : d < b
  · exact .inr (.inr (.inr ⟨rfl, h5⟩))
  have h6 : b = d := by omega
  subst h6
  exact .inr (.inl rfl)
/-- Pairs that rise. -/
abbrev RiseP (l : List Pr) : Prop := l.Pairwise LtP
/-- Lists that rise and have the same pairs are the same. -/
theorem rise_ext : ∀ {l m : List Pr}, RiseP l → RiseP m → (∀ p, p ∈ l ↔ p ∈ m) → l = m
  | [], [], _, _, _ => rfl
  | [], q :: m, _, _, h => by have := (h q).2 (by simp); simp at this
  | p :: l, [], _, _, h => by have := (h p).1 (by simp); simp at this
  | p :: l, q :: m, hl, hm, h => by
    have hl' := List.pairwise_cons.1 hl
    have hm' := List.pairwise_cons.1 hm
    have e : p = q := by
      have h1 := (h p).1 (by simp)
      have h2 := (h q).2 (by simp)
      rcases List.mem_cons.1 h1 with h1 | h1
      · exact h1
      · rcases List.mem_cons.1 h2 with h2 | h2
        · exact h2.symm
        · exact absurd ((hm'.1 p h1).trans (hl'.1 q h2)) (LtP.irrefl _)
    subst e
    congr 1
    refine rise_ext hl'.2 hm'.2 (fun x => ?_)
    have hx := h x
    constructor
    · intro hx1
      rcases List.mem_cons.1 (hx.1 (by simp [hx1])) with e | e
      · subst e; exact absurd (hl'.1 x hx1) (LtP.irrefl _)
      · exact e
    · intro hx1
      rcases List.mem_cons.1 (hx.2 (by simp [hx1])) with e | e
      · subst e; exact absurd (hm'.1 x hx1) (LtP.irrefl _)
      · exact e
theorem rise_nodup {l : List Pr} (h : RiseP l) : l.Nodup := h.imp (fun {a b} hab e => by subst e; exact LtP.irrefl _ hab)

/-- How many pairs at the head stand ahead of one. -/
def aheadN (p : Pr) : List Pr → Nat
  | [] => 0
  | q :: l => if LtP q p then aheadN p l + 1 else 0
theorem aheadN_le (p : Pr) : ∀ l, aheadN p l ≤ l.length
  | [] => Nat.le_refl _
  | q :: l => by
    unfold aheadN
    have := aheadN_le p l
    split <;> simp <;> omega
theorem aheadN_take (p : Pr) : ∀ l : List Pr, ∀ q ∈ l.take (aheadN p l), LtP q p
  | [], q, h => by simp at h
  | r :: l, q, h => by
    unfold aheadN at h
    split at h
    · rename_i hr
      rw [List.take_succ_cons] at h
      rcases List.mem_cons.1 h with e | e
      · subst e; exact hr
      · exact aheadN_take p l q e
    · simp at h
theorem aheadN_drop (p : Pr) : ∀ {l}, RiseP l → ∀ q ∈ l.drop (aheadN p l), ¬ LtP q p
  | [], _, q, h => by simp at h
  | r :: l, hl, q, h => by
    have hl' := List.pairwise_cons.1 hl
    unfold aheadN at h
    split at h
    · rw [List.drop_succ_cons] at h; exact aheadN_drop p hl'.2 q h
    · rename_i hr
      rw [List.drop_zero] at h
      rcases List.mem_cons.1 h with e | e
      · subst e; exact hr
      · exact fun hq => hr ((hl'.1 q e).trans hq)
/-- A pair laid in where it belongs. -/
def putP (l : List Pr) (p : Pr) : List Pr := if p ∈ l then l else l.take (aheadN p l) ++ p :: l.drop (aheadN p l)
theorem mem_putP {l : List Pr} {p q : Pr} : q ∈ putP l p ↔ q = p ∨ q ∈ l := by
  unfold putP
  split
  · rename_i h
    constructor
    · exact .inr
    · rintro (rfl | h') <;> assumption
  · rw [List.mem_append, List.mem_cons]
    conv => rhs; rw [← List.take_append_drop (aheadN p l) l]
    rw [List.mem_append]
    constructor
    · rintro (h | h | h)
      · exact .inr (.inl h)
      · exact .inl h
      · exact .inr (.inr h)
    · rintro (h | h | h)
      · exact .inr (.inl h)
      · exact .inl h
      · exact .inr (.inr h)
theorem rise_putP {l : List Pr} (h : RiseP l) (p : Pr) : RiseP (putP l p) := by
  unfold putP
  split
  · exact h
  · rename_i hp
    have hd := aheadN_drop p h
    have ht := aheadN_take p l
    have h' : RiseP (l.take (aheadN p l) ++ l.drop (aheadN p l)) := by rw [List.take_append_drop]; exact h
    obtain ⟨h1, h2, h3⟩ := List.pairwise_append.1 h'
    refine List.pairwise_append.2 ⟨h1, List.pairwise_cons.2 ⟨fun q hq => ?_, h2⟩, fun q hq r hr => ?_⟩
    · rcases ltP_tri p q with e | e | e
      · exact e
      · subst e; exact absurd (List.mem_of_mem_drop hq) hp
      · exact absurd e (hd q hq)
    · rcases List.mem_cons.1 hr with e | e
      · subst e; exact ht q hq
      · exact h3 q hq r e
theorem putP_length (l : List Pr) (p : Pr) : (putP l p).length ≤ l.length + 1 := by
  unfold putP
  split
  · omega
  · have := aheadN_le p l
    simp
    omega

/-- What leads to what, by one pair or more. -/
inductive TC (L : List Pr) : Int → Int → Prop
  | one {a b : Int} : (a, b) ∈ L → TC L a b
  | more {a b c : Int} : TC L a b → (b, c) ∈ L → TC L a c
theorem TC.trans {L : List Pr} {a b c : Int} (h : TC L a b) (k : TC L b c) : TC L a c := by
  induction k with
  | one h1 => exact .more h h1
  | more _ h1 ih => exact .more ih h1
theorem TC.mono {L M : List Pr} (hs : ∀ p ∈ L, p ∈ M) {a b : Int} (h : TC L a b) : TC M a b := by
  induction h with
  | one h1 => exact .one (hs _ h1)
  | more _ h1 ih => exact .more ih (hs _ h1)
/-- A closure is its own. -/
theorem TC.idem {L M : List Pr} (hM : ∀ a b, (a, b) ∈ M ↔ TC L a b) {a b : Int} : TC M a b ↔ TC L a b := by
  constructor
  · intro h
    induction h with
    | one h1 => exact (hM _ _).1 h1
    | more _ h1 ih => exact ih.trans ((hM _ _).1 h1)
  · intro h
    exact .one ((hM _ _).2 h)
theorem TC.head {L : List Pr} {a b : Int} (h : TC L a b) : ∃ c, (a, c) ∈ L := by
  induction h with
  | one h1 => exact ⟨_, h1⟩
  | more _ _ ih => exact ih
theorem TC.last {L : List Pr} {a b : Int} (h : TC L a b) : ∃ c, (c, b) ∈ L := by
  cases h with
  | one h1 => exact ⟨_, h1⟩
  | more _ h1 => exact ⟨_, h1⟩

/-- The search from one thing: what has been found is led to; what is found and stands in no list has led on. -/
structure Srch (L : List Pr) (a : Int) (R : List Int) (todo : List Int) : Prop where
  sound : ∀ b ∈ R, TC L a b
  here : ∀ t ∈ todo, t = a ∨ t ∈ R
  done : ∀ x, (x = a ∨ x ∈ R) → x ∉ todo → ∀ y, (x, y) ∈ L → y ∈ R
theorem Srch.full {L : List Pr} {a : Int} {R : List Int} (h : Srch L a R []) : ∀ b, b ∈ R ↔ TC L a b := by
  intro b
  refine ⟨h.sound b, fun hb => ?_⟩
  induction hb with
  | one h1 => exact h.done a (.inl rfl) (by simp) _ h1
  | more _ h1 ih => exact h.done _ (.inr ih) (by simp) _ h1
theorem Srch.start (L : List Pr) (a : Int) : Srch L a [] [a] :=
  ⟨by simp, by simp, fun x hx hn y hy => by
    rcases hx with rfl | hx
    · simp at hn
    · simp at hx⟩
/-- One that was found is taken out, and what it leads to is laid in. -/
theorem Srch.step {L : List Pr} {a t : Int} {R todo R' new : List Int} (h : Srch L a R (todo ++ [t])) (hR : ∀ b, b ∈ R' ↔ b ∈ R ∨ b ∈ new) (hn : ∀ b ∈ new, (t, b) ∈ L) (hall : ∀ b, (t, b) ∈ L → b ∈ R') : Srch L a R' (todo ++ new) := by
  have ht := h.here t (by simp)
  have hta : ∀ b ∈ new, TC L a b := fun b hb => by
    rcases ht with rfl | ht
    · exact .one (hn b hb)
    · exact .more (h.sound t ht) (hn b hb)
  refine ⟨fun b hb => ?_, fun x hx => ?_, fun x hx hxn y hy => ?_⟩
  · rcases (hR b).1 hb with hb | hb
    · exact h.sound b hb
    · exact hta b hb
  · rcases List.mem_append.1 hx with hx | hx
    · rcases h.here x (by simp [hx]) with e | e
      · exact .inl e
      · exact .inr ((hR x).2 (.inl e))
    · exact .inr ((hR x).2 (.inr hx))
  · by_cases hxt : x = t
    · subst hxt; exact hall y hy
    · have hxo : x = a ∨ x ∈ R := by
        rcases hx with e | e
        · exact .inl e
        · rcases (hR x).1 e with e | e
          · exact .inr e
          · exact absurd (List.mem_append.2 (.inr e)) hxn
      refine (hR y).2 (.inl (h.done x hxo (fun hx2 => ?_) y hy))
      rcases List.mem_append.1 hx2 with hx2 | hx2
      · exact hxn (List.mem_append.2 (.inl hx2))
      · simp at hx2; exact hxt hx2

open Classical in
/-- Where each has one ahead of it there is a circle. -/
theorem circle_of {L : List Pr} {S : List Int} (h : ∀ x ∈ S, ∃ y ∈ S, (y, x) ∈ L) {x : Int} (hx : x ∈ S) : ∃ z, TC L z z := by
  refine Classical.byContradiction fun hno => ?_
  have hno' : ∀ z, ¬ TC L z z := fun z hz => hno ⟨z, hz⟩
  have key : ∀ (n : Nat) (x : Int), x ∈ S → (S.filter fun z => decide (TC L z x)).length = n → False := by
    intro n
    induction n using Nat.strongRecOn with
    | ind n ih =>
      intro x hx hn
      obtain ⟨y, hy, hyx⟩ := h x hx
      refine ih _ ?_ y hy rfl
      rw [← hn]
      have hsub : (S.filter fun z => decide (TC L z y)) = (S.filter fun z => decide (TC L z x)).filter fun z => decide (TC L z y) := by
        rw [List.filter_filter]
        refine List.filter_congr fun z _ => ?_
        by_cases hz : TC L z y
        · simp [hz, TC.more hz hyx]
        · simp [hz]
      rw [hsub]
      refine List.length_filter_lt_length_iff_exists.2 ⟨y, ?_, by simp [hno' y]⟩
      simp [hy, TC.one hyx]
  exact key _ x hx rfl

/-- How many pairs that have not gone end in b. -/
def inN (L G : List Pr) (b : Int) : Nat := (L.filter fun p => decide (p.2 = b) && !decide (p ∈ G)).length
theorem inN_zero {L G : List Pr} {b : Int} : inN L G b = 0 ↔ ∀ x, (x, b) ∈ L → (x, b) ∈ G := by
  unfold inN
  rw [List.length_eq_zero_iff, List.filter_eq_nil_iff]
  constructor
  · intro h x hx
    have := h _ hx
    simpa using this
  · intro h p hp
    obtain ⟨x, y⟩ := p
    by_cases hy : y = b
    · subst hy; simp [h x hp]
    · simp [hy]
theorem inN_other {L G : List Pr} {a b c : Int} (h : c ≠ b) : inN L (G ++ [(a, b)]) c = inN L G c := by
  unfold inN
  congr 1
  refine List.filter_congr fun p _ => ?_
  by_cases hp : p.2 = c
  · have : p ≠ (a, b) := fun e => h (by rw [← hp, e])
    simp [hp, this]
  · simp [hp]
theorem filter_one {L : List Pr} (hL : L.Nodup) {q : Pr} (f : Pr → Bool) (hq : q ∈ L) (hf : f q = true) : (L.filter fun p => f p && !decide (p = q)).length + 1 = (L.filter f).length := by
  induction L with
  | nil => simp at hq
  | cons r L ih =>
    have hn := List.nodup_cons.1 hL
    by_cases hr : r = q
    · subst hr
      have e : (L.filter fun p => f p && !decide (p = r)) = L.filter f := List.filter_congr fun p hp => by
        have : p ≠ r := fun e => hn.1 (e ▸ hp)
        simp [this]
      rw [List.filter_cons, List.filter_cons, e]
      simp [hf]
    · have hq' : q ∈ L := by
        rcases List.mem_cons.1 hq with e | e
        · exact absurd e.symm hr
        · exact e
      have := ih hn.2 hq'
      rw [List.filter_cons, List.filter_cons]
      cases hfr : f r
      · simpa [hr] using this
      · simp [hr]; omega
theorem inN_same {L G : List Pr} (hL : L.Nodup) {a b : Int} (h : (a, b) ∈ L) (hg : (a, b) ∉ G) : inN L (G ++ [(a, b)]) b + 1 = inN L G b := by
  unfold inN
  rw [← filter_one hL (fun p => decide (p.2 = b) && !decide (p ∈ G)) h (by simp [hg])]
  congr 2
  refine List.filter_congr fun p _ => ?_
  by_cases h1 : p ∈ G <;> by_cases h2 : p = (a, b) <;> simp [h1, h2]

theorem nodup_len : ∀ {L G : List Pr}, L.Nodup → (∀ p ∈ L, p ∈ G) → L.length ≤ G.length
  | [], _, _, _ => Nat.zero_le _
  | p :: L, G, hn, hs => by
    have hn' := List.nodup_cons.1 hn
    have hp := hs p (by simp)
    have h1 := nodup_len (L := L) (G := G.erase p) hn'.2 (fun q hq => (List.mem_erase_of_ne (fun (e : q = p) => hn'.1 (e ▸ hq))).2 (hs q (by simp [hq])))
    rw [List.length_erase_of_mem hp] at h1
    have := List.length_pos_of_mem hp
    simp
    omega

/-- The pairs of those that have none ahead of them taken out, again and again. -/
structure Kahn (L : List Pr) (D : List Int) (G : List Pr) (free : List Int) : Prop where
  gsub : ∀ p ∈ G, p ∈ L ∧ p.1 ∈ D
  gonce : G.Nodup
  pre : ∀ u, u ∈ free ∨ u ∈ D → ∀ x, (x, u) ∈ L → (x, u) ∈ G
  zero : ∀ u, (∃ y, (u, y) ∈ L) → (∀ x, (x, u) ∈ L → (x, u) ∈ G) → u ∈ free ∨ u ∈ D
  rank : ∀ (i : Nat) (u : Int), D[i]? = some u → ∀ x, (x, u) ∈ L → x ∈ D.take i
  apart : ∀ u ∈ free, u ∉ D
  fonce : free.Nodup
theorem Kahn.lay {L : List Pr} {D : List Int} {G : List Pr} {free : List Int} (h : Kahn L D G free) {a b : Int} (ha : a ∈ D) (hab : (a, b) ∈ L) (hg : (a, b) ∉ G) :
    Kahn L D (G ++ [(a, b)]) (if inN L (G ++ [(a, b)]) b = 0 then free ++ [b] else free) := by
  have hbn : ¬ (b ∈ free ∨ b ∈ D) := fun hb => hg (h.pre b hb a hab)
  have hmem : ∀ u, u ∈ (if inN L (G ++ [(a, b)]) b = 0 then free ++ [b] else free) ↔ u ∈ free ∨ (u = b ∧ inN L (G ++ [(a, b)]) b = 0) := fun u => by
    split <;> rename_i e
    · simp [e]
    · simp [e]
  refine ⟨fun p hp => ?_, ?_, fun u hu x hx => ?_, fun u hu hall => ?_, h.rank, fun u hu => ?_, ?_⟩
  · rcases List.mem_append.1 hp with hp | hp
    · exact h.gsub p hp
    · simp at hp; subst hp; exact ⟨hab, ha⟩
  · exact List.nodup_append.2 ⟨h.gonce, by simp, fun p hp q hq => by simp at hq; subst hq; exact fun e => hg (e ▸ hp)⟩
  · rw [hmem] at hu
    rcases hu with (hu | ⟨rfl, h0⟩) | hu
    · exact List.mem_append.2 (.inl (h.pre u (.inl hu) x hx))
    · exact inN_zero.1 h0 x hx
    · exact List.mem_append.2 (.inl (h.pre u (.inr hu) x hx))
  · rw [hmem]
    by_cases hub : u = b
    · exact .inl (.inr ⟨hub, inN_zero.2 (hub ▸ hall)⟩)
    · rcases h.zero u hu (fun x hx => by
        rcases List.mem_append.1 (hall x hx) with e | e
        · exact e
        · simp at e; exact absurd e.2 hub) with e | e
      · exact .inl (.inl e)
      · exact .inr e
  · rw [hmem] at hu
    rcases hu with hu | ⟨rfl, _⟩
    · exact h.apart u hu
    · exact fun hd => hbn (.inr hd)
  · split
    · exact List.nodup_append.2 ⟨h.fonce, by simp, fun p hp q hq => by simp at hq; subst hq; exact fun e => hbn (.inl (e ▸ hp))⟩
    · exact h.fonce
theorem Kahn.pop {L : List Pr} {D : List Int} {G : List Pr} {free : List Int} {a : Int} (h : Kahn L D G (free ++ [a])) : Kahn L (D ++ [a]) G free := by
  have ha := h.apart a (by simp)
  have hf := List.nodup_append.1 h.fonce
  refine ⟨fun p hp => ⟨(h.gsub p hp).1, by simp [(h.gsub p hp).2]⟩, h.gonce, fun u hu => ?_, fun u hu hall => ?_, fun i u hi x hx => ?_, fun u hu => ?_, hf.1⟩
  · refine h.pre u ?_
    rcases hu with hu | hu
    · exact .inl (by simp [hu])
    · rcases List.mem_append.1 hu with hu | hu
      · exact .inr hu
      · exact .inl (by simp at hu; simp [hu])
  · rcases h.zero u hu hall with e | e
    · rcases List.mem_append.1 e with e | e
      · exact .inl e
      · exact .inr (by simp at e; simp [e])
    · exact .inr (by simp [e])
  · by_cases hiD : i < D.length
    · rw [List.getElem?_append_left hiD] at hi
      rw [List.take_append_of_le_length (by omega)]
      exact h.rank i u hi x hx
    · have hi2 : i = D.length := by
        have := (List.getElem?_eq_some_iff.1 hi).1
        simp at this; omega
      subst hi2
      simp at hi
      subst hi
      have := (h.gsub _ (h.pre a (.inl (by simp)) x hx)).2
      simpa using this
  · intro hd
    rcases List.mem_append.1 hd with hd | hd
    · exact h.apart u (by simp [hu]) hd
    · simp at hd
      exact hf.2.2 u hu a (by simp) hd
/-- Behind all: something is left just where there is a circle. -/
theorem Kahn.end_ {L : List Pr} {D : List Int} {G : List Pr} (hL : L.Nodup) (h : Kahn L D G []) (hout : ∀ p ∈ L, p.1 ∈ D → p ∈ G) : G.length < L.length ↔ ∃ z, TC L z z := by
  constructor
  · intro hlt
    obtain ⟨p, hp, hpg⟩ : ∃ p ∈ L, p ∉ G := Classical.byContradiction fun hno => by
      have hsub : ∀ p ∈ L, p ∈ G := fun p hp => Classical.byContradiction fun hg => hno ⟨p, hp, hg⟩
      have := nodup_len hL hsub
      omega
    have hpD : p.1 ∉ D := fun e => hpg (hout p hp e)
    refine circle_of (S := (L.map (·.1)).filter fun x => !decide (x ∈ D)) (x := p.1) (fun x hx => ?_) (by simp [hpD]; exact ⟨_, hp⟩)
    have hx' : (∃ y, (x, y) ∈ L) ∧ x ∉ D := by simpa using hx
    have hnz : ¬ ∀ y, (y, x) ∈ L → (y, x) ∈ G := fun hall => by
      rcases h.zero x hx'.1 hall with e | e
      · simp at e
      · exact hx'.2 e
    obtain ⟨y, hy, hyg⟩ : ∃ y, (y, x) ∈ L ∧ (y, x) ∉ G := Classical.byContradiction fun hno => hnz fun y hy => Classical.byContradiction fun hg => hno ⟨y, hy, hg⟩
    have hyD : y ∉ D := fun e => hyg (hout (y, x) hy e)
    exact ⟨y, by simp [hyD]; exact ⟨x, hy⟩, hy⟩
  · rintro ⟨z, hz⟩
    refine Classical.byContradiction fun hge => ?_
    have hlen : L.length ≤ G.length := by omega
    have hall : ∀ p ∈ L, p ∈ G := fun p hp => Classical.byContradiction fun hg => by
      have h1 : (p :: G).Nodup := List.nodup_cons.2 ⟨hg, h.gonce⟩
      have h2 := nodup_len h1 (G := L) (fun q hq => by
        rcases List.mem_cons.1 hq with e | e
        · subst e; exact hp
        · exact (h.gsub q e).1)
      simp at h2; omega
    have hinD : ∀ {x y : Int}, (x, y) ∈ L → x ∈ D := fun hxy => (h.gsub _ (hall _ hxy)).2
    have rank : ∀ {x y : Int}, TC L x y → ∀ j : Nat, D[j]? = some y → ∃ i : Nat, i < j ∧ D[i]? = some x := by
      intro x y hxy
      have edge : ∀ {x y : Int}, (x, y) ∈ L → ∀ j : Nat, D[j]? = some y → ∃ i : Nat, i < j ∧ D[i]? = some x := fun {x y} hxy j hj => by
        obtain ⟨i, hi⟩ := List.mem_iff_getElem?.1 (h.rank j y hj x hxy)
        have hij : i < j := by
          have := (List.getElem?_eq_some_iff.1 hi).1
          simp at this; omega
        rw [List.getElem?_take_of_lt hij] at hi
        exact ⟨i, hij, hi⟩
      induction hxy with
      | one h1 => exact edge h1
      | more _ h1 ih =>
        intro j hj
        obtain ⟨i, hi, hib⟩ := edge h1 j hj
        obtain ⟨i2, hi2, h2⟩ := ih i hib
        exact ⟨i2, by omega, h2⟩
    obtain ⟨c, hc⟩ := hz.head
    have noc : ∀ (n : Nat), D[n]? = some z → False := by
      intro n
      induction n using Nat.strongRecOn with
      | ind n ih =>
        intro hn
        obtain ⟨i, hi, hiz⟩ := rank hz n hn
        exact ih i hi hiz
    obtain ⟨n, hn⟩ := List.mem_iff_getElem?.1 (hinD hc)
    exact noc n hn
end Go.Proofs.YthgkloapnihpaaaGreat

/- Numbers that rise, plainly; a number laid in; what stands ahead and behind. -/
namespace Go.Proofs.YthgkloapnihpaaaGreat
/-- Numbers that rise. -/
abbrev RiseI (l : List Int) : Prop := l.Pairwise (· < ·)
theorem riseI_ext : ∀ {l m : List Int}, RiseI l → RiseI m → (∀ p, p ∈ l ↔ p ∈ m) → l = m
  | [], [], _, _, _ => rfl
  | [], q :: m, _, _, h => by have := (h q).2 (by simp); simp at this
  | p :: l, [], _, _, h => by have := (h p).1 (by simp); simp at this
  | p :: l, q :: m, hl, hm, h => by
    have hl' := List.pairwise_cons.1 hl
    have hm' := List.pairwise_cons.1 hm
    have e : p = q := by
      have h1 := (h p).1 (by simp)
      have h2 := (h q).2 (by simp)
      rcases List.mem_cons.1 h1 with h1 | h1
      · exact h1
      · rcases List.mem_cons.1 h2 with h2 | h2
        · exact h2.symm
        · have h3 := hm'.1 p h1
          have h4 := hl'.1 q h2
          omega
    subst e
    congr 1
    refine riseI_ext hl'.2 hm'.2 (fun x => ?_)
    have hx := h x
    constructor
    · intro hx1
      rcases List.mem_cons.1 (hx.1 (by simp [hx1])) with e | e
      · subst e; exact absurd (hl'.1 x hx1) (by omega)
      · exact e
    · intro hx1
      rcases List.mem_cons.1 (hx.2 (by simp [hx1])) with e | e
      · subst e; exact absurd (hm'.1 x hx1) (by omega)
      · exact e
theorem riseI_nodup {l : List Int} (h : RiseI l) : l.Nodup := h.imp (fun {a b} hab e => by subst e; omega)
/-- How many at the head are less than a number. -/
def lessN (x : Int) : List Int → Nat
  | [] => 0
  | y :: l => if y < x then lessN x l + 1 else 0
theorem lessN_le (x : Int) : ∀ l, lessN x l ≤ l.length
  | [] => Nat.le_refl _
  | y :: l => by
    unfold lessN
    have := lessN_le x l
    split <;> simp <;> omega
theorem lessN_lt {x : Int} : ∀ {l : List Int} {k : Nat}, k < lessN x l → k < l.length ∧ l.getD k 0 < x
  | [], k, h => by simp [lessN] at h
  | y :: l, k, h => by
    unfold lessN at h
    split at h
    · rename_i hq
      cases k with
      | zero => exact ⟨by simp, by simpa using hq⟩
      | succ k =>
        obtain ⟨h1, h2⟩ := lessN_lt (x := x) (l := l) (k := k) (by omega)
        exact ⟨by simp; omega, by simpa using h2⟩
    · omega
theorem lessN_stop {x : Int} : ∀ {l : List Int}, lessN x l < l.length → ¬ l.getD (lessN x l) 0 < x
  | [], h => by simp at h
  | y :: l, h => by
    by_cases hq : y < x
    · have e : lessN x (y :: l) = lessN x l + 1 := by simp [lessN, hq]
      rw [e] at h ⊢
      have := lessN_stop (x := x) (l := l) (by simp at h; omega)
      simpa using this
    · have e : lessN x (y :: l) = 0 := by simp [lessN, hq]
      rw [e]
      simpa using hq
/-- A number laid into numbers that rise. -/
def putI (l : List Int) (x : Int) : List Int := if lessN x l < l.length ∧ l.getD (lessN x l) 0 = x then l else l.take (lessN x l) ++ x :: l.drop (lessN x l)
theorem putI_cons (y : Int) (l : List Int) (x : Int) : putI (y :: l) x = if y < x then y :: putI l x else if y = x then y :: l else x :: y :: l := by
  by_cases h : y < x
  · have e : lessN x (y :: l) = lessN x l + 1 := by simp [lessN, h]
    unfold putI
    rw [e]
    simp only [h, if_true, List.length_cons, List.getD_cons_succ, List.take_succ_cons, List.drop_succ_cons, Nat.add_lt_add_iff_right]
    split <;> simp
  · have e : lessN x (y :: l) = 0 := by simp [lessN, h]
    unfold putI
    rw [e]
    simp only [h, if_false]
    by_cases h2 : y = x <;> simp [h2]
theorem mem_putI {x z : Int} : ∀ {l : List Int}, z ∈ putI l x ↔ z = x ∨ z ∈ l
  | [] => by simp [putI]
  | y :: l => by
    rw [putI_cons]
    have ih := mem_putI (x := x) (z := z) (l := l)
    split
    · rw [List.mem_cons, ih, List.mem_cons]
      constructor
      · rintro (h | h | h) <;> simp [h]
      · rintro (h | h | h) <;> simp [h]
    · split
      · rename_i h; subst h; simp
      · simp
theorem rise_putI (x : Int) : ∀ {l : List Int}, RiseI l → RiseI (putI l x)
  | [], _ => by simp [putI]
  | y :: l, h => by
    have h' := List.pairwise_cons.1 h
    rw [putI_cons]
    split
    · rename_i h1
      refine List.pairwise_cons.2 ⟨fun z hz => ?_, rise_putI x h'.2⟩
      rcases mem_putI.1 hz with e | e
      · omega
      · exact h'.1 z e
    · split
      · exact h
      · refine List.pairwise_cons.2 ⟨fun z hz => ?_, h⟩
        rcases List.mem_cons.1 hz with e | e
        · omega
        · have := h'.1 z e; omega
theorem nodupI_len : ∀ {L G : List Int}, L.Nodup → (∀ p ∈ L, p ∈ G) → L.length ≤ G.length := fun {L G} h hs => by
  have h1 := nodup_len (L := L.map fun x => (x, x)) (G := G.map fun x => (x, x)) (List.Pairwise.map _ (fun a b hab e => hab (Prod.mk.inj e).1) h) (fun p hp => by
    obtain ⟨x, hx, rfl⟩ := List.mem_map.1 hp
    exact List.mem_map.2 ⟨x, hs x hx, rfl⟩)
  simpa using h1
theorem putI_length (l : List Int) (x : Int) : (putI l x).length ≤ l.length + 1 := by
  unfold putI
  split
  · omega
  · simp; omega
/-- What stands first in a pair with b; second with a: rising. -/
def aheadI (l : List Pr) (b : Int) : List Int := l.foldl (fun o p => if p.2 = b then putI o p.1 else o) []
def behindI (l : List Pr) (a : Int) : List Int := l.foldl (fun o p => if p.1 = a then putI o p.2 else o) []
theorem aheadI_snoc (l : List Pr) (p : Pr) (b : Int) : aheadI (l ++ [p]) b = if p.2 = b then putI (aheadI l b) p.1 else aheadI l b := by simp [aheadI]
theorem behindI_snoc (l : List Pr) (p : Pr) (a : Int) : behindI (l ++ [p]) a = if p.1 = a then putI (behindI l a) p.2 else behindI l a := by simp [behindI]
theorem aheadI_rise (b : Int) : ∀ (l : List Pr) (o : List Int), RiseI o → RiseI (l.foldl (fun o p => if p.2 = b then putI o p.1 else o) o)
  | [], _, h => h
  | p :: l, o, h => by
    rw [List.foldl_cons]
    refine aheadI_rise b l _ ?_
    split
    · exact rise_putI _ h
    · exact h
theorem aheadI_mem (b : Int) (z : Int) : ∀ (l : List Pr) (o : List Int), z ∈ l.foldl (fun o p => if p.2 = b then putI o p.1 else o) o ↔ z ∈ o ∨ (z, b) ∈ l
  | [], _ => by simp
  | (x, y) :: l, o => by
    rw [List.foldl_cons, aheadI_mem b z l]
    simp only [List.mem_cons, Prod.mk.injEq]
    by_cases h : y = b
    · rw [if_pos h, mem_putI, h]
      constructor
      · rintro ((h1 | h1) | h1) <;> simp [h1]
      · rintro (h1 | (⟨h1, _⟩ | h1)) <;> simp [h1]
    · rw [if_neg h]
      have h' : ¬ b = y := fun e => h e.symm
      simp [h']
theorem behindI_rise (a : Int) : ∀ (l : List Pr) (o : List Int), RiseI o → RiseI (l.foldl (fun o p => if p.1 = a then putI o p.2 else o) o)
  | [], _, h => h
  | p :: l, o, h => by
    rw [List.foldl_cons]
    refine behindI_rise a l _ ?_
    split
    · exact rise_putI _ h
    · exact h
theorem behindI_mem (a : Int) (z : Int) : ∀ (l : List Pr) (o : List Int), z ∈ l.foldl (fun o p => if p.1 = a then putI o p.2 else o) o ↔ z ∈ o ∨ (a, z) ∈ l
  | [], _ => by simp
  | (x, y) :: l, o => by
    rw [List.foldl_cons, behindI_mem a z l]
    simp only [List.mem_cons, Prod.mk.injEq]
    by_cases h : x = a
    · rw [if_pos h, mem_putI, h]
      constructor
      · rintro ((h1 | h1) | h1) <;> simp [h1]
      · rintro (h1 | (⟨_, h1⟩ | h1)) <;> simp [h1]
    · rw [if_neg h]
      have h' : ¬ a = x := fun e => h e.symm
      simp [h']
theorem rise_aheadI (l : List Pr) (b : Int) : RiseI (aheadI l b) := aheadI_rise b l [] List.Pairwise.nil
theorem mem_aheadI (l : List Pr) (b z : Int) : z ∈ aheadI l b ↔ (z, b) ∈ l := by
  unfold aheadI
  rw [aheadI_mem]
  simp
theorem rise_behindI (l : List Pr) (a : Int) : RiseI (behindI l a) := behindI_rise a l [] List.Pairwise.nil
theorem mem_behindI (l : List Pr) (a z : Int) : z ∈ behindI l a ↔ (a, z) ∈ l := by
  unfold behindI
  rw [behindI_mem]
  simp
theorem aheadI_len (l : List Pr) (b : Int) : (aheadI l b).length ≤ l.length := by
  have h := nodupI_len (L := aheadI l b) (G := l.map (·.1)) (riseI_nodup (rise_aheadI l b)) (fun z hz => List.mem_map.2 ⟨(z, b), (mem_aheadI l b z).1 hz, rfl⟩)
  simpa using h
theorem behindI_len (l : List Pr) (a : Int) : (behindI l a).length ≤ l.length := by
  have h := nodupI_len (L := behindI l a) (G := l.map (·.2)) (riseI_nodup (rise_behindI l a)) (fun z hz => List.mem_map.2 ⟨(a, z), (mem_behindI l a z).1 hz, rfl⟩)
  simpa using h
end Go.Proofs.YthgkloapnihpaaaGreat

/- Plainly: what the document's search reaches; its closure. -/
namespace Go.Proofs.YthgkloapnihpaaaGreat
theorem putI_in {x : Int} : ∀ {l : List Int}, RiseI l → x ∈ l → putI l x = l
  | [], _, h => by simp at h
  | y :: l, hr, h => by
    have h' := List.pairwise_cons.1 hr
    rw [putI_cons]
    rcases List.mem_cons.1 h with e | e
    · subst e; simp
    · have h1 := h'.1 x e
      rw [if_pos h1, putI_in h'.2 e]
theorem putI_out {x : Int} : ∀ {l : List Int}, x ∉ l → (putI l x).length = l.length + 1
  | [], _ => by simp [putI]
  | y :: l, h => by
    have h1 : x ≠ y := fun e => h (by simp [e])
    have h2 : x ∉ l := fun e => h (by simp [e])
    rw [putI_cons]
    split
    · simp [putI_out h2]
    · rw [if_neg (fun e => h1 e.symm)]; simp
/-- The search: what has been found, in two orders; of the first k all that leads on is found. -/
structure Rch (L : List Pr) (a : Int) (k : Nat) (out D : List Int) : Prop where
  rise : RiseI out
  sound : ∀ z ∈ out, TC L a z
  same : ∀ z, z ∈ D ↔ z ∈ out
  len : D.length = out.length
  closed : ∀ t ∈ (a :: D).take k, ∀ z, (t, z) ∈ L → z ∈ out
theorem Rch.start (L : List Pr) (a : Int) : Rch L a 0 [] [] := ⟨List.Pairwise.nil, by simp, by simp, rfl, by simp⟩
theorem Rch.next {L : List Pr} {a : Int} {k : Nat} {out D : List Int} (h : Rch L a k out D) (hk : k < (a :: D).length) (hall : ∀ z, ((a :: D).getD k 0, z) ∈ L → z ∈ out) : Rch L a (k + 1) out D := by
  refine ⟨h.rise, h.sound, h.same, h.len, fun t ht => ?_⟩
  rw [List.take_add_one, List.getElem?_eq_getElem hk] at ht
  rcases List.mem_append.1 ht with e | e
  · exact h.closed t e
  · have e2 : t = (a :: D).getD k 0 := by
      rw [List.getD_eq_getElem?_getD, List.getElem?_eq_getElem hk]
      simpa using e
    rw [e2]
    exact hall
theorem Rch.put {L : List Pr} {a : Int} {k : Nat} {out D : List Int} (h : Rch L a k out D) (hk : k ≤ (a :: D).length) {t z : Int} (ht : t ∈ a :: D) (hz : (t, z) ∈ L) (hn : z ∉ out) : Rch L a k (putI out z) (D ++ [z]) := by
  have htz : TC L a z := by
    rcases List.mem_cons.1 ht with e | e
    · subst e; exact .one hz
    · exact .more (h.sound t ((h.same t).1 e)) hz
  refine ⟨rise_putI z h.rise, fun y hy => ?_, fun y => ?_, by rw [List.length_append, h.len, putI_out hn]; rfl, fun y hy y' hy' => ?_⟩
  · rcases mem_putI.1 hy with e | e
    · subst e; exact htz
    · exact h.sound y e
  · rw [List.mem_append, mem_putI, h.same, List.mem_singleton]
    exact Or.comm
  · have e : (a :: (D ++ [z])).take k = (a :: D).take k := by
      rw [← List.cons_append, List.take_append_of_le_length hk]
    rw [e] at hy
    exact mem_putI.2 (.inr (h.closed y hy y' hy'))
theorem Rch.stop {L : List Pr} {a : Int} {k : Nat} {out D : List Int} (h : Rch L a k out D) (hk : (a :: D).length ≤ k) : ∀ z, z ∈ out ↔ TC L a z := fun z => by
  refine ⟨h.sound z, fun ht => ?_⟩
  have hc := h.closed
  rw [List.take_of_length_le hk] at hc
  induction ht with
  | one h1 => exact hc _ (by simp) _ h1
  | more _ h1 ih => exact hc _ (List.mem_cons_of_mem _ ((h.same _).2 ih)) _ h1
theorem Rch.bound {L : List Pr} {a : Int} {k : Nat} {out D : List Int} (h : Rch L a k out D) : out.length ≤ L.length := by
  have h1 := nodupI_len (L := out) (G := L.map (·.2)) (riseI_nodup h.rise) (fun z hz => by
    obtain ⟨c, hc⟩ := (h.sound z hz).last
    exact List.mem_map.2 ⟨_, hc, rfl⟩)
  simpa using h1
/-- The closure so far: of the first i pairs' firsts all that they lead to. -/
structure Cls (l : List Pr) (i : Nat) (out : List Pr) : Prop where
  rise : RiseP out
  mem : ∀ p, p ∈ out ↔ (∃ q ∈ l.take i, q.1 = p.1) ∧ TC l p.1 p.2
theorem Cls.start (l : List Pr) : Cls l 0 [] := ⟨List.Pairwise.nil, by simp⟩
theorem take_one {l : List Pr} {i : Nat} (hi : i < l.length) : l.take (i + 1) = l.take i ++ [l.getD i (0, 0)] := by
  rw [List.take_add_one, List.getElem?_eq_getElem hi, List.getD_eq_getElem?_getD, List.getElem?_eq_getElem hi]
  rfl
theorem Cls.skip {l : List Pr} {i : Nat} {out : List Pr} (h : Cls l i out) (h0 : 0 < i) (hi : i < l.length) (he : (l.getD i (0, 0)).1 = (l.getD (i - 1) (0, 0)).1) : Cls l (i + 1) out := by
  refine ⟨h.rise, fun p => ?_⟩
  rw [h.mem p, take_one hi]
  have hm : l.getD (i - 1) (0, 0) ∈ l.take i := by
    obtain ⟨j, rfl⟩ : ∃ j, i = j + 1 := ⟨i - 1, by omega⟩
    rw [take_one (by omega)]
    simp
  constructor
  · rintro ⟨⟨q, hq, e⟩, ht⟩
    exact ⟨⟨q, List.mem_append.2 (.inl hq), e⟩, ht⟩
  · rintro ⟨⟨q, hq, e⟩, ht⟩
    rcases List.mem_append.1 hq with h1 | h1
    · exact ⟨⟨q, h1, e⟩, ht⟩
    · rw [List.mem_singleton] at h1
      subst h1
      exact ⟨⟨_, hm, he ▸ e⟩, ht⟩
/-- Where a pair's first is not that of the pair before, all before are less. -/
theorem firsts_less {l : List Pr} (hl : RiseP l) {i : Nat} (hi : i < l.length) (hne : i = 0 ∨ (l.getD i (0, 0)).1 ≠ (l.getD (i - 1) (0, 0)).1) : ∀ q ∈ l.take i, q.1 < (l.getD i (0, 0)).1 := fun q hq => by
  obtain ⟨j, hj, e⟩ := List.getElem_of_mem hq
  have hj' : j < i := by rw [List.length_take] at hj; omega
  have e' : l[j]'(by omega) = q := by rw [← e, List.getElem_take]
  have hge : ∀ k (h : k < l.length), l.getD k (0, 0) = l[k] := fun k h => by rw [List.getD_eq_getElem?_getD, List.getElem?_eq_getElem h]; rfl
  rcases hne with h0 | hne
  · omega
  rw [hge i hi, hge (i - 1) (by omega)] at hne
  rw [hge i hi]
  have h1 := List.pairwise_iff_getElem.1 hl (i - 1) i (by omega) hi (by omega)
  have h2 : (l[i - 1]'(by omega)).1 < l[i].1 := by
    rcases h1 with h1 | ⟨h1, _⟩
    · exact h1
    · exact absurd h1.symm hne
  by_cases h3 : j = i - 1
  · subst h3; rw [← e']; exact h2
  · have h4 := List.pairwise_iff_getElem.1 hl j (i - 1) (by omega) (by omega) (by omega)
    rw [e'] at h4
    rcases h4 with h4 | ⟨h4, _⟩ <;> omega
theorem Cls.add {l : List Pr} {i : Nat} {out : List Pr} (h : Cls l i out) (hi : i < l.length) {x : Int} (hx : (l.getD i (0, 0)).1 = x) (hless : ∀ q ∈ l.take i, q.1 < x) {to : List Int} (hto : RiseI to) (hm : ∀ z, z ∈ to ↔ TC l x z) : Cls l (i + 1) (out ++ to.map fun z => (x, z)) := by
  refine ⟨List.pairwise_append.2 ⟨h.rise, ?_, fun p hp q hq => ?_⟩, fun p => ?_⟩
  · exact List.pairwise_map.2 (hto.imp fun hab => .inr ⟨rfl, hab⟩)
  · obtain ⟨⟨r, hr, e⟩, _⟩ := (h.mem p).1 hp
    obtain ⟨z, _, rfl⟩ := List.mem_map.1 hq
    have := hless r hr
    exact .inl (by rw [← e]; exact this)
  · rw [List.mem_append, h.mem p, take_one hi]
    constructor
    · rintro (⟨⟨q, hq, e⟩, ht⟩ | hp)
      · exact ⟨⟨q, List.mem_append.2 (.inl hq), e⟩, ht⟩
      · obtain ⟨z, hz, rfl⟩ := List.mem_map.1 hp
        exact ⟨⟨_, List.mem_append.2 (.inr (by simp)), hx⟩, (hm z).1 hz⟩
    · rintro ⟨⟨q, hq, e⟩, ht⟩
      rcases List.mem_append.1 hq with h1 | h1
      · exact .inl ⟨⟨q, h1, e⟩, ht⟩
      · rw [List.mem_singleton] at h1
        subst h1
        have e2 : p.1 = x := by rw [← e, hx]
        exact .inr (List.mem_map.2 ⟨p.2, (hm _).2 (e2 ▸ ht), by rw [← e2]⟩)
theorem Cls.stop {l : List Pr} {out : List Pr} (h : Cls l l.length out) : ∀ p, p ∈ out ↔ TC l p.1 p.2 := fun p => by
  rw [h.mem p, List.take_length]
  refine ⟨fun h => h.2, fun ht => ⟨?_, ht⟩⟩
  obtain ⟨c, hc⟩ := ht.head
  exact ⟨_, hc, rfl⟩
end Go.Proofs.YthgkloapnihpaaaGreat

/- Graphs, plainly: the groups of those that reach one another, as a list. -/
namespace Go.Proofs.YthgkloapnihpaaaGreat
open Classical

/-- Those that a node is in a group with, rising. -/
noncomputable def cls (R : Int → Int → Prop) (N : List Int) (h : Int) : List Int := N.filter fun y => decide (Mutual R h y)
/-- The least of each group, rising. -/
noncomputable def reps (R : Int → Int → Prop) (N : List Int) : List Int := N.filter fun h => decide (∀ y ∈ N, Mutual R h y → h ≤ y)
noncomputable def partsOf (R : Int → Int → Prop) (N : List Int) : List (List Int) := (reps R N).map (cls R N)
section
variable {R : Int → Int → Prop} {N : List Int}
theorem mem_cls {h y : Int} : y ∈ cls R N h ↔ y ∈ N ∧ Mutual R h y := by
  unfold cls
  rw [List.mem_filter, decide_eq_true_eq]
theorem mem_reps {h : Int} : h ∈ reps R N ↔ h ∈ N ∧ ∀ y ∈ N, Mutual R h y → h ≤ y := by
  unfold reps
  rw [List.mem_filter, decide_eq_true_eq]
theorem rise_cls (hN : RiseI N) (h : Int) : RiseI (cls R N h) := hN.filter _
theorem rise_reps (hN : RiseI N) : RiseI (reps R N) := hN.filter _
theorem cls_same {a b : Int} (h : Mutual R a b) : cls R N a = cls R N b := by
  unfold cls
  apply List.filter_congr
  intro y _
  rw [decide_eq_decide]
  exact ⟨fun g => h.symm.trans g, fun g => h.trans g⟩
/-- The least of a rising list that is not empty. -/
theorem head_least {l : List Int} (hl : RiseI l) {x : Int} (hx : l.head? = some x) : x ∈ l ∧ ∀ y ∈ l, x ≤ y := by
  cases l with
  | nil => cases hx
  | cons a l =>
    injection hx with hx
    subst hx
    refine ⟨List.mem_cons_self .., fun y hy => ?_⟩
    rcases List.mem_cons.1 hy with rfl | hy
    · exact Int.le_refl _
    · exact Int.le_of_lt ((List.pairwise_cons.1 hl).1 y hy)
/-- A group's head is the least in it, and tells it. -/
theorem cls_head (hN : RiseI N) {k x : Int} (hx : (cls R N k).head? = some x) : x ∈ reps R N ∧ cls R N k = cls R N x := by
  obtain ⟨h1, h2⟩ := head_least (rise_cls hN k) hx
  rw [mem_cls] at h1
  refine ⟨mem_reps.2 ⟨h1.1, fun y hy hm => h2 y (mem_cls.2 ⟨hy, h1.2.trans hm⟩)⟩, cls_same h1.2⟩
/-- Groups in any list whose heads rise, each node in one of them, are the parts. -/
theorem parts_of_heads (hN : RiseI N) {ps : List (List Int)} (hc : ∀ p ∈ ps, ∃ k ∈ N, p = cls R N k) (hall : ∀ k ∈ N, ∃ p ∈ ps, k ∈ p) (hr : RiseI (ps.map fun p => p.headD 0)) : ps = partsOf R N := by
  have hp : ∀ p ∈ ps, p.headD 0 ∈ reps R N ∧ p = cls R N (p.headD 0) := by
    intro p hp
    obtain ⟨k, hk, rfl⟩ := hc p hp
    have hkk : k ∈ cls R N k := mem_cls.2 ⟨hk, Mutual.refl k⟩
    cases hl : cls R N k with
    | nil => rw [hl] at hkk; simp at hkk
    | cons x l =>
      have := cls_head hN (k := k) (x := x) (by rw [hl]; rfl)
      rw [hl] at this
      exact this
  have hh : (ps.map fun p => p.headD 0) = reps R N := by
    refine riseI_ext hr (rise_reps hN) fun x => ⟨fun hx => ?_, fun hx => ?_⟩
    · obtain ⟨p, h1, rfl⟩ := List.mem_map.1 hx
      exact (hp p h1).1
    · have hx2 := mem_reps.1 hx
      obtain ⟨p, h1, h2⟩ := hall x hx2.1
      obtain ⟨g1, g2⟩ := hp p h1
      rw [g2, mem_cls] at h2
      have g3 := mem_reps.1 g1
      have e1 := g3.2 x hx2.1 h2.2
      have e2 := hx2.2 _ g3.1 h2.2.symm
      exact List.mem_map.2 ⟨p, h1, by omega⟩
  unfold partsOf
  rw [← hh, List.map_map]
  conv => lhs; rw [← List.map_id ps]
  apply List.map_congr_left
  intro p h1
  exact (hp p h1).2
/-- The document's way: groups by rising nodes, those done left out. -/
noncomputable def docParts (R : Int → Int → Prop) (N : List Int) : List Int → List (List Int)
  | [] => []
  | n :: l => if (∀ y ∈ N, Mutual R n y → n ≤ y) then cls R N n :: docParts R N l else docParts R N l
theorem docParts_eq (R : Int → Int → Prop) (N : List Int) : ∀ l, docParts R N l = (l.filter fun h => decide (∀ y ∈ N, Mutual R h y → h ≤ y)).map (cls R N)
  | [] => rfl
  | n :: l => by
    have ih := docParts_eq R N l
    unfold docParts
    rw [List.filter_cons]
    by_cases h : ∀ y ∈ N, Mutual R n y → n ≤ y
    · rw [if_pos h, if_pos (decide_eq_true h), List.map_cons, ih]
    · rw [if_neg h, if_neg (by rw [decide_eq_true_eq]; exact h), ih]
end
end Go.Proofs.YthgkloapnihpaaaGreat

/- Graphs, plainly: all nodes in an order, the least first that nothing holds back. -/
namespace Go.Proofs.YthgkloapnihpaaaGreat

/-- An edge of whatever kind leads from a to b. -/
def edB (E : List Ed) (a b : Int) : Bool := E.any fun e => e.1 == a && e.2.1 == b
theorem edB_iff {E : List Ed} {a b : Int} : edB E a b = true ↔ EdR E a b := by
  unfold edB EdR
  rw [List.any_eq_true]
  constructor
  · rintro ⟨⟨a', b', k⟩, h, h2⟩
    rw [Bool.and_eq_true, beq_iff_eq, beq_iff_eq] at h2
    obtain ⟨h3, h4⟩ := h2
    subst h3 h4
    exact ⟨k, h⟩
  · rintro ⟨k, h⟩
    exact ⟨(a, b, k), h, by simp⟩
/-- How many hold a node back. -/
def holdN (N : List Int) (E : List Ed) (O : List Int) (b : Int) : Nat := (N.filter fun a => decide (a ∉ O) && edB E a b).length
/-- Those that nothing holds back, rising. -/
def freeN (N : List Int) (E : List Ed) (O : List Int) : List Int := N.filter fun n => decide (n ∉ O) && holdN N E O n == 0
/-- The order, from a first part of it on. -/
def topoZ (N : List Int) (E : List Ed) : Nat → List Int → Option (List Int)
  | 0, O => some O
  | k + 1, O => match freeN N E O with
    | [] => none
    | n :: _ => topoZ N E k (O ++ [n])
/-- Both ends of each edge are nodes. -/
def EndsIn (N : List Int) (E : List Ed) : Prop := ∀ a b, EdR E a b → a ∈ N ∧ b ∈ N
section
variable {N : List Int} {E : List Ed} {O : List Int}
theorem mem_freeN {n : Int} : n ∈ freeN N E O ↔ n ∈ N ∧ n ∉ O ∧ holdN N E O n = 0 := by
  unfold freeN
  rw [List.mem_filter, Bool.and_eq_true, decide_eq_true_eq, beq_iff_eq]
theorem holdN_zero {b : Int} (hE : EndsIn N E) : holdN N E O b = 0 ↔ ∀ a, EdR E a b → a ∈ O := by
  unfold holdN
  rw [List.length_eq_zero_iff, List.filter_eq_nil_iff]
  constructor
  · intro h a hab
    have := h a (hE a b hab).1
    rw [Bool.and_eq_true, decide_eq_true_eq, edB_iff, not_and] at this
    exact Classical.byContradiction fun g => this g hab
  · intro h a _
    rw [Bool.and_eq_true, decide_eq_true_eq, edB_iff, not_and]
    exact fun g hab => g (h a hab)
theorem filter_but {p q : Int → Bool} {a : Int} : ∀ {l : List Int}, l.Nodup → a ∈ l → (∀ x ∈ l, x ≠ a → p x = q x) → q a = false → (l.filter p).length = (l.filter q).length + (if p a = true then 1 else 0)
  | [], _, h, _, _ => by simp at h
  | x :: l, hn, h, hp, hq => by
    have hn' := List.nodup_cons.1 hn
    by_cases hx : x = a
    · subst hx
      have e : l.filter p = l.filter q := List.filter_congr fun y hy => hp y (List.mem_cons_of_mem _ hy) (fun e => hn'.1 (e ▸ hy))
      rw [List.filter_cons, List.filter_cons, hq, e]
      cases p x <;> simp
    · have hm : a ∈ l := (List.mem_cons.1 h).resolve_left fun e => hx e.symm
      have ih := filter_but hn'.2 hm (fun y hy => hp y (List.mem_cons_of_mem _ hy)) hq
      rw [List.filter_cons, List.filter_cons, hp x (List.mem_cons_self ..) hx]
      cases q x <;> simp [ih] <;> omega
/-- One that is put behind holds back no more. -/
theorem holdN_step (hN : N.Nodup) {a : Int} (ha : a ∈ N) (hO : a ∉ O) (b : Int) : holdN N E O b = holdN N E (O ++ [a]) b + (if edB E a b = true then 1 else 0) := by
  unfold holdN
  rw [filter_but (p := fun x => decide (x ∉ O) && edB E x b) (q := fun x => decide (x ∉ O ++ [a]) && edB E x b) hN ha]
  · rw [decide_eq_true hO, Bool.true_and]
  · intro x _ hx
    have : decide (x ∉ O ++ [a]) = decide (x ∉ O) := by
      rw [decide_eq_decide]
      simp [hx]
    simp only [this]
  · have : decide (a ∉ O ++ [a]) = false := by simp
    simp only [this, Bool.false_and]
/-- The first part of an order. -/
structure TopoOk (N : List Int) (E : List Ed) (O : List Int) : Prop where
  once : O.Nodup
  sub : ∀ a ∈ O, a ∈ N
  ahead : ∀ a b, EdR E a b → b ∈ O → a ∈ O
theorem TopoOk.zero (N : List Int) (E : List Ed) : TopoOk N E [] := ⟨by simp, by simp, fun a b _ h => by simp at h⟩
theorem TopoOk.next (hE : EndsIn N E) (h : TopoOk N E O) {a : Int} (ha : a ∈ freeN N E O) : TopoOk N E (O ++ [a]) := by
  rw [mem_freeN] at ha
  refine ⟨?_, fun x hx => ?_, fun x y hxy hy => ?_⟩
  · rw [List.nodup_append]
    exact ⟨h.once, by simp, fun x hx y hy => by simp at hy; subst hy; rintro rfl; exact ha.2.1 hx⟩
  · rcases List.mem_append.1 hx with hx | hx
    · exact h.sub x hx
    · simp at hx; subst hx; exact ha.1
  · rcases List.mem_append.1 hy with hy | hy
    · exact List.mem_append_left _ (h.ahead x y hxy hy)
    · simp at hy
      subst hy
      exact List.mem_append_left _ ((holdN_zero hE).1 ha.2.2 x hxy)
/-- Who is free behind one more. -/
theorem mem_free_step (hN : N.Nodup) (hE : EndsIn N E) (h : TopoOk N E O) {a : Int} (ha : a ∈ freeN N E O) (n : Int) :
    n ∈ freeN N E (O ++ [a]) ↔ (n ∈ freeN N E O ∧ n ≠ a) ∨ (EdR E a n ∧ holdN N E (O ++ [a]) n = 0) := by
  have ha2 := mem_freeN.1 ha
  have hs := holdN_step (E := E) hN ha2.1 ha2.2.1 n
  rw [mem_freeN]
  constructor
  · rintro ⟨h1, h2, h3⟩
    have h4 : n ∉ O ∧ n ≠ a := by simpa using h2
    by_cases he : EdR E a n
    · exact .inr ⟨he, h3⟩
    · left
      refine ⟨mem_freeN.2 ⟨h1, h4.1, ?_⟩, h4.2⟩
      rw [hs, h3, if_neg (fun g => he (edB_iff.1 g))]
  · rintro (⟨h1, h2⟩ | ⟨h1, h2⟩)
    · have h3 := mem_freeN.1 h1
      exact ⟨h3.1, by simp [h3.2.1, h2], by omega⟩
    · refine ⟨(hE a n h1).2, ?_, h2⟩
      have h5 : n ∉ O := fun g => ha2.2.1 (h.ahead a n h1 g)
      have h6 : n ≠ a := by
        rintro rfl
        exact ha2.2.1 ((holdN_zero hE).1 ha2.2.2 n h1)
      simp [h5, h6]
theorem len_le : ∀ {l m : List Int}, l.Nodup → (∀ x ∈ l, x ∈ m) → l.length ≤ m.length
  | [], _, _, _ => Nat.zero_le _
  | x :: l, m, hl, hs => by
    have hl' := List.nodup_cons.1 hl
    have hx := hs x (List.mem_cons_self ..)
    have ih := len_le (m := m.erase x) hl'.2 fun y hy => (List.mem_erase_of_ne (fun e => hl'.1 (by rw [← e]; exact hy))).2 (hs y (List.mem_cons_of_mem _ hy))
    rw [List.length_erase_of_mem hx] at ih
    have := List.length_pos_of_mem hx
    rw [List.length_cons]
    omega
theorem full_of_len {l m : List Int} (hl : l.Nodup) (hs : ∀ x ∈ l, x ∈ m) (hn : m.length ≤ l.length) : ∀ x ∈ m, x ∈ l := by
  intro x hx
  refine Classical.byContradiction fun hxl => ?_
  have := len_le (l := x :: l) (m := m) (List.nodup_cons.2 ⟨hxl, hl⟩) fun y hy => (List.mem_cons.1 hy).elim (fun e => by rw [e]; exact hx) (hs y)
  rw [List.length_cons] at this
  omega
theorem topo_none (hf : freeN N E O = []) (hl : O.length < N.length) : topoZ N E (N.length - O.length) O = none := by
  obtain ⟨k, hk⟩ : ∃ k, N.length - O.length = k + 1 := ⟨N.length - O.length - 1, by omega⟩
  rw [hk]
  unfold topoZ
  rw [hf]
theorem topo_some (hl : ¬ O.length < N.length) : topoZ N E (N.length - O.length) O = some O := by
  rw [show N.length - O.length = 0 from by omega]
  rfl
theorem topo_next (h : TopoOk N E O) {a : Int} {l : List Int} (hf : freeN N E O = a :: l) : topoZ N E (N.length - O.length) O = topoZ N E (N.length - (O ++ [a]).length) (O ++ [a]) := by
  have ha : a ∈ freeN N E O := by rw [hf]; simp
  have ha2 := mem_freeN.1 ha
  have hlt : O.length < N.length := by
    rcases Nat.lt_or_ge O.length N.length with g | g
    · exact g
    · exact absurd (full_of_len h.once h.sub g a ha2.1) ha2.2.1
  obtain ⟨k, hk⟩ : ∃ k, N.length - O.length = k + 1 := ⟨N.length - O.length - 1, by omega⟩
  rw [hk, show N.length - (O ++ [a]).length = k from by simp; omega]
  conv => lhs; unfold topoZ
  rw [hf]
/-- Nothing is free once all stand there. -/
theorem free_full (h : TopoOk N E O) (hl : ¬ O.length < N.length) : freeN N E O = [] := by
  cases hf : freeN N E O with
  | nil => rfl
  | cons a l =>
    have ha := mem_freeN.1 (show a ∈ freeN N E O by rw [hf]; simp)
    exact absurd (full_of_len h.once h.sub (by omega) a ha.1) ha.2.1
end
end Go.Proofs.YthgkloapnihpaaaGreat

/- Maps in memory by their keys; a range over such a map (general). -/
namespace Go.Proofs.YthgkloapnihpaaaGreat
open Go.RowKit Go.Maps Go.WideMaps Go.WideElems Go.ChangeShapes Go.WideShapes

/-- How things are written as keys. -/
structure KeyEnc {X : Type} (P : Program) (k : TypeId) (enc : X → Value) (lit : X → Lit) (Fit : X → Prop) : Prop where
  keyed : Keyed P k
  key : ∀ x, Fit x → keyOf P k (enc x) = some (lit x)
  inj : ∀ x y, Fit x → Fit y → enc x = enc y → x = y
section
variable {X : Type} {P : Program} {k : TypeId} {enc : X → Value} {lit : X → Lit} {Fit : X → Prop}
theorem KeyEnc.lit_inj (E : KeyEnc P k enc lit Fit) {x y : X} (hx : Fit x) (hy : Fit y) (h : lit x = lit y) : x = y := by
  have h1 := E.key x hx
  rw [h] at h1
  exact E.inj x y hx hy (E.keyed.inj h1 (E.key y hy))
/-- A map whose keys are just these. -/
structure DomAt {H : Type} (P : Program) (k : TypeId) (lit : X → Lit) (Fit : X → Prop) (R : Value → Option (DataW H × List MemPlace)) (b n : Nat) (L : List X) (D : DataW H) (W : World) : Prop where
  own : W.ownsMap P k R b n D
  has : ∀ x, Fit x → (Maps.has D (lit x) = true ↔ x ∈ L)
  only : ∀ kl, Maps.has D kl = true → ∃ x ∈ L, kl = lit x
  fit : ∀ x ∈ L, Fit x
variable {H : Type} {R : Value → Option (DataW H × List MemPlace)} {b n : Nat} {L : List X} {D : DataW H} {W W' : World}
theorem dom_made (P : Program) (k : TypeId) (lit : X → Lit) (Fit : X → Prop) (R : Value → Option (DataW H × List MemPlace)) (w : World) : DomAt P k lit Fit R w.heap.size 0 [] (.map []) (w.alloc (.map #[] 0)) :=
  ⟨World.ownsMap_made w P k R, fun _ _ => by simp [Maps.has], fun kl h => by simp [Maps.has] at h, by simp⟩
theorem DomAt.kept {row : Option Nat} (h : DomAt P k lit Fit R b n L D W) (hg : W.grownBy W' row) (hne : some b ≠ row) : DomAt P k lit Fit R b n L D W' :=
  ⟨h.own.kept hg hne, h.has, h.only, h.fit⟩
theorem DomAt.put (E : KeyEnc P k enc lit Fit) (h : DomAt P k lit Fit R b n L D W) {x : X} (hx : Fit x) {n' : Nat} {d : DataW H} {L' : List X} (hL : ∀ y, y ∈ L' ↔ y ∈ L ∨ y = x) (hown : W'.ownsMap P k R b n' (D.put (lit x) d)) : DomAt P k lit Fit R b n' L' (D.put (lit x) d) W' := by
  have hkl := E.keyed.key (E.key x hx)
  have hD := h.own.isMap
  refine ⟨hown, fun y hy => ?_, fun kl hh => ?_, fun y hy => ?_⟩
  · by_cases e : y = x
    · subst e
      rw [Maps.has_put_same hD hkl]
      exact ⟨fun _ => (hL y).2 (.inr rfl), fun _ => rfl⟩
    · rw [Maps.has_put_other (fun e1 => e (E.lit_inj hy hx e1)), h.has y hy]
      exact ⟨fun h1 => (hL y).2 (.inl h1), fun h1 => ((hL y).1 h1).elim id (fun e1 => absurd e1 e)⟩
  · by_cases e : kl = lit x
    · exact ⟨x, (hL x).2 (.inr rfl), e⟩
    · rw [Maps.has_put_other e] at hh
      obtain ⟨y, h1, h2⟩ := h.only kl hh
      exact ⟨y, (hL y).2 (.inl h1), h2⟩
  · rcases (hL y).1 hy with h1 | h1
    · exact h.fit y h1
    · rw [h1]; exact hx
/-- A range over it: what has come, and what has not. -/
structure RngX (P : Program) (k : TypeId) (lit : X → Lit) (Fit : X → Prop) (R : Value → Option (DataW H × List MemPlace)) (b r n : Nat) (L done : List X) (D : DataW H) (left : Lit → Bool) (cnt : Nat) (W : World) : Prop where
  rng : W.ranges P k R b r n D left cnt
  left_iff : ∀ x, Fit x → (left (lit x) = true ↔ x ∈ L ∧ x ∉ done)
  only : ∀ kl, left kl = true → ∃ x ∈ L, kl = lit x
  once : done.Nodup
  sub : ∀ x ∈ done, x ∈ L
theorem rngX_start {r : Nat} (h : DomAt P k lit Fit R b n L D W) (hr : W'.ranges P k R b r n D (Maps.has D) (Maps.size D)) : RngX P k lit Fit R b r n L [] D (Maps.has D) (Maps.size D) W' :=
  ⟨hr, fun x hx => by rw [h.has x hx]; simp, h.only, List.nodup_nil, by simp⟩
theorem rngX_more (E : KeyEnc P k enc lit Fit) {r cnt cnt' : Nat} {done : List X} {left : Lit → Bool} {key : Value} {kl : Lit} (h : RngX P k lit Fit R b r n L done D left cnt W) (hL : ∀ x ∈ L, Fit x) (hk : keyOf P k key = some kl) (hl : left kl = true) (hr : W'.ranges P k R b r n D (fun z => left z && !z.sameKey kl) cnt') :
    ∃ x left', key = enc x ∧ kl = lit x ∧ Fit x ∧ x ∈ L ∧ x ∉ done ∧ RngX P k lit Fit R b r n L (done ++ [x]) D left' cnt' W' := by
  obtain ⟨x, hx, rfl⟩ := h.only kl hl
  have hf := hL x hx
  have h2 : x ∈ L ∧ x ∉ done := (h.left_iff x hf).1 hl
  refine ⟨x, _, E.keyed.inj hk (E.key x hf), rfl, hf, hx, h2.2, hr, fun y hy => ?_, fun kl' hk' => ?_, ?_, fun y hy => ?_⟩
  · show (left (lit y) && !(lit y).sameKey (lit x)) = true ↔ _
    by_cases e : y = x
    · subst e
      rw [WideAt.sameKey_self (E.keyed.key (E.key y hy))]
      simp
    · rw [Maps.sameKey_ne (fun e1 => e (E.lit_inj hy hf e1))]
      simp [e, h.left_iff y hy]
  · have h3 : left kl' = true := by
      have h4 : (left kl' && !kl'.sameKey (lit x)) = true := hk'
      simp at h4
      exact h4.1
    exact h.only kl' h3
  · exact List.nodup_append.2 ⟨h.once, by simp, fun a ha b hb => by simp at hb; subst hb; exact fun e1 => h2.2 (e1 ▸ ha)⟩
  · rcases List.mem_append.1 hy with h3 | h3
    · exact h.sub y h3
    · simp at h3; subst h3; exact hx
theorem rngX_all {r cnt : Nat} {done : List X} {left : Lit → Bool} (h : RngX P k lit Fit R b r n L done D left cnt W) (hL : ∀ x ∈ L, Fit x) (hno : ∀ kl, left kl = false) : ∀ x, x ∈ done ↔ x ∈ L := fun x => by
  refine ⟨h.sub x, fun hx => ?_⟩
  have h1 := h.left_iff x (hL x hx)
  rw [hno] at h1
  exact Classical.byContradiction fun hd => Bool.noConfusion (h1.2 ⟨hx, hd⟩)
theorem RngX.keep {r cnt : Nat} {done : List X} {left : Lit → Bool} {row : Option Nat} (h : RngX P k lit Fit R b r n L done D left cnt W) (hg : W.grownBy W' row) (h1 : some b ≠ row) (h2 : some r ≠ row) : RngX P k lit Fit R b r n L done D left cnt W' :=
  ⟨h.rng.kept hg h1 h2, h.left_iff, h.only, h.once, h.sub⟩
theorem rngX_objs {r cnt : Nat} {done : List X} {left : Lit → Bool} (h : RngX P k lit Fit R b r n L done D left cnt W) : (∃ o, W.heap[b]? = some o ∧ o.isCells = false) ∧ (∃ o, W.heap[r]? = some o ∧ o.isCells = false) := by
  obtain ⟨es, clock, since, seen, c0, h1, _, _, _, h2, _⟩ := h.rng
  exact ⟨⟨_, h1, rfl⟩, ⟨_, h2, rfl⟩⟩
theorem dom_obj (h : DomAt P k lit Fit R b n L D W) : ∃ o, W.heap[b]? = some o ∧ o.isCells = false := by
  obtain ⟨es, clock, hb, _⟩ := h.own
  exact ⟨_, hb, rfl⟩
end
theorem grown_below {W W' : World} (h : Below W.heap.size W W') : W.grownBy W' none := ⟨h.os, h.tape, h.output, h.size, fun k hk _ => h.block k hk⟩

/-- A row of cells is no block of another kind. -/
theorem row_no {W : World} {B e size n k : Nat} {v : Value} {xs : List Value} {o : Obj} (h : W.ownsRow B e size v n xs) (hk : W.heap[k]? = some o) (ho : o.isCells = false) : v.ownBlock ≠ some k := by
  rcases h.2 with ⟨rfl, _⟩ | ⟨g, cap, cur, rfl, _, hg, _⟩
  · simp [Value.ownBlock]
  · intro e1
    have e2 : g = k := by simpa [Value.ownBlock] using e1
    subst e2
    rw [hk] at hg
    cases hg
    cases ho

section
variable {P : Program} {md : Region.Mode} {ops : Array Oper} {Q : Exit → Act → World → Prop} {S : World → Prop} {fuel : Nat} {listed : Array Bool} {a : Act} {w : World}
set_option maxRecDepth 100000 in
/-- An operation that is passed over. -/
theorem held_skip (i : Nat) (d : Option Tmp) {oi : Oper} (hi : ops[i]? = some oi) (hd : oi.dst = d) (hs : Region.noSelect ops = true) (hf : Region.free md ops listed i = true) (hr : (Region.ready md ops listed).contains i = true)
    (hQ : ∀ c a w, Q (.panic c) (a.put d undef) w → Q (.panic c) a w) (hw : Region.wanted oi (yielded ops a.tmps) = false) (hS : S w)
    (h : wpAnyH P md ops Q S fuel (listed.setIfInBounds i true) (a.put d undef) w) : wpAnyH P md ops Q S (fuel + 1) listed a w := by
  subst hd
  exact wpAnyH_take hi hs hf hr hQ (Or.inr ⟨hw, rfl⟩) hS h

set_option maxRecDepth 100000 in
/-- An operation that yields in every world that meets S. -/
theorem held_take (i : Nat) (d : Option Tmp) (v : Value) {oi : Oper} (hi : ops[i]? = some oi) (hd : oi.dst = d) (hs : Region.noSelect ops = true) (hf : Region.free md ops listed i = true) (hr : (Region.ready md ops listed).contains i = true)
    (hQ : ∀ c a w, Q (.panic c) (a.put d v) w → Q (.panic c) a w) (hw : Region.wanted oi (yielded ops a.tmps) = true) (hy : ∀ w, S w → (execOp a.eval oi).run P w = .ok (.value v) w) (hS : S w)
    (h : wpAnyH P md ops Q S fuel (listed.setIfInBounds i true) (a.put d v) w) : wpAnyH P md ops Q S (fuel + 1) listed a w := by
  subst hd
  exact wpAnyH_take hi hs hf hr hQ (Or.inl ⟨hw, hy⟩) hS h
end

abbrev fit64 (n : Int) : Prop := (Lit.int .i64 n).wf = true
abbrev DV := DataW Value
/-- An element of a map, as it stands. -/
def asIs : Value → Option (DV × List MemPlace) := fun v => some (.held v, [])
abbrev K3 : Keyed Tryz.prog 3 := int_keyed Tryz.underlying3
abbrev iv (x : Int) : Value := .int .i64 x
abbrev il (x : Int) : Lit := .int .i64 x
theorem keyI (a : Int) (h : fit64 a) : keyOf Tryz.prog 3 (iv a) = some (il a) := keyOf_int_mk Tryz.underlying3 h
theorem enc3 : KeyEnc Tryz.prog 3 iv il fit64 where
  keyed := K3
  key := keyI
  inj := fun x y _ _ h => by simpa using h
/-- An element of a map, looked up. -/
theorem look_as {b n : Nat} {L : List Int} {D : DV} {W : World} (h : DomAt Tryz.prog 3 il fit64 asIs b n L D W) {t e : TypeId} (ht : Tryz.prog.underlying t = some (.map 3 e)) {z v : Value} (hz : (zeroValue e).run Tryz.prog W = .ok z W) {a : Int} (ha : fit64 a) (hv : D.atKey (il a) (.held z) = .held v) :
    (Instr.lookup t (.map (some b)) (iv a) false).run Tryz.prog W = .ok v W := by
  obtain ⟨v', ps, hrun, hv'⟩ := h.own.lookup K3 ht hz (show asIs z = some _ from rfl) (keyI a ha)
  have h1 : (DataW.held v' : DV) = D.atKey (il a) (.held z) := (Prod.mk.inj (Option.some.inj hv')).1
  rw [hv] at h1
  cases h1
  exact hrun
/-- An element laid in. -/
theorem put_as {b n : Nat} {L : List Int} {D : DV} {W : World} (h : DomAt Tryz.prog 3 il fit64 asIs b n L D W) {t e : TypeId} (ht : Tryz.prog.underlying t = some (.map 3 e)) (hn : n < maxLen) {a : Int} (ha : fit64 a) (v : Value) {L' : List Int} (hL : ∀ y, y ∈ L' ↔ y ∈ L ∨ y = a) :
    ∃ w', (Instr.mapUpdate t (.map (some b)) (iv a) v).run Tryz.prog W = .ok () w' ∧ DomAt Tryz.prog 3 il fit64 asIs b (n + 1) L' (D.put (il a) (.held v)) w' ∧ W.grownBy w' (some b) := by
  obtain ⟨w', h1, h2, h3⟩ := h.own.update K3 ht hn (keyI a ha) (show asIs v = some (.held v, []) from rfl)
  exact ⟨w', h1, h.put enc3 ha hL h2, h3⟩
theorem at_put {b n : Nat} {L : List Int} {D : DV} {W : World} (h : DomAt Tryz.prog 3 il fit64 asIs b n L D W) {a x : Int} (ha : fit64 a) (hx : fit64 x) (v : Value) (z : DV) : (D.put (il a) (.held v)).atKey (il x) z = if x = a then .held v else D.atKey (il x) z := by
  by_cases e : x = a
  · subst e
    rw [if_pos rfl, Maps.atKey_put_same h.own.isMap (enc3.keyed.key (keyI x hx))]
  · rw [if_neg e, Maps.atKey_put_other (fun e1 => e (enc3.lit_inj hx ha e1))]

/-- What stands beside a set of blocks stays. -/
structure Off (Z : Nat → Prop) (w w' : World) : Prop where
  os : w'.os = w.os
  tape : w'.tape = w.tape
  output : w'.output = w.output
  size : w.heap.size ≤ w'.heap.size
  block : ∀ k, k < w.heap.size → ¬ Z k → w'.heap[k]? = w.heap[k]?
theorem Off.refl (Z : Nat → Prop) (w : World) : Off Z w w := ⟨rfl, rfl, rfl, Nat.le_refl _, fun _ _ _ => rfl⟩
/-- A set of blocks, and those that are made meanwhile. -/
def More (Z : Nat → Prop) (w w' : World) (k : Nat) : Prop := Z k ∨ (w.heap.size ≤ k ∧ k < w'.heap.size)
theorem Off.trans {Z : Nat → Prop} {w w1 w2 : World} (h : Off Z w w1) (k : Off (More Z w w1) w1 w2) : Off Z w w2 :=
  ⟨k.os.trans h.os, k.tape.trans h.tape, k.output.trans h.output, Nat.le_trans h.size k.size, fun i hi hz => (k.block i (Nat.lt_of_lt_of_le hi h.size) (fun g => g.elim hz fun g => by omega)).trans (h.block i hi hz)⟩
theorem Off.grown {Z : Nat → Prop} {w w' : World} {row : Option Nat} (h : w.grownBy w' row) (hr : ∀ k, row = some k → Z k ∨ w.heap.size ≤ k) : Off Z w w' :=
  ⟨h.os, h.tape, h.output, h.size, fun k hk hz => h.block k hk fun e => (hr k e.symm).elim hz fun g => by omega⟩
theorem Off.below {Z : Nat → Prop} {w w' : World} (h : Below w.heap.size w w') : Off Z w w' := ⟨h.os, h.tape, h.output, h.size, fun k hk _ => h.block k hk⟩
theorem More.up {Z : Nat → Prop} {w w1 w2 : World} (h : w1.heap.size ≤ w2.heap.size) {k : Nat} (hk : More Z w w1 k) : More Z w w2 k := hk.imp id fun g => ⟨g.1, by omega⟩

/-- To whom an edge leads from a, rising. -/
def outsE (N : List Int) (E : List Ed) (a : Int) : List Int := N.filter fun b => edB E a b
theorem mem_outsE {N : List Int} {E : List Ed} (hE : EndsIn N E) {a b : Int} : b ∈ outsE N E a ↔ EdR E a b := by
  unfold outsE
  rw [List.mem_filter, edB_iff]
  exact ⟨fun h => h.2, fun h => ⟨(hE a b h).2, h⟩⟩
/-- A graph in memory: its box, the map of its nodes, of each a map to rows of kinds. -/
structure GrIn (B g ob c : Nat) (DO : DV) (F : Int → Nat) (DI : Int → DV) (f : Int → Int → Value) (N : List Int) (E : List Ed) (W : World) : Prop where
  box : Boxed W g 73 (.map (some ob))
  dom : DomAt Tryz.prog 3 il fit64 asIs ob c N DO W
  atO : ∀ a, fit64 a → DO.atKey (il a) (.held (.map none)) = .held (if a ∈ N then .map (some (F a)) else .map none)
  domI : ∀ a ∈ N, DomAt Tryz.prog 3 il fit64 asIs (F a) c (outsE N E a) (DI a) W
  atI : ∀ a ∈ N, ∀ b, fit64 b → (DI a).atKey (il b) (.held (.slice none 0 0)) = .held (f a b)
  row : ∀ a ∈ N, ∀ b, fit64 b → W.ownsInts B 3 .i64 (f a b) (kindsE E a b)
  ends : EndsIn N E
  nodes : RiseI N
  edges : RiseE E
  apF : ∀ a ∈ N, ∀ a' ∈ N, F a = F a' → a = a'
  neF : ∀ a ∈ N, F a ≠ ob
  apR : ∀ a ∈ N, ∀ a' ∈ N, ∀ b b', fit64 b → fit64 b' → ∀ k, (f a b).ownBlock = some k → (f a' b').ownBlock = some k → a = a' ∧ b = b'
/-- The blocks of a graph. -/
def Foot (ob : Nat) (F : Int → Nat) (f : Int → Int → Value) (N : List Int) (k : Nat) : Prop := k = ob ∨ (∃ a ∈ N, F a = k) ∨ ∃ a ∈ N, ∃ b, fit64 b ∧ (f a b).ownBlock = some k
/-- A graph whose blocks are among these. -/
def GrAt (Z : Nat → Prop) (B g c : Nat) (N : List Int) (E : List Ed) (W : World) : Prop := ∃ ob DO F DI f, GrIn B g ob c DO F DI f N E W ∧ ∀ k, Foot ob F f N k → Z k
theorem boxed_kept {W W' : World} {g : Nat} {t : TypeId} {v : Value} {row : Option Nat} (h : Boxed W g t v) (hg : W.grownBy W' row) (hne : some g ≠ row) : Boxed W' g t v := (hg.block g (Array.getElem?_eq_some_iff.1 h).1 hne).trans h
/-- What grows no block of it leaves a graph as it was. -/
theorem GrIn.kept {B g ob c : Nat} {DO : DV} {F : Int → Nat} {DI : Int → DV} {f : Int → Int → Value} {N : List Int} {E : List Ed} {W W' : World} {row : Option Nat} (h : GrIn B g ob c DO F DI f N E W) (hg : W.grownBy W' row) (hr : ∀ k, row = some k → k ≠ g ∧ ¬ Foot ob F f N k) : GrIn B g ob c DO F DI f N E W' := by
  refine ⟨boxed_kept h.box hg (fun e => (hr g e.symm).1 rfl), h.dom.kept hg (fun e => (hr ob e.symm).2 (.inl rfl)), h.atO, fun a ha => (h.domI a ha).kept hg (fun e => (hr _ e.symm).2 (.inr (.inl ⟨a, ha, rfl⟩))), h.atI, fun a ha b hb => (h.row a ha b hb).kept hg ?_, h.ends, h.nodes, h.edges, h.apF, h.neF, h.apR⟩
  cases hf : (f a b).ownBlock with
  | none => exact .inl rfl
  | some k => exact .inr fun e => (hr k e.symm).2 (.inr (.inr ⟨a, ha, b, hb, hf⟩))
theorem GrAt.below {Z : Nat → Prop} {B g c : Nat} {N : List Int} {E : List Ed} {W W' : World} (h : GrAt Z B g c N E W) (hb : Below W.heap.size W W') : GrAt Z B g c N E W' := by
  obtain ⟨ob, DO, F, DI, f, h1, h2⟩ := h
  exact ⟨ob, DO, F, DI, f, h1.kept (grown_below hb) (fun k e => by cases e), h2⟩
theorem GrAt.mono {Z Z' : Nat → Prop} {B g c : Nat} {N : List Int} {E : List Ed} {W : World} (h : GrAt Z B g c N E W) (hz : ∀ k, Z k → Z' k) : GrAt Z' B g c N E W := by
  obtain ⟨ob, DO, F, DI, f, h1, h2⟩ := h
  exact ⟨ob, DO, F, DI, f, h1, fun k hk => hz k (h2 k hk)⟩
/-- What is written beside it leaves a graph as it was. -/
theorem GrIn.off {B g ob c : Nat} {DO : DV} {F : Int → Nat} {DI : Int → DV} {f : Int → Int → Value} {N : List Int} {E : List Ed} {W W' : World} (h : GrIn B g ob c DO F DI f N E W) {Z : Nat → Prop} (hg : Off Z W W') (hr : ∀ k, Z k → k ≠ g ∧ ¬ Foot ob F f N k) : GrIn B g ob c DO F DI f N E W' := by
  have one : ∀ k, (k = g ∨ Foot ob F f N k) → k < W.heap.size → W'.heap[k]? = W.heap[k]? := fun k hk hl => hg.block k hl fun hz => hk.elim (hr k hz).1 (hr k hz).2
  refine ⟨(one g (.inl rfl) (Array.getElem?_eq_some_iff.1 h.box).1).trans h.box, ?_, h.atO, fun a ha => ?_, h.atI, fun a ha b hb => ?_, h.ends, h.nodes, h.edges, h.apF, h.neF, h.apR⟩
  · obtain ⟨es, clock, hb, r⟩ := h.dom.own
    exact ⟨⟨es, clock, (one ob (.inr (.inl rfl)) (Array.getElem?_eq_some_iff.1 hb).1).trans hb, r⟩, h.dom.has, h.dom.only, h.dom.fit⟩
  · have hd := h.domI a ha
    obtain ⟨es, clock, hb, r⟩ := hd.own
    exact ⟨⟨es, clock, (one _ (.inr (.inr (.inl ⟨a, ha, rfl⟩))) (Array.getElem?_eq_some_iff.1 hb).1).trans hb, r⟩, hd.has, hd.only, hd.fit⟩
  · have ho := h.row a ha b hb
    refine ⟨⟨ho.1.1, ?_⟩, ho.2⟩
    rcases ho.1.2 with hn | ⟨q, cap, cur, e, hB, hq, r⟩
    · exact .inl hn
    · exact .inr ⟨q, cap, cur, e, hB, (one q (.inr (.inr (.inr ⟨a, ha, b, hb, by rw [e]; rfl⟩))) (Array.getElem?_eq_some_iff.1 hq).1).trans hq, r⟩
end Go.Proofs.YthgkloapnihpaaaGreat

/- Graphs: New and Node, by contracts. -/
namespace Go.Proofs.YthgkloapnihpaaaGreat
open Go.RowKit Go.Maps Go.WideMaps Go.WideElems Go.ChangeShapes Go.WideShapes

theorem zero65 (w : World) : (zeroValue 74).run Tryz.prog w = .ok (.map none) w := by kernel_rfl
theorem zero23 (w : World) : (zeroValue 23).run Tryz.prog w = .ok (.slice none 0 0) w := by kernel_rfl
theorem GrIn.glt {B g ob c : Nat} {DO : DV} {F : Int → Nat} {DI : Int → DV} {f : Int → Int → Value} {N : List Int} {E : List Ed} {W : World} (h : GrIn B g ob c DO F DI f N E W) : g < W.heap.size := (Array.getElem?_eq_some_iff.1 h.box).1
theorem GrIn.off_g {B g ob c : Nat} {DO : DV} {F : Int → Nat} {DI : Int → DV} {f : Int → Int → Value} {N : List Int} {E : List Ed} {W : World} (h : GrIn B g ob c DO F DI f N E W) : ob ≠ g := by
  intro e
  obtain ⟨o, h1, h2⟩ := dom_obj h.dom
  have h3 := h.box
  rw [← e] at h3
  rw [show W.heap[ob]? = _ from h3] at h1
  cases h1
  cases h2
theorem GrIn.row_off {B g ob c : Nat} {DO : DV} {F : Int → Nat} {DI : Int → DV} {f : Int → Int → Value} {N : List Int} {E : List Ed} {W : World} (h : GrIn B g ob c DO F DI f N E W) {a : Int} (ha : a ∈ N) {b : Int} (hb : fit64 b) : (f a b).ownBlock ≠ some ob := by
  obtain ⟨o, h1, h2⟩ := dom_obj h.dom
  exact row_no (h.row a ha b hb).1 h1 h2
/-- A graph without a node. -/
theorem gr_new (w : World) : GrIn w.heap.size (w.heap.size + 1) w.heap.size 0 (.map []) (fun _ => 0) (fun _ => .map []) (fun _ _ => .slice none 0 0) [] [] ((w.alloc (.map #[] 0)).alloc (.cells #[.map (some w.heap.size)] 73)) := by
  refine ⟨?_, ?_, fun a _ => by simp [DataW.atKey], fun a ha => by simp at ha, fun a ha => by simp at ha, fun a ha => by simp at ha, fun a b h => by obtain ⟨k, hk⟩ := h; simp at hk, List.Pairwise.nil, List.Pairwise.nil, fun a ha => by simp at ha, fun a ha => by simp at ha, fun a ha => by simp at ha⟩
  · have := Boxed.new (w.alloc (.map #[] 0)) 73 (.map (some w.heap.size))
    simpa using this
  · exact (dom_made Tryz.prog 3 il fit64 asIs w).kept (World.grownBy_alloc _ _ none) (by simp)
set_option maxHeartbeats 8000000 in
set_option maxRecDepth 100000 in
theorem new_any (w : World) : Calls Tryz.prog 18 #[] w fun e w' => ∃ g, e = .returned (.pointer (some ⟨g, 0, none⟩)) ∧ Hid (GrAt (fun k => w.heap.size ≤ k ∧ k < w'.heap.size) w.heap.size g 0 [] [] w' ∧ Below w.heap.size w w' ∧ w.heap.size ≤ g) := by
  have hmm := @run_makeMap Tryz.prog
  obtain ⟨W, hW⟩ : ∃ W, w.alloc (.map #[] 0) = W := ⟨_, rfl⟩
  have Hb : Hid (Below w.heap.size w W) := by show Below _ _ _; rw [← hW]; exact (Below.refl _ _).alloc (Nat.le_refl _) _
  have Hs : Hid (W.heap.size = w.heap.size + 1) := by show _ = _; rw [← hW]; simp
  have Hg := Lib.hid (gr_new w)
  rw [hW] at Hg
  go_enter Tryz.func18, Tryz.ntmps18
  go_wp2
  go_ret
  refine ⟨_, rfl, ⟨w.heap.size, _, _, _, _, by have := Hg.out; rw [← Hs.out] at this; exact this, fun k hk => ?_⟩, Hb.out.alloc (by rw [Hs.out]; omega) _, by rw [Hs.out]; omega⟩
  rcases hk with rfl | ⟨a, ha, -⟩ | ⟨a, ha, -⟩
  · exact ⟨Nat.le_refl _, by have := Hs.out; simp; omega⟩
  · simp at ha
  · simp at ha
end Go.Proofs.YthgkloapnihpaaaGreat
