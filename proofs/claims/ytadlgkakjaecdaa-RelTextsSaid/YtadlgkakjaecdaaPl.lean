/- Relations, plainly: pairs that rise, a pair laid in, what leads to what. -/
import Derived.Below
namespace Go.Proofs.Ytadlgkakjaecdaa
abbrev Pr := Int × Int
/-- A pair stands ahead of another one. -/
def LtP (p q : Pr) : Prop := p.1 < q.1 ∨ (p.1 = q.1 ∧ p.2 < q.2)
instance (p q : Pr) : Decidable (LtP p q) := by unfold LtP; infer_instance
theorem LtP.irrefl (p : Pr) : ¬ LtP p p := by unfold LtP; omega
theorem LtP.trans {p q r : Pr} (h : LtP p q) (k : LtP q r) : LtP p r := by unfold LtP at *; omega
theorem ltP_tri (p q : Pr) : LtP p q ∨ p = q ∨ LtP q p := by
  obtain ⟨a, b⟩ := p
  obtain ⟨c, d⟩ := q
  unfold LtP
  by_cases h1 : a < c
  · exact .inl (.inl h1)
  by_cases h2 : c < a
  · exact .inr (.inr (.inl h2))
  have h3 : a = c := by omega
  subst h3
  by_cases h4 : b < d
  · exact .inl (.inr ⟨rfl, h4⟩)
  by_cases h5 : d < b
  · exact .inr (.inr (.inr ⟨rfl, h5⟩))
  have h6 : b = d := by omega
  subst h6
  exact .inr (.inl rfl)
/-- Pairs that rise. -/
abbrev RiseP (l : List Pr) : Prop := l.Pairwise LtP
/-- Lists that rise and have the same pairs are the same. -/
theorem rise_ext : ∀ {l m : List Pr}, RiseP l → RiseP m → (∀ p, p ∈ l ↔ p ∈ m) → l = m
  | [], [], _, _, _ => rfl
  | [], q :: m, _, _, h => by have := (h q).2 (by simp); simp at this
  | p :: l, [], _, _, h => by have := (h p).1 (by simp); simp at this
  | p :: l, q :: m, hl, hm, h => by
    have hl' := List.pairwise_cons.1 hl
    have hm' := List.pairwise_cons.1 hm
    have e : p = q := by
      have h1 := (h p).1 (by simp)
      have h2 := (h q).2 (by simp)
      rcases List.mem_cons.1 h1 with h1 | h1
      · exact h1
      · rcases List.mem_cons.1 h2 with h2 | h2
        · exact h2.symm
        · exact absurd ((hm'.1 p h1).trans (hl'.1 q h2)) (LtP.irrefl _)
    subst e
    congr 1
    refine rise_ext hl'.2 hm'.2 (fun x => ?_)
    have hx := h x
    constructor
    · intro hx1
      rcases List.mem_cons.1 (hx.1 (by simp [hx1])) with e | e
      · subst e; exact absurd (hl'.1 x hx1) (LtP.irrefl _)
      · exact e
    · intro hx1
      rcases List.mem_cons.1 (hx.2 (by simp [hx1])) with e | e
      · subst e; exact absurd (hm'.1 x hx1) (LtP.irrefl _)
      · exact e
theorem rise_nodup {l : List Pr} (h : RiseP l) : l.Nodup := h.imp (fun {a b} hab e => by subst e; exact LtP.irrefl _ hab)

/-- How many pairs at the head stand ahead of one. -/
def aheadN (p : Pr) : List Pr → Nat
  | [] => 0
  | q :: l => if LtP q p then aheadN p l + 1 else 0
theorem aheadN_le (p : Pr) : ∀ l, aheadN p l ≤ l.length
  | [] => Nat.le_refl _
  | q :: l => by
    unfold aheadN
    have := aheadN_le p l
    split <;> simp <;> omega
theorem aheadN_take (p : Pr) : ∀ l : List Pr, ∀ q ∈ l.take (aheadN p l), LtP q p
  | [], q, h => by simp at h
  | r :: l, q, h => by
    unfold aheadN at h
    split at h
    · rename_i hr
      rw [List.take_succ_cons] at h
      rcases List.mem_cons.1 h with e | e
      · subst e; exact hr
      · exact aheadN_take p l q e
    · simp at h
theorem aheadN_drop (p : Pr) : ∀ {l}, RiseP l → ∀ q ∈ l.drop (aheadN p l), ¬ LtP q p
  | [], _, q, h => by simp at h
  | r :: l, hl, q, h => by
    have hl' := List.pairwise_cons.1 hl
    unfold aheadN at h
    split at h
    · rw [List.drop_succ_cons] at h; exact aheadN_drop p hl'.2 q h
    · rename_i hr
      rw [List.drop_zero] at h
      rcases List.mem_cons.1 h with e | e
      · subst e; exact hr
      · exact fun hq => hr ((hl'.1 q e).trans hq)
/-- A pair laid in where it belongs. -/
def putP (l : List Pr) (p : Pr) : List Pr := if p ∈ l then l else l.take (aheadN p l) ++ p :: l.drop (aheadN p l)
theorem mem_putP {l : List Pr} {p q : Pr} : q ∈ putP l p ↔ q = p ∨ q ∈ l := by
  unfold putP
  split
  · rename_i h
    constructor
    · exact .inr
    · rintro (rfl | h') <;> assumption
  · rw [List.mem_append, List.mem_cons]
    conv => rhs; rw [← List.take_append_drop (aheadN p l) l]
    rw [List.mem_append]
    constructor
    · rintro (h | h | h)
      · exact .inr (.inl h)
      · exact .inl h
      · exact .inr (.inr h)
    · rintro (h | h | h)
      · exact .inr (.inl h)
      · exact .inl h
      · exact .inr (.inr h)
theorem rise_putP {l : List Pr} (h : RiseP l) (p : Pr) : RiseP (putP l p) := by
  unfold putP
  split
  · exact h
  · rename_i hp
    have hd := aheadN_drop p h
    have ht := aheadN_take p l
    have h' : RiseP (l.take (aheadN p l) ++ l.drop (aheadN p l)) := by rw [List.take_append_drop]; exact h
    obtain ⟨h1, h2, h3⟩ := List.pairwise_append.1 h'
    refine List.pairwise_append.2 ⟨h1, List.pairwise_cons.2 ⟨fun q hq => ?_, h2⟩, fun q hq r hr => ?_⟩
    · rcases ltP_tri p q with e | e | e
      · exact e
      · subst e; exact absurd (List.mem_of_mem_drop hq) hp
      · exact absurd e (hd q hq)
    · rcases List.mem_cons.1 hr with e | e
      · subst e; exact ht q hq
      · exact h3 q hq r e
theorem putP_length (l : List Pr) (p : Pr) : (putP l p).length ≤ l.length + 1 := by
  unfold putP
  split
  · omega
  · have := aheadN_le p l
    simp
    omega

/-- What leads to what, by one pair or more. -/
inductive TC (L : List Pr) : Int → Int → Prop
  | one {a b : Int} : (a, b) ∈ L → TC L a b
  | more {a b c : Int} : TC L a b → (b, c) ∈ L → TC L a c
theorem TC.trans {L : List Pr} {a b c : Int} (h : TC L a b) (k : TC L b c) : TC L a c := by
  induction k with
  | one h1 => exact .more h h1
  | more _ h1 ih => exact .more ih h1
theorem TC.mono {L M : List Pr} (hs : ∀ p ∈ L, p ∈ M) {a b : Int} (h : TC L a b) : TC M a b := by
  induction h with
  | one h1 => exact .one (hs _ h1)
  | more _ h1 ih => exact .more ih (hs _ h1)
/-- A closure is its own. -/
theorem TC.idem {L M : List Pr} (hM : ∀ a b, (a, b) ∈ M ↔ TC L a b) {a b : Int} : TC M a b ↔ TC L a b := by
  constructor
  · intro h
    induction h with
    | one h1 => exact (hM _ _).1 h1
    | more _ h1 ih => exact ih.trans ((hM _ _).1 h1)
  · intro h
    exact .one ((hM _ _).2 h)
theorem TC.head {L : List Pr} {a b : Int} (h : TC L a b) : ∃ c, (a, c) ∈ L := by
  induction h with
  | one h1 => exact ⟨_, h1⟩
  | more _ _ ih => exact ih
theorem TC.last {L : List Pr} {a b : Int} (h : TC L a b) : ∃ c, (c, b) ∈ L := by
  cases h with
  | one h1 => exact ⟨_, h1⟩
  | more _ h1 => exact ⟨_, h1⟩

/-- The search from one thing: what has been found is led to; what is found and stands in no list has led on. -/
structure Srch (L : List Pr) (a : Int) (R : List Int) (todo : List Int) : Prop where
  sound : ∀ b ∈ R, TC L a b
  here : ∀ t ∈ todo, t = a ∨ t ∈ R
  done : ∀ x, (x = a ∨ x ∈ R) → x ∉ todo → ∀ y, (x, y) ∈ L → y ∈ R
theorem Srch.full {L : List Pr} {a : Int} {R : List Int} (h : Srch L a R []) : ∀ b, b ∈ R ↔ TC L a b := by
  intro b
  refine ⟨h.sound b, fun hb => ?_⟩
  induction hb with
  | one h1 => exact h.done a (.inl rfl) (by simp) _ h1
  | more _ h1 ih => exact h.done _ (.inr ih) (by simp) _ h1
theorem Srch.start (L : List Pr) (a : Int) : Srch L a [] [a] :=
  ⟨by simp, by simp, fun x hx hn y hy => by
    rcases hx with rfl | hx
    · simp at hn
    · simp at hx⟩
/-- One that was found is taken out, and what it leads to is laid in. -/
theorem Srch.step {L : List Pr} {a t : Int} {R todo R' new : List Int} (h : Srch L a R (todo ++ [t])) (hR : ∀ b, b ∈ R' ↔ b ∈ R ∨ b ∈ new) (hn : ∀ b ∈ new, (t, b) ∈ L) (hall : ∀ b, (t, b) ∈ L → b ∈ R') : Srch L a R' (todo ++ new) := by
  have ht := h.here t (by simp)
  have hta : ∀ b ∈ new, TC L a b := fun b hb => by
    rcases ht with rfl | ht
    · exact .one (hn b hb)
    · exact .more (h.sound t ht) (hn b hb)
  refine ⟨fun b hb => ?_, fun x hx => ?_, fun x hx hxn y hy => ?_⟩
  · rcases (hR b).1 hb with hb | hb
    · exact h.sound b hb
    · exact hta b hb
  · rcases List.mem_append.1 hx with hx | hx
    · rcases h.here x (by simp [hx]) with e | e
      · exact .inl e
      · exact .inr ((hR x).2 (.inl e))
    · exact .inr ((hR x).2 (.inr hx))
  · by_cases hxt : x = t
    · subst hxt; exact hall y hy
    · have hxo : x = a ∨ x ∈ R := by
        rcases hx with e | e
        · exact .inl e
        · rcases (hR x).1 e with e | e
          · exact .inr e
          · exact absurd (List.mem_append.2 (.inr e)) hxn
      refine (hR y).2 (.inl (h.done x hxo (fun hx2 => ?_) y hy))
      rcases List.mem_append.1 hx2 with hx2 | hx2
      · exact hxn (List.mem_append.2 (.inl hx2))
      · simp at hx2; exact hxt hx2

open Classical in
/-- Where each has one ahead of it there is a circle. -/
theorem circle_of {L : List Pr} {S : List Int} (h : ∀ x ∈ S, ∃ y ∈ S, (y, x) ∈ L) {x : Int} (hx : x ∈ S) : ∃ z, TC L z z := by
  refine Classical.byContradiction fun hno => ?_
  have hno' : ∀ z, ¬ TC L z z := fun z hz => hno ⟨z, hz⟩
  have key : ∀ (n : Nat) (x : Int), x ∈ S → (S.filter fun z => decide (TC L z x)).length = n → False := by
    intro n
    induction n using Nat.strongRecOn with
    | ind n ih =>
      intro x hx hn
      obtain ⟨y, hy, hyx⟩ := h x hx
      refine ih _ ?_ y hy rfl
      rw [← hn]
      have hsub : (S.filter fun z => decide (TC L z y)) = (S.filter fun z => decide (TC L z x)).filter fun z => decide (TC L z y) := by
        rw [List.filter_filter]
        refine List.filter_congr fun z _ => ?_
        by_cases hz : TC L z y
        · simp [hz, TC.more hz hyx]
        · simp [hz]
      rw [hsub]
      refine List.length_filter_lt_length_iff_exists.2 ⟨y, ?_, by simp [hno' y]⟩
      simp [hy, TC.one hyx]
  exact key _ x hx rfl

/-- How many pairs that have not gone end in b. -/
def inN (L G : List Pr) (b : Int) : Nat := (L.filter fun p => decide (p.2 = b) && !decide (p ∈ G)).length
theorem inN_zero {L G : List Pr} {b : Int} : inN L G b = 0 ↔ ∀ x, (x, b) ∈ L → (x, b) ∈ G := by
  unfold inN
  rw [List.length_eq_zero_iff, List.filter_eq_nil_iff]
  constructor
  · intro h x hx
    have := h _ hx
    simpa using this
  · intro h p hp
    obtain ⟨x, y⟩ := p
    by_cases hy : y = b
    · subst hy; simp [h x hp]
    · simp [hy]
theorem inN_other {L G : List Pr} {a b c : Int} (h : c ≠ b) : inN L (G ++ [(a, b)]) c = inN L G c := by
  unfold inN
  congr 1
  refine List.filter_congr fun p _ => ?_
  by_cases hp : p.2 = c
  · have : p ≠ (a, b) := fun e => h (by rw [← hp, e])
    simp [hp, this]
  · simp [hp]
theorem filter_one {L : List Pr} (hL : L.Nodup) {q : Pr} (f : Pr → Bool) (hq : q ∈ L) (hf : f q = true) : (L.filter fun p => f p && !decide (p = q)).length + 1 = (L.filter f).length := by
  induction L with
  | nil => simp at hq
  | cons r L ih =>
    have hn := List.nodup_cons.1 hL
    by_cases hr : r = q
    · subst hr
      have e : (L.filter fun p => f p && !decide (p = r)) = L.filter f := List.filter_congr fun p hp => by
        have : p ≠ r := fun e => hn.1 (e ▸ hp)
        simp [this]
      rw [List.filter_cons, List.filter_cons, e]
      simp [hf]
    · have hq' : q ∈ L := by
        rcases List.mem_cons.1 hq with e | e
        · exact absurd e.symm hr
        · exact e
      have := ih hn.2 hq'
      rw [List.filter_cons, List.filter_cons]
      cases hfr : f r
      · simpa [hr] using this
      · simp [hr]; omega
theorem inN_same {L G : List Pr} (hL : L.Nodup) {a b : Int} (h : (a, b) ∈ L) (hg : (a, b) ∉ G) : inN L (G ++ [(a, b)]) b + 1 = inN L G b := by
  unfold inN
  rw [← filter_one hL (fun p => decide (p.2 = b) && !decide (p ∈ G)) h (by simp [hg])]
  congr 2
  refine List.filter_congr fun p _ => ?_
  by_cases h1 : p ∈ G <;> by_cases h2 : p = (a, b) <;> simp [h1, h2]

theorem nodup_len : ∀ {L G : List Pr}, L.Nodup → (∀ p ∈ L, p ∈ G) → L.length ≤ G.length
  | [], _, _, _ => Nat.zero_le _
  | p :: L, G, hn, hs => by
    have hn' := List.nodup_cons.1 hn
    have hp := hs p (by simp)
    have h1 := nodup_len (L := L) (G := G.erase p) hn'.2 (fun q hq => (List.mem_erase_of_ne (fun (e : q = p) => hn'.1 (e ▸ hq))).2 (hs q (by simp [hq])))
    rw [List.length_erase_of_mem hp] at h1
    have := List.length_pos_of_mem hp
    simp
    omega

/-- The pairs of those that have none ahead of them taken out, again and again. -/
structure Kahn (L : List Pr) (D : List Int) (G : List Pr) (free : List Int) : Prop where
  gsub : ∀ p ∈ G, p ∈ L ∧ p.1 ∈ D
  gonce : G.Nodup
  pre : ∀ u, u ∈ free ∨ u ∈ D → ∀ x, (x, u) ∈ L → (x, u) ∈ G
  zero : ∀ u, (∃ y, (u, y) ∈ L) → (∀ x, (x, u) ∈ L → (x, u) ∈ G) → u ∈ free ∨ u ∈ D
  rank : ∀ (i : Nat) (u : Int), D[i]? = some u → ∀ x, (x, u) ∈ L → x ∈ D.take i
  apart : ∀ u ∈ free, u ∉ D
  fonce : free.Nodup
theorem Kahn.lay {L : List Pr} {D : List Int} {G : List Pr} {free : List Int} (h : Kahn L D G free) {a b : Int} (ha : a ∈ D) (hab : (a, b) ∈ L) (hg : (a, b) ∉ G) :
    Kahn L D (G ++ [(a, b)]) (if inN L (G ++ [(a, b)]) b = 0 then free ++ [b] else free) := by
  have hbn : ¬ (b ∈ free ∨ b ∈ D) := fun hb => hg (h.pre b hb a hab)
  have hmem : ∀ u, u ∈ (if inN L (G ++ [(a, b)]) b = 0 then free ++ [b] else free) ↔ u ∈ free ∨ (u = b ∧ inN L (G ++ [(a, b)]) b = 0) := fun u => by
    split <;> rename_i e
    · simp [e]
    · simp [e]
  refine ⟨fun p hp => ?_, ?_, fun u hu x hx => ?_, fun u hu hall => ?_, h.rank, fun u hu => ?_, ?_⟩
  · rcases List.mem_append.1 hp with hp | hp
    · exact h.gsub p hp
    · simp at hp; subst hp; exact ⟨hab, ha⟩
  · exact List.nodup_append.2 ⟨h.gonce, by simp, fun p hp q hq => by simp at hq; subst hq; exact fun e => hg (e ▸ hp)⟩
  · rw [hmem] at hu
    rcases hu with (hu | ⟨rfl, h0⟩) | hu
    · exact List.mem_append.2 (.inl (h.pre u (.inl hu) x hx))
    · exact inN_zero.1 h0 x hx
    · exact List.mem_append.2 (.inl (h.pre u (.inr hu) x hx))
  · rw [hmem]
    by_cases hub : u = b
    · exact .inl (.inr ⟨hub, inN_zero.2 (hub ▸ hall)⟩)
    · rcases h.zero u hu (fun x hx => by
        rcases List.mem_append.1 (hall x hx) with e | e
        · exact e
        · simp at e; exact absurd e.2 hub) with e | e
      · exact .inl (.inl e)
      · exact .inr e
  · rw [hmem] at hu
    rcases hu with hu | ⟨rfl, _⟩
    · exact h.apart u hu
    · exact fun hd => hbn (.inr hd)
  · split
    · exact List.nodup_append.2 ⟨h.fonce, by simp, fun p hp q hq => by simp at hq; subst hq; exact fun e => hbn (.inl (e ▸ hp))⟩
    · exact h.fonce
theorem Kahn.pop {L : List Pr} {D : List Int} {G : List Pr} {free : List Int} {a : Int} (h : Kahn L D G (free ++ [a])) : Kahn L (D ++ [a]) G free := by
  have ha := h.apart a (by simp)
  have hf := List.nodup_append.1 h.fonce
  refine ⟨fun p hp => ⟨(h.gsub p hp).1, by simp [(h.gsub p hp).2]⟩, h.gonce, fun u hu => ?_, fun u hu hall => ?_, fun i u hi x hx => ?_, fun u hu => ?_, hf.1⟩
  · refine h.pre u ?_
    rcases hu with hu | hu
    · exact .inl (by simp [hu])
    · rcases List.mem_append.1 hu with hu | hu
      · exact .inr hu
      · exact .inl (by simp at hu; simp [hu])
  · rcases h.zero u hu hall with e | e
    · rcases List.mem_append.1 e with e | e
      · exact .inl e
      · exact .inr (by simp at e; simp [e])
    · exact .inr (by simp [e])
  · by_cases hiD : i < D.length
    · rw [List.getElem?_append_left hiD] at hi
      rw [List.take_append_of_le_length (by omega)]
      exact h.rank i u hi x hx
    · have hi2 : i = D.length := by
        have := (List.getElem?_eq_some_iff.1 hi).1
        simp at this; omega
      subst hi2
      simp at hi
      subst hi
      have := (h.gsub _ (h.pre a (.inl (by simp)) x hx)).2
      simpa using this
  · intro hd
    rcases List.mem_append.1 hd with hd | hd
    · exact h.apart u (by simp [hu]) hd
    · simp at hd
      exact hf.2.2 u hu a (by simp) hd
/-- Behind all: something is left just where there is a circle. -/
theorem Kahn.end_ {L : List Pr} {D : List Int} {G : List Pr} (hL : L.Nodup) (h : Kahn L D G []) (hout : ∀ p ∈ L, p.1 ∈ D → p ∈ G) : G.length < L.length ↔ ∃ z, TC L z z := by
  constructor
  · intro hlt
    obtain ⟨p, hp, hpg⟩ : ∃ p ∈ L, p ∉ G := Classical.byContradiction fun hno => by
      have hsub : ∀ p ∈ L, p ∈ G := fun p hp => Classical.byContradiction fun hg => hno ⟨p, hp, hg⟩
      have := nodup_len hL hsub
      omega
    have hpD : p.1 ∉ D := fun e => hpg (hout p hp e)
    refine circle_of (S := (L.map (·.1)).filter fun x => !decide (x ∈ D)) (x := p.1) (fun x hx => ?_) (by simp [hpD]; exact ⟨_, hp⟩)
    have hx' : (∃ y, (x, y) ∈ L) ∧ x ∉ D := by simpa using hx
    have hnz : ¬ ∀ y, (y, x) ∈ L → (y, x) ∈ G := fun hall => by
      rcases h.zero x hx'.1 hall with e | e
      · simp at e
      · exact hx'.2 e
    obtain ⟨y, hy, hyg⟩ : ∃ y, (y, x) ∈ L ∧ (y, x) ∉ G := Classical.byContradiction fun hno => hnz fun y hy => Classical.byContradiction fun hg => hno ⟨y, hy, hg⟩
    have hyD : y ∉ D := fun e => hyg (hout (y, x) hy e)
    exact ⟨y, by simp [hyD]; exact ⟨x, hy⟩, hy⟩
  · rintro ⟨z, hz⟩
    refine Classical.byContradiction fun hge => ?_
    have hlen : L.length ≤ G.length := by omega
    have hall : ∀ p ∈ L, p ∈ G := fun p hp => Classical.byContradiction fun hg => by
      have h1 : (p :: G).Nodup := List.nodup_cons.2 ⟨hg, h.gonce⟩
      have h2 := nodup_len h1 (G := L) (fun q hq => by
        rcases List.mem_cons.1 hq with e | e
        · subst e; exact hp
        · exact (h.gsub q e).1)
      simp at h2; omega
    have hinD : ∀ {x y : Int}, (x, y) ∈ L → x ∈ D := fun hxy => (h.gsub _ (hall _ hxy)).2
    have rank : ∀ {x y : Int}, TC L x y → ∀ j : Nat, D[j]? = some y → ∃ i : Nat, i < j ∧ D[i]? = some x := by
      intro x y hxy
      have edge : ∀ {x y : Int}, (x, y) ∈ L → ∀ j : Nat, D[j]? = some y → ∃ i : Nat, i < j ∧ D[i]? = some x := fun {x y} hxy j hj => by
        obtain ⟨i, hi⟩ := List.mem_iff_getElem?.1 (h.rank j y hj x hxy)
        have hij : i < j := by
          have := (List.getElem?_eq_some_iff.1 hi).1
          simp at this; omega
        rw [List.getElem?_take_of_lt hij] at hi
        exact ⟨i, hij, hi⟩
      induction hxy with
      | one h1 => exact edge h1
      | more _ h1 ih =>
        intro j hj
        obtain ⟨i, hi, hib⟩ := edge h1 j hj
        obtain ⟨i2, hi2, h2⟩ := ih i hib
        exact ⟨i2, by omega, h2⟩
    obtain ⟨c, hc⟩ := hz.head
    have noc : ∀ (n : Nat), D[n]? = some z → False := by
      intro n
      induction n using Nat.strongRecOn with
      | ind n ih =>
        intro hn
        obtain ⟨i, hi, hiz⟩ := rank hz n hn
        exact ih i hi hiz
    obtain ⟨n, hn⟩ := List.mem_iff_getElem?.1 (hinD hc)
    exact noc n hn
end Go.Proofs.Ytadlgkakjaecdaa
