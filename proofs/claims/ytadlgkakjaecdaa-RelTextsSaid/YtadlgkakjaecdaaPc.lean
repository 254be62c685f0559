/- Plainly: what the document's search reaches; its closure. -/
import Derived.Test.YtadlgkakjaecdaaPi
namespace Go.Proofs.Ytadlgkakjaecdaa
theorem putI_in {x : Int} : ∀ {l : List Int}, RiseI l → x ∈ l → putI l x = l
  | [], _, h => by simp at h
  | y :: l, hr, h => by
    have h' := List.pairwise_cons.1 hr
    rw [putI_cons]
    rcases List.mem_cons.1 h with e | e
    · subst e; simp
    · have h1 := h'.1 x e
      rw [if_pos h1, putI_in h'.2 e]
theorem putI_out {x : Int} : ∀ {l : List Int}, x ∉ l → (putI l x).length = l.length + 1
  | [], _ => by simp [putI]
  | y :: l, h => by
    have h1 : x ≠ y := fun e => h (by simp [e])
    have h2 : x ∉ l := fun e => h (by simp [e])
    rw [putI_cons]
    split
    · simp [putI_out h2]
    · rw [if_neg (fun e => h1 e.symm)]; simp
/-- The search: what has been found, in two orders; of the first k all that leads on is found. -/
structure Rch (L : List Pr) (a : Int) (k : Nat) (out D : List Int) : Prop where
  rise : RiseI out
  sound : ∀ z ∈ out, TC L a z
  same : ∀ z, z ∈ D ↔ z ∈ out
  len : D.length = out.length
  closed : ∀ t ∈ (a :: D).take k, ∀ z, (t, z) ∈ L → z ∈ out
theorem Rch.start (L : List Pr) (a : Int) : Rch L a 0 [] [] := ⟨List.Pairwise.nil, by simp, by simp, rfl, by simp⟩
theorem Rch.next {L : List Pr} {a : Int} {k : Nat} {out D : List Int} (h : Rch L a k out D) (hk : k < (a :: D).length) (hall : ∀ z, ((a :: D).getD k 0, z) ∈ L → z ∈ out) : Rch L a (k + 1) out D := by
  refine ⟨h.rise, h.sound, h.same, h.len, fun t ht => ?_⟩
  rw [List.take_add_one, List.getElem?_eq_getElem hk] at ht
  rcases List.mem_append.1 ht with e | e
  · exact h.closed t e
  · have e2 : t = (a :: D).getD k 0 := by
      rw [List.getD_eq_getElem?_getD, List.getElem?_eq_getElem hk]
      simpa using e
    rw [e2]
    exact hall
theorem Rch.put {L : List Pr} {a : Int} {k : Nat} {out D : List Int} (h : Rch L a k out D) (hk : k ≤ (a :: D).length) {t z : Int} (ht : t ∈ a :: D) (hz : (t, z) ∈ L) (hn : z ∉ out) : Rch L a k (putI out z) (D ++ [z]) := by
  have htz : TC L a z := by
    rcases List.mem_cons.1 ht with e | e
    · subst e; exact .one hz
    · exact .more (h.sound t ((h.same t).1 e)) hz
  refine ⟨rise_putI z h.rise, fun y hy => ?_, fun y => ?_, by rw [List.length_append, h.len, putI_out hn]; rfl, fun y hy y' hy' => ?_⟩
  · rcases mem_putI.1 hy with e | e
    · subst e; exact htz
    · exact h.sound y e
  · rw [List.mem_append, mem_putI, h.same, List.mem_singleton]
    exact Or.comm
  · have e : (a :: (D ++ [z])).take k = (a :: D).take k := by
      rw [← List.cons_append, List.take_append_of_le_length hk]
    rw [e] at hy
    exact mem_putI.2 (.inr (h.closed y hy y' hy'))
theorem Rch.stop {L : List Pr} {a : Int} {k : Nat} {out D : List Int} (h : Rch L a k out D) (hk : (a :: D).length ≤ k) : ∀ z, z ∈ out ↔ TC L a z := fun z => by
  refine ⟨h.sound z, fun ht => ?_⟩
  have hc := h.closed
  rw [List.take_of_length_le hk] at hc
  induction ht with
  | one h1 => exact hc _ (by simp) _ h1
  | more _ h1 ih => exact hc _ (List.mem_cons_of_mem _ ((h.same _).2 ih)) _ h1
theorem Rch.bound {L : List Pr} {a : Int} {k : Nat} {out D : List Int} (h : Rch L a k out D) : out.length ≤ L.length := by
  have h1 := nodupI_len (L := out) (G := L.map (·.2)) (riseI_nodup h.rise) (fun z hz => by
    obtain ⟨c, hc⟩ := (h.sound z hz).last
    exact List.mem_map.2 ⟨_, hc, rfl⟩)
  simpa using h1
/-- The closure so far: of the first i pairs' firsts all that they lead to. -/
structure Cls (l : List Pr) (i : Nat) (out : List Pr) : Prop where
  rise : RiseP out
  mem : ∀ p, p ∈ out ↔ (∃ q ∈ l.take i, q.1 = p.1) ∧ TC l p.1 p.2
theorem Cls.start (l : List Pr) : Cls l 0 [] := ⟨List.Pairwise.nil, by simp⟩
theorem take_one {l : List Pr} {i : Nat} (hi : i < l.length) : l.take (i + 1) = l.take i ++ [l.getD i (0, 0)] := by
  rw [List.take_add_one, List.getElem?_eq_getElem hi, List.getD_eq_getElem?_getD, List.getElem?_eq_getElem hi]
  rfl
theorem Cls.skip {l : List Pr} {i : Nat} {out : List Pr} (h : Cls l i out) (h0 : 0 < i) (hi : i < l.length) (he : (l.getD i (0, 0)).1 = (l.getD (i - 1) (0, 0)).1) : Cls l (i + 1) out := by
  refine ⟨h.rise, fun p => ?_⟩
  rw [h.mem p, take_one hi]
  have hm : l.getD (i - 1) (0, 0) ∈ l.take i := by
    obtain ⟨j, rfl⟩ : ∃ j, i = j + 1 := ⟨i - 1, by omega⟩
    rw [take_one (by omega)]
    simp
  constructor
  · rintro ⟨⟨q, hq, e⟩, ht⟩
    exact ⟨⟨q, List.mem_append.2 (.inl hq), e⟩, ht⟩
  · rintro ⟨⟨q, hq, e⟩, ht⟩
    rcases List.mem_append.1 hq with h1 | h1
    · exact ⟨⟨q, h1, e⟩, ht⟩
    · rw [List.mem_singleton] at h1
      subst h1
      exact ⟨⟨_, hm, he ▸ e⟩, ht⟩
/-- Where a pair's first is not that of the pair before, all before are less. -/
theorem firsts_less {l : List Pr} (hl : RiseP l) {i : Nat} (hi : i < l.length) (hne : i = 0 ∨ (l.getD i (0, 0)).1 ≠ (l.getD (i - 1) (0, 0)).1) : ∀ q ∈ l.take i, q.1 < (l.getD i (0, 0)).1 := fun q hq => by
  obtain ⟨j, hj, e⟩ := List.getElem_of_mem hq
  have hj' : j < i := by rw [List.length_take] at hj; omega
  have e' : l[j]'(by omega) = q := by rw [← e, List.getElem_take]
  have hge : ∀ k (h : k < l.length), l.getD k (0, 0) = l[k] := fun k h => by rw [List.getD_eq_getElem?_getD, List.getElem?_eq_getElem h]; rfl
  rcases hne with h0 | hne
  · omega
  rw [hge i hi, hge (i - 1) (by omega)] at hne
  rw [hge i hi]
  have h1 := List.pairwise_iff_getElem.1 hl (i - 1) i (by omega) hi (by omega)
  have h2 : (l[i - 1]'(by omega)).1 < l[i].1 := by
    rcases h1 with h1 | ⟨h1, _⟩
    · exact h1
    · exact absurd h1.symm hne
  by_cases h3 : j = i - 1
  · subst h3; rw [← e']; exact h2
  · have h4 := List.pairwise_iff_getElem.1 hl j (i - 1) (by omega) (by omega) (by omega)
    rw [e'] at h4
    rcases h4 with h4 | ⟨h4, _⟩ <;> omega
theorem Cls.add {l : List Pr} {i : Nat} {out : List Pr} (h : Cls l i out) (hi : i < l.length) {x : Int} (hx : (l.getD i (0, 0)).1 = x) (hless : ∀ q ∈ l.take i, q.1 < x) {to : List Int} (hto : RiseI to) (hm : ∀ z, z ∈ to ↔ TC l x z) : Cls l (i + 1) (out ++ to.map fun z => (x, z)) := by
  refine ⟨List.pairwise_append.2 ⟨h.rise, ?_, fun p hp q hq => ?_⟩, fun p => ?_⟩
  · exact List.pairwise_map.2 (hto.imp fun hab => .inr ⟨rfl, hab⟩)
  · obtain ⟨⟨r, hr, e⟩, _⟩ := (h.mem p).1 hp
    obtain ⟨z, _, rfl⟩ := List.mem_map.1 hq
    have := hless r hr
    exact .inl (by rw [← e]; exact this)
  · rw [List.mem_append, h.mem p, take_one hi]
    constructor
    · rintro (⟨⟨q, hq, e⟩, ht⟩ | hp)
      · exact ⟨⟨q, List.mem_append.2 (.inl hq), e⟩, ht⟩
      · obtain ⟨z, hz, rfl⟩ := List.mem_map.1 hp
        exact ⟨⟨_, List.mem_append.2 (.inr (by simp)), hx⟩, (hm z).1 hz⟩
    · rintro ⟨⟨q, hq, e⟩, ht⟩
      rcases List.mem_append.1 hq with h1 | h1
      · exact .inl ⟨⟨q, h1, e⟩, ht⟩
      · rw [List.mem_singleton] at h1
        subst h1
        have e2 : p.1 = x := by rw [← e, hx]
        exact .inr (List.mem_map.2 ⟨p.2, (hm _).2 (e2 ▸ ht), by rw [← e2]⟩)
theorem Cls.stop {l : List Pr} {out : List Pr} (h : Cls l l.length out) : ∀ p, p ∈ out ↔ TC l p.1 p.2 := fun p => by
  rw [h.mem p, List.take_length]
  refine ⟨fun h => h.2, fun ht => ⟨?_, ht⟩⟩
  obtain ⟨c, hc⟩ := ht.head
  exact ⟨_, hc, rfl⟩
end Go.Proofs.Ytadlgkakjaecdaa
