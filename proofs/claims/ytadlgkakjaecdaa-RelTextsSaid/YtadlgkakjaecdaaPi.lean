/- Numbers that rise, plainly; a number laid in; what stands ahead and behind. -/
import Derived.Test.YtadlgkakjaecdaaPl
namespace Go.Proofs.Ytadlgkakjaecdaa
/-- Numbers that rise. -/
abbrev RiseI (l : List Int) : Prop := l.Pairwise (· < ·)
theorem riseI_ext : ∀ {l m : List Int}, RiseI l → RiseI m → (∀ p, p ∈ l ↔ p ∈ m) → l = m
  | [], [], _, _, _ => rfl
  | [], q :: m, _, _, h => by have := (h q).2 (by simp); simp at this
  | p :: l, [], _, _, h => by have := (h p).1 (by simp); simp at this
  | p :: l, q :: m, hl, hm, h => by
    have hl' := List.pairwise_cons.1 hl
    have hm' := List.pairwise_cons.1 hm
    have e : p = q := by
      have h1 := (h p).1 (by simp)
      have h2 := (h q).2 (by simp)
      rcases List.mem_cons.1 h1 with h1 | h1
      · exact h1
      · rcases List.mem_cons.1 h2 with h2 | h2
        · exact h2.symm
        · have h3 := hm'.1 p h1
          have h4 := hl'.1 q h2
          omega
    subst e
    congr 1
    refine riseI_ext hl'.2 hm'.2 (fun x => ?_)
    have hx := h x
    constructor
    · intro hx1
      rcases List.mem_cons.1 (hx.1 (by simp [hx1])) with e | e
      · subst e; exact absurd (hl'.1 x hx1) (by omega)
      · exact e
    · intro hx1
      rcases List.mem_cons.1 (hx.2 (by simp [hx1])) with e | e
      · subst e; exact absurd (hm'.1 x hx1) (by omega)
      · exact e
theorem riseI_nodup {l : List Int} (h : RiseI l) : l.Nodup := h.imp (fun {a b} hab e => by subst e; omega)
/-- How many at the head are less than a number. -/
def lessN (x : Int) : List Int → Nat
  | [] => 0
  | y :: l => if y < x then lessN x l + 1 else 0
theorem lessN_le (x : Int) : ∀ l, lessN x l ≤ l.length
  | [] => Nat.le_refl _
  | y :: l => by
    unfold lessN
    have := lessN_le x l
    split <;> simp <;> omega
theorem lessN_lt {x : Int} : ∀ {l : List Int} {k : Nat}, k < lessN x l → k < l.length ∧ l.getD k 0 < x
  | [], k, h => by simp [lessN] at h
  | y :: l, k, h => by
    unfold lessN at h
    split at h
    · rename_i hq
      cases k with
      | zero => exact ⟨by simp, by simpa using hq⟩
      | succ k =>
        obtain ⟨h1, h2⟩ := lessN_lt (x := x) (l := l) (k := k) (by omega)
        exact ⟨by simp; omega, by simpa using h2⟩
    · omega
theorem lessN_stop {x : Int} : ∀ {l : List Int}, lessN x l < l.length → ¬ l.getD (lessN x l) 0 < x
  | [], h => by simp at h
  | y :: l, h => by
    by_cases hq : y < x
    · have e : lessN x (y :: l) = lessN x l + 1 := by simp [lessN, hq]
      rw [e] at h ⊢
      have := lessN_stop (x := x) (l := l) (by simp at h; omega)
      simpa using this
    · have e : lessN x (y :: l) = 0 := by simp [lessN, hq]
      rw [e]
      simpa using hq
/-- A number laid into numbers that rise. -/
def putI (l : List Int) (x : Int) : List Int := if lessN x l < l.length ∧ l.getD (lessN x l) 0 = x then l else l.take (lessN x l) ++ x :: l.drop (lessN x l)
theorem putI_cons (y : Int) (l : List Int) (x : Int) : putI (y :: l) x = if y < x then y :: putI l x else if y = x then y :: l else x :: y :: l := by
  by_cases h : y < x
  · have e : lessN x (y :: l) = lessN x l + 1 := by simp [lessN, h]
    unfold putI
    rw [e]
    simp only [h, if_true, List.length_cons, List.getD_cons_succ, List.take_succ_cons, List.drop_succ_cons, Nat.add_lt_add_iff_right]
    split <;> simp
  · have e : lessN x (y :: l) = 0 := by simp [lessN, h]
    unfold putI
    rw [e]
    simp only [h, if_false]
    by_cases h2 : y = x <;> simp [h2]
theorem mem_putI {x z : Int} : ∀ {l : List Int}, z ∈ putI l x ↔ z = x ∨ z ∈ l
  | [] => by simp [putI]
  | y :: l => by
    rw [putI_cons]
    have ih := mem_putI (x := x) (z := z) (l := l)
    split
    · rw [List.mem_cons, ih, List.mem_cons]
      constructor
      · rintro (h | h | h) <;> simp [h]
      · rintro (h | h | h) <;> simp [h]
    · split
      · rename_i h; subst h; simp
      · simp
theorem rise_putI (x : Int) : ∀ {l : List Int}, RiseI l → RiseI (putI l x)
  | [], _ => by simp [putI]
  | y :: l, h => by
    have h' := List.pairwise_cons.1 h
    rw [putI_cons]
    split
    · rename_i h1
      refine List.pairwise_cons.2 ⟨fun z hz => ?_, rise_putI x h'.2⟩
      rcases mem_putI.1 hz with e | e
      · omega
      · exact h'.1 z e
    · split
      · exact h
      · refine List.pairwise_cons.2 ⟨fun z hz => ?_, h⟩
        rcases List.mem_cons.1 hz with e | e
        · omega
        · have := h'.1 z e; omega
theorem nodupI_len : ∀ {L G : List Int}, L.Nodup → (∀ p ∈ L, p ∈ G) → L.length ≤ G.length := fun {L G} h hs => by
  have h1 := nodup_len (L := L.map fun x => (x, x)) (G := G.map fun x => (x, x)) (List.Pairwise.map _ (fun a b hab e => hab (Prod.mk.inj e).1) h) (fun p hp => by
    obtain ⟨x, hx, rfl⟩ := List.mem_map.1 hp
    exact List.mem_map.2 ⟨x, hs x hx, rfl⟩)
  simpa using h1
theorem putI_length (l : List Int) (x : Int) : (putI l x).length ≤ l.length + 1 := by
  unfold putI
  split
  · omega
  · simp; omega
/-- What stands first in a pair with b; second with a: rising. -/
def aheadI (l : List Pr) (b : Int) : List Int := l.foldl (fun o p => if p.2 = b then putI o p.1 else o) []
def behindI (l : List Pr) (a : Int) : List Int := l.foldl (fun o p => if p.1 = a then putI o p.2 else o) []
theorem aheadI_snoc (l : List Pr) (p : Pr) (b : Int) : aheadI (l ++ [p]) b = if p.2 = b then putI (aheadI l b) p.1 else aheadI l b := by simp [aheadI]
theorem behindI_snoc (l : List Pr) (p : Pr) (a : Int) : behindI (l ++ [p]) a = if p.1 = a then putI (behindI l a) p.2 else behindI l a := by simp [behindI]
theorem aheadI_rise (b : Int) : ∀ (l : List Pr) (o : List Int), RiseI o → RiseI (l.foldl (fun o p => if p.2 = b then putI o p.1 else o) o)
  | [], _, h => h
  | p :: l, o, h => by
    rw [List.foldl_cons]
    refine aheadI_rise b l _ ?_
    split
    · exact rise_putI _ h
    · exact h
theorem aheadI_mem (b : Int) (z : Int) : ∀ (l : List Pr) (o : List Int), z ∈ l.foldl (fun o p => if p.2 = b then putI o p.1 else o) o ↔ z ∈ o ∨ (z, b) ∈ l
  | [], _ => by simp
  | (x, y) :: l, o => by
    rw [List.foldl_cons, aheadI_mem b z l]
    simp only [List.mem_cons, Prod.mk.injEq]
    by_cases h : y = b
    · rw [if_pos h, mem_putI, h]
      constructor
      · rintro ((h1 | h1) | h1) <;> simp [h1]
      · rintro (h1 | (⟨h1, _⟩ | h1)) <;> simp [h1]
    · rw [if_neg h]
      have h' : ¬ b = y := fun e => h e.symm
      simp [h']
theorem behindI_rise (a : Int) : ∀ (l : List Pr) (o : List Int), RiseI o → RiseI (l.foldl (fun o p => if p.1 = a then putI o p.2 else o) o)
  | [], _, h => h
  | p :: l, o, h => by
    rw [List.foldl_cons]
    refine behindI_rise a l _ ?_
    split
    · exact rise_putI _ h
    · exact h
theorem behindI_mem (a : Int) (z : Int) : ∀ (l : List Pr) (o : List Int), z ∈ l.foldl (fun o p => if p.1 = a then putI o p.2 else o) o ↔ z ∈ o ∨ (a, z) ∈ l
  | [], _ => by simp
  | (x, y) :: l, o => by
    rw [List.foldl_cons, behindI_mem a z l]
    simp only [List.mem_cons, Prod.mk.injEq]
    by_cases h : x = a
    · rw [if_pos h, mem_putI, h]
      constructor
      · rintro ((h1 | h1) | h1) <;> simp [h1]
      · rintro (h1 | (⟨_, h1⟩ | h1)) <;> simp [h1]
    · rw [if_neg h]
      have h' : ¬ a = x := fun e => h e.symm
      simp [h']
theorem rise_aheadI (l : List Pr) (b : Int) : RiseI (aheadI l b) := aheadI_rise b l [] List.Pairwise.nil
theorem mem_aheadI (l : List Pr) (b z : Int) : z ∈ aheadI l b ↔ (z, b) ∈ l := by
  unfold aheadI
  rw [aheadI_mem]
  simp
theorem rise_behindI (l : List Pr) (a : Int) : RiseI (behindI l a) := behindI_rise a l [] List.Pairwise.nil
theorem mem_behindI (l : List Pr) (a z : Int) : z ∈ behindI l a ↔ (a, z) ∈ l := by
  unfold behindI
  rw [behindI_mem]
  simp
theorem aheadI_len (l : List Pr) (b : Int) : (aheadI l b).length ≤ l.length := by
  have h := nodupI_len (L := aheadI l b) (G := l.map (·.1)) (riseI_nodup (rise_aheadI l b)) (fun z hz => List.mem_map.2 ⟨(z, b), (mem_aheadI l b z).1 hz, rfl⟩)
  simpa using h
theorem behindI_len (l : List Pr) (a : Int) : (behindI l a).length ≤ l.length := by
  have h := nodupI_len (L := behindI l a) (G := l.map (·.2)) (riseI_nodup (rise_behindI l a)) (fun z hz => List.mem_map.2 ⟨(a, z), (mem_behindI l a z).1 hz, rfl⟩)
  simpa using h
end Go.Proofs.Ytadlgkakjaecdaa
