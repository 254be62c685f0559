/- What the way round tells (plain). -/
import Derived.Test.YthgkloapnihpaaaLj
namespace Go.Proofs.Ythgkloapnihpaaa
open Go.RowKit Go.Maps Go.WideMaps Go.WideElems Go.ChangeShapes Go.WideShapes
open Classical

section
variable {R : Int → Int → Prop} {s : Int} {O : Int → List Int}
theorem pick_ex {l : List Int} {k : Nat} {b : Int} (hb : b ∈ l) (hd : Dst R s b k) : ∃ x, pickD R s l k = some x ∧ x ∈ l ∧ Dst R s x k := by
  cases h : pickD R s l k with
  | none =>
    have := List.find?_eq_none.1 h b hb
    simp at this
    exact absurd hd this
  | some x =>
    have h1 := List.find?_some h
    have h2 := List.mem_of_find?_eq_some h
    exact ⟨x, rfl, h2, of_decide_eq_true h1⟩
/-- Each leads to the next, the last to the first, and each is one step nearer. -/
theorem way_chain (hO : ∀ a b, b ∈ O a ↔ R a b) : ∀ (k : Nat) (a : Int), Near R s a k → (∀ i, i < k → R ((a :: wayZ R s O k a).getD i 0) ((a :: wayZ R s O k a).getD (i + 1) 0)) ∧ R ((a :: wayZ R s O k a).getD k 0) s ∧ ∀ i, i < k → Dst R s ((a :: wayZ R s O k a).getD (i + 1) 0) (k - i)
  | 0, a, h => by
    obtain ⟨⟨b, h1, h2⟩, -⟩ := h
    have h3 := dst_zero.1 h2
    subst h3
    exact ⟨fun i hi => absurd hi (by omega), h1, fun i hi => absurd hi (by omega)⟩
  | k + 1, a, h => by
    obtain ⟨⟨b, h1, h2⟩, -⟩ := h
    obtain ⟨x, e, h3, h4⟩ := pick_ex ((hO a b).2 h1) h2
    obtain ⟨k1, k2, k3⟩ := way_chain hO k x (near_next h4)
    have hw : wayZ R s O (k + 1) a = x :: wayZ R s O k x := by
      show (pickD R s (O a) (k + 1)).getD a :: wayZ R s O k ((pickD R s (O a) (k + 1)).getD a) = _
      rw [e]
      rfl
    rw [hw]
    refine ⟨fun i hi => ?_, by simpa using k2, fun i hi => ?_⟩
    · cases i with
      | zero => exact (hO a x).1 h3
      | succ i => simpa using k1 i (by omega)
    · cases i with
      | zero => simpa using h4
      | succ i =>
        have := k3 i (by omega)
        rw [show k + 1 - (i + 1) = k - i from by omega]
        simpa using this
/-- The way round. -/
structure Round (R : Int → Int → Prop) (s : Int) (T : Nat) (c : List Int) : Prop where
  len : c.length = T + 1
  head : c.getD 0 0 = s
  next : ∀ i, i < T → R (c.getD i 0) (c.getD (i + 1) 0)
  back : R (c.getD T 0) s
  far : ∀ i, i < T → Dst R s (c.getD (i + 1) 0) (T - i)
  near : Near R s s T
theorem round_of (hO : ∀ a b, b ∈ O a ↔ R a b) {T : Nat} (h : Near R s s T) : Round R s T (s :: wayZ R s O T s) := by
  obtain ⟨h1, h2, h3⟩ := way_chain hO T s h
  exact ⟨by rw [List.length_cons, wayZ_len], rfl, h1, h2, h3, h⟩
variable {T : Nat} {c : List Int}
theorem Round.step (h : Round R s T c) {i : Nat} (hi : i < T + 1) : R (c.getD i 0) (c.getD ((i + 1) % (T + 1)) 0) := by
  by_cases e : i = T
  · subst e
    rw [Nat.mod_self, h.head]
    exact h.back
  · rw [Nat.mod_eq_of_lt (by omega)]
    exact h.next i (by omega)
theorem Round.dst (h : Round R s T c) {i : Nat} (hi : i < T + 1) : Dst R s (c.getD i 0) (if i = 0 then 0 else T + 1 - i) := by
  cases i with
  | zero => rw [h.head]; exact dst_self R s
  | succ i =>
    rw [if_neg (by omega), show T + 1 - (i + 1) = T - i from by omega]
    exact h.far i (by omega)
theorem Round.once (h : Round R s T c) {i j : Nat} (hi : i < T + 1) (hj : j < i) : c.getD j 0 ≠ c.getD i 0 := fun e => by
  have h1 := h.dst hi
  have h2 := h.dst (i := j) (by omega)
  rw [e] at h2
  have h3 := h1.same h2
  rw [if_neg (by omega)] at h3
  split at h3 <;> omega
theorem Round.place (h : Round R s T c) {i : Nat} (hi : i < T + 1) : placeZ c (c.getD i 0) = (i : Int) :=
  placeZ_at (by rw [h.len]; exact hi) rfl fun j hj => h.once hi hj
theorem Round.leads (h : Round R s T c) : ∀ {i : Nat}, i < T + 1 → Leads R s (c.getD i 0)
  | 0, _ => by rw [h.head]; exact .refl s
  | i + 1, hi => (h.leads (i := i) (by omega)).trans (.one (h.next i (by omega)))
theorem Round.mutual (h : Round R s T c) {i : Nat} (hi : i < T + 1) : Mutual R s (c.getD i 0) := ⟨h.leads hi, steps_leads (h.dst hi).1⟩
theorem Round.inN {N : List Int} (hin : ∀ a b, R a b → a ∈ N ∧ b ∈ N) (h : Round R s T c) {i : Nat} (hi : i < T + 1) : c.getD i 0 ∈ N := (hin _ _ (h.step hi)).1
/-- So many steps on from s. -/
def Fwd (R : Int → Int → Prop) (s : Int) : Nat → Int → Prop
  | 0, x => x = s
  | k + 1, x => ∃ a, Fwd R s k a ∧ R a x
theorem fwd_steps : ∀ {k : Nat} {x : Int} {n : Nat}, Fwd R s k x → Steps R s n x → Steps R s (k + n) s
  | 0, x, n, h, hs => by
    have h1 : x = s := h
    subst h1
    rw [Nat.zero_add]
    exact hs
  | k + 1, x, n, ⟨a, h1, h2⟩, hs => by
    have := fwd_steps h1 (.next h2 hs)
    rw [show k + 1 + n = k + (n + 1) from by omega]
    exact this
theorem steps_fwd {n : Nat} {a : Int} (h : Steps R s n a) : ∀ {j : Nat}, Fwd R s j a → Fwd R s (j + n) s := by
  induction h with
  | zero => exact fun h => h
  | next hab _ ih =>
    intro j hj
    rw [show ∀ n, j + (n + 1) = j + 1 + n from fun n => by omega]
    exact ih ⟨_, hj, hab⟩
theorem fwd_iff {k : Nat} : Fwd R s k s ↔ Steps R s k s :=
  ⟨fun h => fwd_steps (n := 0) h .zero, fun h => by have := steps_fwd h (j := 0) rfl; rwa [Nat.zero_add] at this⟩
/-- Behind so many steps it is met from itself, and behind fewer it is not. -/
theorem Round.met (h : Round R s T c) {k : Nat} (h1 : 1 ≤ k) (h2 : k ≤ T + 1) : Fwd R s k s ↔ k = T + 1 := by
  rw [fwd_iff]
  constructor
  · intro hs
    obtain ⟨n, rfl⟩ : ∃ n, k = n + 1 := ⟨k - 1, by omega⟩
    obtain ⟨b, h3, h4⟩ := steps_one hs
    obtain ⟨m, h5, h6⟩ := dst_ex n h4
    have := h.near.2 b m h3 h6
    omega
  · rintro rfl
    obtain ⟨⟨b, h3, h4⟩, -⟩ := h.near
    exact .next h3 h4.1
end
theorem leads_last {R : Int → Int → Prop} {a b : Int} (h : Leads R a b) : a = b ∨ ∃ y, R y b := by
  induction h with
  | refl => exact .inl rfl
  | step h1 _ ih =>
    rcases ih with rfl | h2
    · exact .inr ⟨_, h1⟩
    · exact .inr h2
theorem tcr_last {R : Int → Int → Prop} {a b : Int} (h : TCR R a b) : ∃ y, R y b := by
  obtain ⟨c, h1, h2⟩ := h
  rcases leads_last h2 with rfl | h3
  · exact ⟨_, h1⟩
  · exact h3
theorem startZ_at {R : Int → Int → Prop} {N : List Int} {s : Int} (h : startZ R N = some s) : ∃ p, p < N.length ∧ N.getD p 0 = s ∧ TCR R s s ∧ ∀ j, j < p → ¬ TCR R (N.getD j 0) (N.getD j 0) := by
  unfold startZ at h
  obtain ⟨h1, l1, l2, h2, h3⟩ := List.find?_eq_some_iff_append.1 h
  refine ⟨l1.length, by rw [h2]; simp, by rw [h2]; simp, of_decide_eq_true h1, fun j hj => ?_⟩
  have h4 := h3 (N.getD j 0) (by rw [h2, List.getD_eq_getElem?_getD, List.getElem?_append_left hj, List.getElem?_eq_getElem hj]; exact List.getElem_mem hj)
  simpa using h4
section
variable {g c : Nat} {N : List Int} {E : List Ed} {W : World}
theorem Gr.reach (h : Gr g c N E W) (hc : c ≤ 100000) (hN : N.length ≤ 500) (a : Int) (ha : fit64 a) : Calls Try.prog 24 #[.pointer (some ⟨g, 0, none⟩), iv a] W fun e w' => ∃ p c r, e = .returned (.slice p (r : List Int).length c) ∧ Hid (SlI w' p r ∧ r.length ≤ 500 ∧ RiseI r ∧ (∀ z, z ∈ r ↔ TCR (EdR E) a z) ∧ Below W.heap.size W w') := by
  have hf := h.facts
  obtain ⟨Z, B, h⟩ := h
  refine (reach_p a ha hc hN W h).mono ?_
  rintro e w' ⟨v, r, rfl, K⟩
  obtain ⟨k1, k2, k3, k4⟩ := K.out
  obtain ⟨p, c, rfl, hs⟩ := k1.sl
  refine ⟨p, c, r, rfl, hs, ?_, k2, k3, k4⟩
  have hsub : ∀ z ∈ r, z ∈ N := fun z hz => by
    rcases tcr_last ((k3 z).1 hz) with ⟨y, hy⟩
    exact (hf.2.1 _ _ hy).2
  exact Nat.le_trans (len_le (k2.imp fun h => by omega) hsub) hN
theorem Gr.out (h : Gr g c N E W) (hc : c ≤ 100000) (a : Int) (ha : fit64 a) : Calls Try.prog 20 #[.pointer (some ⟨g, 0, none⟩), iv a] W fun e w' => ∃ p c, e = .returned (.slice p (outsE N E a).length c) ∧ Hid (IntsO w' W.heap.size (.slice p (outsE N E a).length c) (outsE N E a) ∧ Below W.heap.size W w') := by
  obtain ⟨Z, B, h⟩ := h
  refine (out_any a ha hc W h).mono ?_
  rintro e w' ⟨v, rfl, K⟩
  have h1 := intsO_row K.out.1
  obtain ⟨p, c, rfl, -⟩ := h1.sl
  exact ⟨p, c, rfl, h1, K.out.2⟩
theorem Gr.parts (h : Gr g c N E W) (hc : c ≤ 100000) (hN : N.length ≤ 500) : Calls Try.prog 30 #[.pointer (some ⟨g, 0, none⟩)] W fun e w' => ∃ p n c ps, e = .returned (.slice p n c) ∧ Hid (PtsAt W.heap.size (.slice p n c) ps w' ∧ ps.length = n ∧ n ≤ 500 ∧ ps.map (·.2) = partsOf (EdR E) N ∧ Below W.heap.size W w') := by
  obtain ⟨Z, B, h⟩ := h
  refine (parts_p hc hN W h).mono ?_
  rintro e w' ⟨v, ps, rfl, K⟩
  obtain ⟨k1, k2, k3⟩ := K.out
  obtain ⟨p, c, rfl⟩ := row_sl k1.row
  refine ⟨p, _, c, ps, rfl, k1, rfl, ?_, k2, k3⟩
  have h1 := congrArg List.length k2
  have h2 : (reps (EdR E) N).length ≤ N.length := List.length_filter_le _ _
  unfold partsOf at h1
  rw [List.length_map, List.length_map] at h1
  omega
theorem Gr.cycR (h : Gr g c N E W) (hc : c ≤ 100000) (hN : N.length ≤ 500) {s : Int} (ht : startZ (EdR E) N = some s) : Calls Try.prog 26 #[.pointer (some ⟨g, 0, none⟩)] W fun e w' => ∃ p T l c, e = .returned (.slice p (T + 1) c) ∧ Hid (SlI w' p l ∧ Round (EdR E) s T l ∧ T ≤ 500 ∧ Below W.heap.size W w') := by
  have hf := h.facts
  obtain ⟨Z, B, h⟩ := h
  refine (cycle_p hc hN W h).mono ?_
  rintro e w' ⟨v, l, rfl, K⟩
  obtain ⟨k1, k2, k3⟩ := K.out
  rcases k2 with ⟨h1, -⟩ | ⟨s', L, h2, h3, h4⟩
  · rw [h1] at ht; cases ht
  · rw [ht] at h2
    cases h2
    have hr := round_of (fun a b => mem_outsE hf.2.1) h3
    rw [← h4] at hr
    obtain ⟨p, c, rfl, hs⟩ := k1.sl
    have hl := hr.len
    refine ⟨p, L, l, c, by rw [hl], hs, hr, ?_, k3⟩
    have hnd : l.Nodup := List.pairwise_iff_getElem.2 fun i j hi hj hij e => by
      refine hr.once (i := j) (j := i) (by omega) hij ?_
      rw [List.getD_eq_getElem?_getD, List.getElem?_eq_getElem hi, List.getD_eq_getElem?_getD, List.getElem?_eq_getElem hj]
      exact e
    have hsub : ∀ x ∈ l, x ∈ N := fun x hx => by
      obtain ⟨i, hi, rfl⟩ := List.mem_iff_getElem.1 hx
      have := hr.inN hf.2.1 (i := i) (by omega)
      rwa [List.getD_eq_getElem?_getD, List.getElem?_eq_getElem hi] at this
    have := len_le hnd hsub
    omega
end
end Go.Proofs.Ythgkloapnihpaaa
