/- Plainly: what From finds in bytes; a table's words and their codes; operations. -/
import Derived.Test.YtciajjjigigidaaDoorEf
namespace Go.Proofs.YtciajjjigigidaaDoor
open Go.RowKit

/-- The bytes that have been taken are these. -/
structure Sofar (l : List Nat) (s : Nat) (B : List Nat) : Prop where
  le : s ≤ l.length
  eq : l.take s = B
theorem Sofar.more {l : List Nat} {s : Nat} {B : List Nat} (hb : ∀ x ∈ l, x < 256) (h : Sofar l s B) {u m : Nat} (hg : getL 0 0 (l.drop s) = .ok u m) : Sofar l (s + m) (B ++ vb (foldN (unfoldN u))) ∧ fits64 (unfoldN u) := by
  obtain ⟨h1, h2, h3, h4, h5⟩ := get_ok (fun c hc => hb c (List.mem_of_mem_drop hc)) hg
  rw [List.length_drop] at h5
  refine ⟨⟨by have := h.le; omega, ?_⟩, unfold_range u h1⟩
  rw [List.take_add, h.eq, h3, fold_unfold]

theorem fstep_ok {l : List Nat} {st : Except Nat (Ev × Nat)} {p : Nat × Nat} {e' : Ev} {s' : Nat} (h : fstep l st p = .ok (e', s')) :
    ∃ e s, st = .ok (e, s) ∧ ((whenB p.2 e = false ∧ e' = e ∧ s' = s) ∨ (whenB p.2 e = true ∧ ∃ u m, getL 0 0 (l.drop s) = .ok u m ∧ e' = e.put (fcell p.1) (unfoldN u) ∧ s' = s + m)) := by
  cases st with
  | error n => simp [fstep] at h
  | ok x =>
    obtain ⟨e, s⟩ := x
    refine ⟨e, s, rfl, ?_⟩
    unfold fstep at h
    simp only at h
    by_cases hw : whenB p.2 e = true
    · rw [if_pos hw] at h
      right
      refine ⟨hw, ?_⟩
      cases hg : getL 0 0 (l.drop s) with
      | long => rw [hg] at h; cases h
      | endd => rw [hg] at h; cases h
      | ok u m =>
        rw [hg] at h
        simp only at h
        split at h
        · cases h
        · cases h
          exact ⟨u, m, rfl, rfl, rfl⟩
    · rw [if_neg hw] at h
      cases h
      left
      exact ⟨by simpa using hw, rfl, rfl⟩
/-- A part that is always there. -/
theorem fstep_always {l : List Nat} (hb : ∀ x ∈ l, x < 256) {st : Except Nat (Ev × Nat)} {f : Nat} {e' : Ev} {s' : Nat} (h : fstep l st (f, 0) = .ok (e', s')) :
    ∃ e s a, st = .ok (e, s) ∧ e' = e.put (fcell f) a ∧ ∀ B, Sofar l s B → Sofar l s' (B ++ vb (foldN a)) ∧ fits64 a := by
  obtain ⟨e, s, rfl, hh⟩ := fstep_ok h
  rcases hh with ⟨h1, _⟩ | ⟨_, u, m, hg, rfl, rfl⟩
  · cases h1
  · exact ⟨e, s, unfoldN u, rfl, rfl, fun B hB => hB.more hb hg⟩
/-- A part that may be there. -/
theorem fstep_maybe {l : List Nat} (hb : ∀ x ∈ l, x < 256) {st : Except Nat (Ev × Nat)} {f g : Nat} {e' : Ev} {s' : Nat} (h : fstep l st (f, g) = .ok (e', s')) :
    ∃ e s, st = .ok (e, s) ∧ ((whenB g e = false ∧ e' = e ∧ s' = s) ∨ (whenB g e = true ∧ ∃ a, e' = e.put (fcell f) a ∧ ∀ B, Sofar l s B → Sofar l s' (B ++ vb (foldN a)) ∧ fits64 a)) := by
  obtain ⟨e, s, rfl, hh⟩ := fstep_ok h
  refine ⟨e, s, rfl, ?_⟩
  rcases hh with ⟨h1, h2, h3⟩ | ⟨h0, u, m, hg, rfl, rfl⟩
  · exact .inl ⟨h1, h2, h3⟩
  · exact .inr ⟨h0, unfoldN u, rfl, fun B hB => hB.more hb hg⟩

/-- What From's event says of the bytes. -/
structure FromOk (l : List Nat) (e : Ev) (n : Nat) : Prop where
  fits : e.Fits
  valid : validN e = 0
  pos : 1 ≤ n
  le : n ≤ l.length
  bytes : evB e = l.take n

theorem fits_of {e : Ev} (h0 : fits64 e.kind) (h1 : fits64 e.tx) (h2 : fits64 e.thread) (h3 : fits64 e.obj) (h4 : fits64 e.op) (h5 : fits64 e.key) (h6 : fits64 e.val) (h7 : fits64 e.ret) : e.Fits := ⟨fun i hi => by
  rcases i with _ | _ | _ | _ | _ | _ | _ | _ | i
  · exact h0
  · exact h1
  · exact h2
  · exact h3
  · exact h4
  · exact h5
  · exact h6
  · exact h7
  · omega⟩
theorem fits_zero : fits64 0 := ⟨by decide, by decide⟩

theorem evB_1 (a b : Int) : evB ⟨1, a, b, 0, 0, 0, 0, 0⟩ = vb (foldN 1) ++ vb (foldN a) ++ vb (foldN b) := by
  have h : evB ⟨1, a, b, 0, 0, 0, 0, 0⟩ = vb (foldN 1) ++ (vb (foldN a) ++ (vb (foldN b) ++ [])) := rfl
  rw [h]; simp
theorem evB_3 (a r : Int) (h3 : (r == 3) = false) : evB ⟨3, a, 0, 0, 0, 0, 0, r⟩ = vb (foldN 3) ++ vb (foldN a) ++ vb (foldN r) := by
  have h : evB ⟨3, a, 0, 0, 0, 0, 0, r⟩ = vb (foldN 3) ++ (vb (foldN a) ++ (vb (foldN r) ++ ((if (r == 3) = true then vb (foldN 0) else []) ++ []))) := rfl
  rw [h, h3]; simp
theorem evB_3v (a v r : Int) (h3 : (r == 3) = true) : evB ⟨3, a, 0, 0, 0, 0, v, r⟩ = vb (foldN 3) ++ vb (foldN a) ++ vb (foldN r) ++ vb (foldN v) := by
  have h : evB ⟨3, a, 0, 0, 0, 0, v, r⟩ = vb (foldN 3) ++ (vb (foldN a) ++ (vb (foldN r) ++ ((if (r == 3) = true then vb (foldN v) else []) ++ []))) := rfl
  rw [h, h3]; simp
theorem evB_2 (a o p k v : Int) : evB ⟨2, a, 0, o, p, k, v, 0⟩ = vb (foldN 2) ++ vb (foldN a) ++ vb (foldN o) ++ vb (foldN p) ++ (if keyedZ p = true then vb (foldN k) else []) ++ (if valuedZ p = true then vb (foldN v) else []) := by
  have h : evB ⟨2, a, 0, o, p, k, v, 0⟩ = vb (foldN 2) ++ (vb (foldN a) ++ (vb (foldN o) ++ (vb (foldN p) ++ ((if keyedZ p = true then vb (foldN k) else []) ++ ((if valuedZ p = true then vb (foldN v) else []) ++ []))))) := rfl
  rw [h]; simp
theorem partsL_47 {kd : Int} (h : 4 ≤ kd ∧ kd ≤ 7) : partsL kd = [(0, 0)] := partsL_4 h
theorem evB_4 (kd a : Int) (hk : 4 ≤ kd ∧ kd ≤ 7) : evB ⟨kd, a, 0, 0, 0, 0, 0, 0⟩ = vb (foldN kd) ++ vb (foldN a) := by
  unfold evB
  show _ ++ (partsL kd).flatMap _ = _
  rw [partsL_47 hk]
  show _ ++ (vb (foldN a) ++ []) = _
  simp

set_option maxHeartbeats 1000000 in
theorem fold_parts {l : List Nat} (hb : ∀ x ∈ l, x < 256) {kd : Int} (hk : isKind kd = true) (hkf : fits64 kd) {s0 : Nat} (h0 : Sofar l s0 (vb (foldN kd))) {e : Ev} {n : Nat} (h : (partsL kd).foldl (fstep l) (.ok (⟨kd, 0, 0, 0, 0, 0, 0, 0⟩, s0)) = .ok (e, n)) : e.Fits ∧ Sofar l n (evB e) := by
  have hk' : kd = 1 ∨ kd = 2 ∨ kd = 3 ∨ (4 ≤ kd ∧ kd ≤ 7) := by unfold isKind at hk; simp at hk; omega
  have hz := fits_zero
  rcases hk' with rfl | rfl | rfl | hk'
  · change fstep l (fstep l _ (0, 0)) (1, 0) = _ at h
    obtain ⟨e1, s1, b, h1, rfl, g1⟩ := fstep_always hb h
    obtain ⟨e2, s2, a, h2, rfl, g2⟩ := fstep_always hb h1
    cases h2
    have k2 := g2 _ h0
    have k1 := g1 _ k2.1
    exact ⟨fits_of hkf k2.2 k1.2 hz hz hz hz hz, by have := k1.1; rw [← evB_1] at this; exact this⟩
  · change fstep l (fstep l (fstep l (fstep l (fstep l _ (0, 0)) (2, 0)) (3, 0)) (4, 1)) (6, 2) = _ at h
    obtain ⟨e5, s5, h5, g5⟩ := fstep_maybe hb h
    obtain ⟨e4, s4, h4, g4⟩ := fstep_maybe hb h5
    obtain ⟨e3, s3, p, h3, rfl, g3⟩ := fstep_always hb h4
    obtain ⟨e2, s2, o, h2, rfl, g2⟩ := fstep_always hb h3
    obtain ⟨e1, s1, a, h1, rfl, g1⟩ := fstep_always hb h2
    cases h1
    have k1 := g1 _ h0
    have k2 := g2 _ k1.1
    have k3 := g3 _ k2.1
    rcases g4 with ⟨w4, rfl, rfl⟩ | ⟨w4, k, rfl, k4⟩
    · rcases g5 with ⟨w5, rfl, rfl⟩ | ⟨w5, v, rfl, k5⟩
      · have e1 : keyedZ p = false := w4
        have e2 : valuedZ p = false := w5
        refine ⟨fits_of hkf k1.2 hz k2.2 k3.2 hz hz hz, ?_⟩
        have := evB_2 a o p 0 0
        rw [e1, e2] at this
        simp only [Bool.false_eq_true, if_false, List.append_nil] at this
        show Sofar l _ (evB ⟨2, a, 0, o, p, 0, 0, 0⟩)
        rw [this]; exact k3.1
      · have e1 : keyedZ p = false := w4
        have e2 : valuedZ p = true := w5
        have k5 := k5 _ k3.1
        refine ⟨fits_of hkf k1.2 hz k2.2 k3.2 hz k5.2 hz, ?_⟩
        have := evB_2 a o p 0 v
        rw [e1, e2] at this
        simp only [Bool.false_eq_true, if_false, if_true, List.append_nil] at this
        show Sofar l _ (evB ⟨2, a, 0, o, p, 0, v, 0⟩)
        rw [this]; exact k5.1
    · have k4 := k4 _ k3.1
      rcases g5 with ⟨w5, rfl, rfl⟩ | ⟨w5, v, rfl, k5⟩
      · have e1 : keyedZ p = true := w4
        have e2 : valuedZ p = false := w5
        refine ⟨fits_of hkf k1.2 hz k2.2 k3.2 k4.2 hz hz, ?_⟩
        have := evB_2 a o p k 0
        rw [e1, e2] at this
        simp only [Bool.false_eq_true, if_false, if_true, List.append_nil] at this
        show Sofar l _ (evB ⟨2, a, 0, o, p, k, 0, 0⟩)
        rw [this]; exact k4.1
      · have e1 : keyedZ p = true := w4
        have e2 : valuedZ p = true := w5
        have k5 := k5 _ k4.1
        refine ⟨fits_of hkf k1.2 hz k2.2 k3.2 k4.2 k5.2 hz, ?_⟩
        have := evB_2 a o p k v
        rw [e1, e2] at this
        simp only [if_true] at this
        show Sofar l _ (evB ⟨2, a, 0, o, p, k, v, 0⟩)
        rw [this]; exact k5.1
  · change fstep l (fstep l (fstep l _ (0, 0)) (5, 0)) (6, 3) = _ at h
    obtain ⟨e3, s3, h3, g3⟩ := fstep_maybe hb h
    obtain ⟨e2, s2, r, h2, rfl, g2⟩ := fstep_always hb h3
    obtain ⟨e1, s1, a, h1, rfl, g1⟩ := fstep_always hb h2
    cases h1
    have k1 := g1 _ h0
    have k2 := g2 _ k1.1
    rcases g3 with ⟨w3, rfl, rfl⟩ | ⟨w3, v, rfl, k3⟩
    · refine ⟨fits_of hkf k1.2 hz hz hz hz hz k2.2, ?_⟩
      show Sofar l _ (evB ⟨3, a, 0, 0, 0, 0, 0, r⟩)
      rw [evB_3 a r w3]; exact k2.1
    · have k3 := k3 _ k2.1
      refine ⟨fits_of hkf k1.2 hz hz hz hz k3.2 k2.2, ?_⟩
      show Sofar l _ (evB ⟨3, a, 0, 0, 0, 0, v, r⟩)
      rw [evB_3v a v r w3]; exact k3.1
  · rw [partsL_47 hk'] at h
    rw [List.foldl_cons, List.foldl_nil] at h
    obtain ⟨e1, s1, a, h1, rfl, g1⟩ := fstep_always hb h
    cases h1
    have k1 := g1 _ h0
    refine ⟨fits_of hkf k1.2 hz hz hz hz hz hz, ?_⟩
    show Sofar l _ (evB ⟨kd, a, 0, 0, 0, 0, 0, 0⟩)
    rw [evB_4 kd a hk']; exact k1.1
theorem vb_pos (u : Nat) : 1 ≤ (vb u).length := vb_len_pos u
theorem evB_pos (e : Ev) : 1 ≤ (evB e).length := by
  unfold evB
  rw [List.length_append]
  have := vb_len_pos (foldN e.kind)
  omega
theorem from_ok {l : List Nat} (hb : ∀ x ∈ l, x < 256) {e : Ev} {n : Nat} (h : fromR l = .ok (e, n)) : FromOk l e n := by
  unfold fromR at h
  cases hg : getL 0 0 l with
  | long => rw [hg] at h; cases h
  | endd => rw [hg] at h; cases h
  | ok u s0 =>
    rw [hg] at h
    simp only at h
    by_cases hk : isKind (unfoldN u) = true
    · rw [if_pos hk] at h
      have hs : Sofar l s0 (vb (foldN (unfoldN u))) ∧ fits64 (unfoldN u) := by
        have := Sofar.more (s := 0) (B := []) hb ⟨Nat.zero_le _, rfl⟩ (u := u) (m := s0) hg
        simpa using this
      have h1 := (get_ok hb hg).2.2.2.1
      cases hf : (partsL (unfoldN u)).foldl (fstep l) (.ok (⟨unfoldN u, 0, 0, 0, 0, 0, 0, 0⟩, s0)) with
      | error m => rw [hf] at h; cases h
      | ok x =>
        obtain ⟨e', n'⟩ := x
        rw [hf] at h
        simp only at h
        by_cases hv : validN e' = 0
        · rw [if_pos hv] at h
          cases h
          obtain ⟨h2, h3⟩ := fold_parts hb hk hs.2 hs.1 hf
          refine ⟨h2, hv, ?_, h3.le, h3.eq.symm⟩
          have h4 := evB_pos e
          rw [← h3.eq, List.length_take] at h4
          omega
        · rw [if_neg hv] at h; cases h
    · rw [if_neg hk] at h; cases h

/-- A word of a table has its code. -/
theorem code_word : ∀ t : Nat, t < 7 → ∀ c : Nat, c < 10 → (wrow t).getD c [] ≠ [] → firstOf ((wrow t).getD c []) 0 (wrow t) = some c := by decide
theorem wordL_code {t c : Int} (h : wordL t c ≠ []) : ∃ k : Nat, c = k ∧ codeL t (wordL t c) = some k := by
  unfold wordL at h ⊢
  by_cases hr : 0 ≤ t ∧ t < 7 ∧ 0 ≤ c ∧ c < 10
  · rw [if_pos hr] at h ⊢
    refine ⟨c.toNat, by omega, ?_⟩
    unfold codeL
    rw [if_pos ⟨h, hr.1, hr.2.1⟩]
    exact code_word t.toNat (by omega) c.toNat (by omega) h
  · rw [if_neg hr] at h; exact absurd rfl h
theorem firstOf_at {l : List UInt8} : ∀ {xs : List (List UInt8)} {k d : Nat}, firstOf l k xs = some d → k ≤ d ∧ d < k + xs.length ∧ xs.getD (d - k) [] = l
  | [], _, _, h => by cases h
  | x :: xs, k, d, h => by
    unfold firstOf at h
    split at h
    · rename_i hx
      cases h
      simp [hx]
    · obtain ⟨h1, h2, h3⟩ := firstOf_at h
      refine ⟨by omega, by simp; omega, ?_⟩
      obtain ⟨j, hj⟩ : ∃ j, d - k = j + 1 := ⟨d - k - 1, by omega⟩
      rw [hj, List.getD_cons_succ, ← h3]
      congr 1
      omega
theorem codeL_word {t : Int} {l : List UInt8} {d : Nat} (h : codeL t l = some d) : wordL t d = l := by
  unfold codeL at h
  split at h
  · rename_i hr
    obtain ⟨h1, h2, h3⟩ := firstOf_at h
    have hlen := wrow_len t.toNat (by omega)
    unfold wordL
    rw [if_pos ⟨hr.2.1, hr.2.2, by omega, by omega⟩, Int.toNat_natCast]
    simpa using h3
  · cases h
end Go.Proofs.YtciajjjigigidaaDoor
