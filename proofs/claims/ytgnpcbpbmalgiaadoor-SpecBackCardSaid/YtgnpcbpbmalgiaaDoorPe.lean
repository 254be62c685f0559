/- Plainly: what a text tells is a state whose key it is; objects that may be. -/
import Derived.Test.YtgnpcbpbmalgiaaDoorPb
namespace Go.Proofs.YtgnpcbpbmalgiaaDoor
open Go.RowKit

variable {er : Nat → Addr}

theorem fromK_small {key : List UInt8} {u : PS} (h : fromK key = .ok u) : fits64 u.n ∧ u.text.length ≤ key.length := by
  have hd := drop_len key
  cases hc : codeL 1 (headL key) with
  | none =>
    have e : fromK key = .error 0 := by unfold fromK; rw [hc]
    rw [e] at h; cases h
  | some kd =>
    have hk := code_kind hc
    have : kd = 1 ∨ kd = 2 ∨ kd = 3 ∨ kd = 4 := by omega
    rcases this with rfl | rfl | rfl | rfl
    · rw [fromK_1 hc] at h
      split at h
      · cases h
      · rename_i n hn
        split at h
        · rename_i hb
          cases h
          exact ⟨near_fits (of_decide_eq_true hb) (by decide), by show ([] : List UInt8).length ≤ _; simp⟩
        · cases h
    · rw [fromK_2 hc] at h
      split at h
      · cases h
      · rename_i n hn
        split at h
        · rename_i hb
          cases h
          exact ⟨near_fits (of_decide_eq_true hb) (by decide), by show ([] : List UInt8).length ≤ _; simp⟩
        · cases h
    · rw [fromK_3 hc] at h
      split at h
      · cases h
      · rename_i l hl
        split at h
        · cases h
          refine ⟨by show fits64 0; unfold fits64; decide, ?_⟩
          have e : ({ kind := 3, n := 0, vals := l, kvs := [] } : PS).text = key.drop (headL key).length := by rw [text_q hl]; simp [PS.text, mtext]
          rw [e]; exact hd
        · cases h
    · rw [fromK_4 hc] at h
      split at h
      · cases h
      · rename_i l hl
        split at h
        · cases h
          refine ⟨by show fits64 0; unfold fits64; decide, ?_⟩
          have e : ({ kind := 4, n := 0, vals := [], kvs := l } : PS).text = key.drop (headL key).length := by rw [text_m hl]; simp [PS.text, qtext]
          rw [e]; exact hd
        · cases h
/-- A state as New makes it. -/
abbrev objS (k i : Int) : PS := ⟨k, i, [], []⟩
theorem objS_ok {k i : Int} (h : validO k i = true) : (objS k i).Ok 0 := by
  unfold validO at h
  simp only [Bool.and_eq_true, Bool.or_eq_true, beq_iff_eq, Bool.not_eq_true'] at h
  obtain ⟨⟨h1, h2⟩, h3⟩ := h
  have hn : near i 1000000000 := of_decide_eq_true h2
  have hk : 1 ≤ k ∧ k ≤ 4 := by
    have hw : wordL 1 k ≠ [] := by intro e; rw [e] at h1; cases h1
    have h10 : 0 ≤ k ∧ k < 10 := by
      by_cases e : 0 ≤ k ∧ k < 10
      · exact e
      · have : wordL 1 k = [] := by unfold wordL; rw [if_neg (by omega)]
        exact absurd this hw
    have e : wordL 1 k = (wrow 1).getD k.toNat [] := by
      have := wordL_in (t := 1) (c := k.toNat) (by decide) (by omega)
      rw [show ((k.toNat : Nat) : Int) = k by omega] at this
      exact this
    have := obj_kinds k.toNat (by omega) (by rw [← e]; exact hw)
    omega
  unfold near at hn
  exact ⟨hk, fun _ => hn, fun _ => by show near i _; unfold near; omega, fun e => by
    rcases h3 with h3 | h3
    · exact h3
    · have e' : k = 3 ∨ k = 4 := e
      omega, fun _ => rfl, fun _ => rfl, fun p hp => absurd hp (List.not_mem_nil), fun p hp => absurd hp (List.not_mem_nil), List.Pairwise.nil, Nat.le_refl _⟩
theorem ok_tlen {s : PS} {b : Nat} (h : s.Ok b) : s.text.length ≤ 22 * b + 50000 := by
  unfold PS.text
  rw [List.length_append]
  have := ok_qlen h
  have := ok_mlen h
  omega
theorem ok_n {s : PS} {b : Nat} (h : s.Ok b) : fits64 s.n := by
  have hk := h.kind
  by_cases h1 : s.kind = 1
  · exact near_fits (h.reg h1) (by decide)
  by_cases h2 : s.kind = 2
  · exact near_fits (h.cnt h2) (by decide)
  · rw [h.num (by omega)]; unfold fits64; decide
theorem key_len {s : PS} {b : Nat} (hb : b ≤ 1000) (h : s.Ok b) : (keyL s).length ≤ 1000000000 := by
  have h1 := ok_tlen h
  have h2 := wordL_len 1 s.kind
  have h3 := itoa_len s.n (ok_n h).1 (ok_n h).2
  unfold keyL
  split
  · simp; omega
  · simp; omega
theorem key_state {s : PS} {b : Nat} (hb : b ≤ 1000) (h : s.Ok b) (W : World) (hG : Glob 129 er W) : Calls Tryd.prog 10 #[stv s.kind s.n s.text] W fun e w' => e = .returned (tv (keyL s)) ∧ Hid (Below W.heap.size W w') :=
  key_any s.kind s.n (ok_n h) s.text (by have := ok_tlen h; omega) W hG
theorem from_state {s : PS} {b : Nat} (hb : b ≤ 1000) (h : s.Ok b) (W : World) (hG : Glob 129 er W) : Calls Tryd.prog 13 #[tv (keyL s)] W fun e w' => e = .returned (.tuple #[stv s.kind s.n s.text, .nilIface]) ∧ Hid (Below W.heap.size W w') := by
  have h1 := from_any (T := 129) (er := er) (keyL s) (key_len hb h) W hG
  rw [fromK_of h] at h1
  exact h1
end Go.Proofs.YtgnpcbpbmalgiaaDoor
