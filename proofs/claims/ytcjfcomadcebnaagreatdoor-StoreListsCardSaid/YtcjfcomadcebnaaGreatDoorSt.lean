/- A state of an object and what an operation does to it, plainly. -/
import Derived.Test.YtcjfcomadcebnaaGreatDoorSv
import Derived.Test.YtcjfcomadcebnaaGreatDoorEw
namespace Go.Proofs.YtcjfcomadcebnaaGreatDoor
open Go.RowKit

/-- A state. -/
structure PS where
  kind : Int
  n : Int
  vals : List Int
  kvs : List (Int × Int)
  deriving DecidableEq
/-- What a queue or a map has, as a text. -/
def PS.text (s : PS) : List UInt8 := qtext s.vals ++ mtext s.kvs
/-- Its value. -/
abbrev PS.agg (s : PS) : Value := .agg #[.int .i64 s.kind, .int .i64 s.n, tv s.text]
abbrev PS.zero : PS := ⟨0, 0, [], []⟩

/-- A number within a bound, either way. -/
def near (n b : Int) : Prop := -b ≤ n ∧ n ≤ b
instance (n b : Int) : Decidable (near n b) := inferInstanceAs (Decidable (_ ∧ _))

/-- What holds of every state. -/
structure PS.Ok (s : PS) (b : Nat) : Prop where
  kind : 1 ≤ s.kind ∧ s.kind ≤ 4
  reg : s.kind = 1 → near s.n 1000000000
  cnt : s.kind = 2 → near s.n 1000000000000000
  num : s.kind = 3 ∨ s.kind = 4 → s.n = 0
  vs : s.kind ≠ 3 → s.vals = []
  ks : s.kind ≠ 4 → s.kvs = []
  vb : ∀ v ∈ s.vals, near v 1000000000
  kb : ∀ p ∈ s.kvs, (0 ≤ p.1 ∧ p.1 ≤ 1000) ∧ near p.2 1000000000
  rises : Rises s.kvs
  len : s.vals.length ≤ b

/-- Whether a call may have that key and that value. -/
def fitsB (op key val : Int) : Bool := decide (0 ≤ key) && decide (key ≤ 1000) && decide (near val 1000000000) && (key == 0 || keyedZ op) && (val == 0 || valuedZ op)
/-- What an operation does: 0 no such operation, 1 no such event; or the next state, the answer and its value. -/
def doR (s : PS) (op key val : Int) : Except Nat (PS × Int × Int) :=
  if ofZ op ≠ s.kind then .error 0
  else if fitsB op key val = false then .error 1
  else if s.kind = 2 ∧ ¬ near (s.n + val) 1000000000000000 then .error 1
  else if op = 1 ∨ op = 4 then .ok (s, 3, s.n)
  else if op = 2 then .ok ({ s with n := val }, 1, 0)
  else if op = 3 then .ok ({ s with n := s.n + val }, 1, 0)
  else if op = 5 then .ok ({ s with vals := s.vals ++ [val] }, 1, 0)
  else if op = 6 then (match s.vals with | [] => .ok (s, 2, 0) | v :: t => .ok ({ s with vals := t }, 3, v))
  else if op = 7 then .ok ({ s with kvs := mput key val s.kvs }, 1, 0)
  else if op = 8 then (match mget key s.kvs with | none => .ok (s, 2, 0) | some v => .ok (s, 3, v))
  else (match mget key s.kvs with | none => .ok (s, 2, 0) | some v => .ok ({ s with kvs := mdel key s.kvs }, 3, v))

theorem mdel_none {k : Int} : ∀ {l : List (Int × Int)}, mget k l = none → mdel k l = l
  | [], _ => rfl
  | (a, v) :: t, h => by
    unfold mget at h
    unfold mdel
    split at h
    · rename_i h1; rw [if_pos h1, mdel_none h]
    · rename_i h1
      rw [if_neg h1]
      split at h
      · cases h
      · rename_i h2; rw [if_neg h2]

/-- The kind of object that an operation is of. -/
theorem of_kinds (op : Int) : (ofZ op = 1 → op = 1 ∨ op = 2) ∧ (ofZ op = 2 → op = 3 ∨ op = 4) ∧ (ofZ op = 3 → op = 5 ∨ op = 6) ∧ (ofZ op = 4 → op = 7 ∨ op = 8 ∨ op = 9) := by
  unfold ofZ
  refine ⟨?_, ?_, ?_, ?_⟩
  all_goals
    intro h
    split at h
    · first | assumption | (exfalso; revert h; decide)
    split at h
    · first | assumption | (exfalso; revert h; decide)
    split at h
    · first | assumption | (exfalso; revert h; decide)
    split at h
    · first | assumption | (exfalso; revert h; decide)
    · exfalso; revert h; decide

theorem PS.Ok.next {s : PS} {b : Nat} (h : s.Ok b) {op key val : Int} {t : PS} {r g : Int} (hd : doR s op key val = .ok (t, r, g)) : t.Ok (b + 1) ∧ t.kind = s.kind := by
  unfold doR at hd
  split at hd
  · cases hd
  rename_i h1
  have h1 : ofZ op = s.kind := by simpa using h1
  split at hd
  · cases hd
  rename_i h2
  have hf : fitsB op key val = true := by simpa using h2
  simp only [fitsB, Bool.and_eq_true, decide_eq_true_eq] at hf
  split at hd
  · cases hd
  rename_i h3
  have hself : s.Ok (b + 1) := ⟨h.kind, h.reg, h.cnt, h.num, h.vs, h.ks, h.vb, h.kb, h.rises, Nat.le_succ_of_le h.len⟩
  obtain ⟨k1, k2, k3, k4⟩ := of_kinds op
  split at hd
  · cases hd; exact ⟨hself, rfl⟩
  split at hd
  · rename_i h5
    cases hd
    subst h5
    have hk : s.kind = 1 := h1.symm
    exact ⟨⟨h.kind, fun _ => hf.1.1.2, fun e => by simp [hk] at e, fun e => by simp [hk] at e, h.vs, h.ks, h.vb, h.kb, h.rises, Nat.le_succ_of_le h.len⟩, rfl⟩
  split at hd
  · rename_i h5
    cases hd
    subst h5
    have hk : s.kind = 2 := h1.symm
    refine ⟨⟨h.kind, fun e => by simp [hk] at e, fun _ => ?_, fun e => by simp [hk] at e, h.vs, h.ks, h.vb, h.kb, h.rises, Nat.le_succ_of_le h.len⟩, rfl⟩
    exact Decidable.byContradiction (fun hn => h3 ⟨hk, hn⟩)
  split at hd
  · rename_i h5
    cases hd
    subst h5
    have hk : s.kind = 3 := h1.symm
    refine ⟨⟨h.kind, h.reg, h.cnt, h.num, fun e => absurd hk e, h.ks, fun v hv => ?_, h.kb, h.rises, ?_⟩, rfl⟩
    · rcases List.mem_append.1 hv with hv | hv
      · exact h.vb v hv
      · simp at hv; subst hv; exact hf.1.1.2
    · have := h.len; simp; omega
  split at hd
  · rename_i h5
    subst h5
    have hk : s.kind = 3 := h1.symm
    split at hd
    · cases hd; exact ⟨hself, rfl⟩
    · rename_i v t hv
      cases hd
      refine ⟨⟨h.kind, h.reg, h.cnt, h.num, fun e => absurd hk e, h.ks, fun v hv' => h.vb v (by rw [hv]; simp [hv']), h.kb, h.rises, ?_⟩, rfl⟩
      have := h.len; rw [hv] at this; simp at this ⊢; omega
  split at hd
  · rename_i h5
    cases hd
    subst h5
    have hk : s.kind = 4 := h1.symm
    refine ⟨⟨h.kind, h.reg, h.cnt, h.num, h.vs, fun e => absurd hk e, h.vb, fun p hp => ?_, mput_rises h.rises, Nat.le_succ_of_le h.len⟩, rfl⟩
    rcases mput_mem hp with rfl | hp
    · exact ⟨⟨hf.1.1.1.1, hf.1.1.1.2⟩, hf.1.1.2⟩
    · exact h.kb p hp
  split at hd
  · split at hd
    · cases hd; exact ⟨hself, rfl⟩
    · cases hd; exact ⟨hself, rfl⟩
  · split at hd
    · cases hd; exact ⟨hself, rfl⟩
    · cases hd
      rename_i n1 n2 n3 n4 n5 n6 n7 v hv
      have hk4 : s.kind ≠ 4 → s.kvs = [] := h.ks
      refine ⟨⟨h.kind, h.reg, h.cnt, h.num, h.vs, fun e => ?_, h.vb, fun p hp => h.kb p (mdel_mem hp), mdel_rises h.rises, Nat.le_succ_of_le h.len⟩, rfl⟩
      show mdel key s.kvs = []
      rw [hk4 e]; rfl
end Go.Proofs.YtcjfcomadcebnaaGreatDoor
