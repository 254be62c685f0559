/- Plainly: operations of a map one behind the other; any operations behind one another. -/
import Derived.Test.YtgnpcbpbmalgiaaDoorLa
namespace Go.Proofs.YtgnpcbpbmalgiaaDoor
open Go.RowKit

/-- A call: its operation, key and value. -/
abbrev PC := Int × Int × Int
/-- What an operation makes of a map, and what it answers. -/
def apM (op key val : Int) (l : List (Int × Int)) : List (Int × Int) := if op = 7 then mput key val l else if op = 9 then mdel key l else l
def ansM (op key : Int) (l : List (Int × Int)) : Int × Int := if op = 7 then (1, 0) else match mget key l with | none => (2, 0) | some v => (3, v)
theorem doR_map {s : PS} (h : s.kind = 4) (op key val : Int) :
    doR s op key val = if ofZ op ≠ 4 then .error 0 else if fitsB op key val = false then .error 1 else .ok ({ s with kvs := apM op key val s.kvs }, (ansM op key s.kvs).1, (ansM op key s.kvs).2) := by
  obtain ⟨k, n, vals, kvs⟩ := s
  have h' : k = 4 := h
  subst h'
  unfold doR
  by_cases h1 : ofZ op ≠ 4
  · rw [if_pos h1, if_pos h1]
  rw [if_neg h1, if_neg h1]
  by_cases h2 : fitsB op key val = false
  · rw [if_pos h2, if_pos h2]
  rw [if_neg h2, if_neg h2, if_neg (fun e => absurd e.1 (show ¬ (4 : Int) = 2 by decide))]
  have h4 := (of_kinds op).2.2.2 (Decidable.byContradiction h1)
  unfold apM ansM
  rcases h4 with rfl | rfl | rfl
  · rfl
  · simp only [show ¬ ((8 : Int) = 1 ∨ (8 : Int) = 4) by decide, show ¬ (8 : Int) = 2 by decide, show ¬ (8 : Int) = 3 by decide, show ¬ (8 : Int) = 5 by decide, show ¬ (8 : Int) = 6 by decide, show ¬ (8 : Int) = 7 by decide, show ¬ (8 : Int) = 9 by decide, if_false, if_true]
    cases mget key kvs <;> rfl
  · simp only [show ¬ ((9 : Int) = 1 ∨ (9 : Int) = 4) by decide, show ¬ (9 : Int) = 2 by decide, show ¬ (9 : Int) = 3 by decide, show ¬ (9 : Int) = 5 by decide, show ¬ (9 : Int) = 6 by decide, show ¬ (9 : Int) = 7 by decide, show ¬ (9 : Int) = 8 by decide, if_false, if_true]
    cases hg : mget key kvs with
    | none => simp only []; rw [mdel_none hg]
    | some v => rfl
theorem apM_rises {op key val : Int} {l : List (Int × Int)} (h : Rises l) : Rises (apM op key val l) := by
  unfold apM
  split
  · exact mput_rises h
  · split
    · exact mdel_rises h
    · exact h
theorem mget_ap {op key val j : Int} {l : List (Int × Int)} (h : Rises l) : mget j (apM op key val l) = if j = key then (if op = 7 then some val else if op = 9 then none else mget j l) else mget j l := by
  unfold apM
  by_cases h7 : op = 7
  · rw [if_pos h7, if_pos h7, mget_put]
  · rw [if_neg h7, if_neg h7]
    by_cases h9 : op = 9
    · rw [if_pos h9, if_pos h9, mget_del j key l h]
    · rw [if_neg h9, if_neg h9]; simp
theorem ap_swap {o1 k1 v1 o2 k2 v2 : Int} (hk : k1 ≠ k2) {l : List (Int × Int)} (h : Rises l) : apM o1 k1 v1 (apM o2 k2 v2 l) = apM o2 k2 v2 (apM o1 k1 v1 l) := by
  refine rises_ext (apM_rises (apM_rises h)) (apM_rises (apM_rises h)) fun j => ?_
  rw [mget_ap (apM_rises h), mget_ap h, mget_ap (apM_rises h), mget_ap h]
  by_cases h1 : j = k1
  · have h2 : j ≠ k2 := by omega
    rw [if_pos h1, if_neg h2, if_neg h2, if_pos h1]
  · rw [if_neg h1]
    by_cases h2 : j = k2
    · rw [if_pos h2, if_pos h2, if_neg h1]
    · rw [if_neg h2, if_neg h2, if_neg h1]
theorem ans_far {o1 k1 o2 k2 v2 : Int} (hk : k1 ≠ k2) {l : List (Int × Int)} (h : Rises l) : ansM o1 k1 (apM o2 k2 v2 l) = ansM o1 k1 l := by
  unfold ansM
  rw [mget_ap h, if_neg hk]
/-- Operations on unlike keys of a map, in either order. -/
theorem apart {s x y : PS} {a b : PC} {r g q h : Int} (hs : s.kind = 4) (hr : Rises s.kvs) (ha : doR s a.1 a.2.1 a.2.2 = .ok (x, r, g)) (hb : doR s b.1 b.2.1 b.2.2 = .ok (y, q, h)) (hk : a.2.1 ≠ b.2.1) :
    ∃ u, doR x b.1 b.2.1 b.2.2 = .ok (u, q, h) ∧ doR y a.1 a.2.1 a.2.2 = .ok (u, r, g) := by
  rw [doR_map hs] at ha hb
  split at ha
  · cases ha
  rename_i a1
  split at ha
  · cases ha
  rename_i a2
  split at hb
  · cases hb
  rename_i b1
  split at hb
  · cases hb
  rename_i b2
  cases ha; cases hb
  refine ⟨{ s with kvs := apM b.1 b.2.1 b.2.2 (apM a.1 a.2.1 a.2.2 s.kvs) }, ?_, ?_⟩
  · rw [doR_map (s := { s with kvs := apM a.1 a.2.1 a.2.2 s.kvs }) hs, if_neg b1, if_neg b2, ans_far (fun e => hk e.symm) hr]
  · rw [doR_map (s := { s with kvs := apM b.1 b.2.1 b.2.2 s.kvs }) hs, if_neg a1, if_neg a2, ans_far hk hr, ap_swap hk hr]
theorem look_same {s x : PS} {key val r g : Int} (h : doR s 8 key val = .ok (x, r, g)) : x = s := by
  have hk : s.kind = 4 := by
    unfold doR at h
    split at h
    · cases h
    · rename_i h1
      exact (Decidable.byContradiction h1 : ofZ 8 = s.kind).symm
  rw [doR_map hk] at h
  split at h
  · cases h
  split at h
  · cases h
  cases h; rfl

/-- One call, taken where it may be. -/
def stepR (s : PS) (c : PC) : PS := match doR s c.1 c.2.1 c.2.2 with
  | .ok (t, _, _) => t
  | .error _ => s
/-- Calls behind one another. -/
def runR (s : PS) (cs : List PC) : PS := cs.foldl stepR s
theorem stepR_ok {s : PS} {b : Nat} (h : s.Ok b) (c : PC) : (stepR s c).Ok (b + 1) ∧ (stepR s c).kind = s.kind := by
  unfold stepR
  split
  · rename_i t r g hd
    exact h.next hd
  · exact ⟨⟨h.kind, h.reg, h.cnt, h.num, h.vs, h.ks, h.vb, h.kb, h.rises, Nat.le_succ_of_le h.len⟩, rfl⟩
theorem runR_ok : ∀ {cs : List PC} {s : PS} {b : Nat}, s.Ok b → (runR s cs).Ok (b + cs.length) ∧ (runR s cs).kind = s.kind
  | [], _, _, h => ⟨h, rfl⟩
  | c :: cs, s, b, h => by
    have h1 := stepR_ok h c
    have h2 := runR_ok (cs := cs) h1.1
    refine ⟨?_, h2.2.trans h1.2⟩
    have := h2.1
    rw [show b + 1 + cs.length = b + (c :: cs).length by simp; omega] at this
    exact this
theorem runR_snoc (s : PS) (cs : List PC) (c : PC) : runR s (cs ++ [c]) = stepR (runR s cs) c := by simp [runR]
end Go.Proofs.YtgnpcbpbmalgiaaDoor
