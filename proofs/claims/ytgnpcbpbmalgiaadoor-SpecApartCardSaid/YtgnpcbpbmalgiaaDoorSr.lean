/- Plainly: items read one behind the other, taken apart at the end. -/
import Derived.Test.YtgnpcbpbmalgiaaDoorSq
namespace Go.Proofs.YtgnpcbpbmalgiaaDoor
open Go.RowKit

theorem valsR_cons (it : List UInt8) (r : List (List UInt8)) : valsR (it :: r) = match prn it with | none => none | some v => (valsR r).map (v :: ·) := by rw [valsR]; cases prn it <;> rfl
theorem valsR_app : ∀ (a b : List (List UInt8)), valsR (a ++ b) = match valsR a, valsR b with | some l, some m => some (l ++ m) | _, _ => none
  | [], b => by
    show valsR b = _
    rw [show valsR [] = some [] from rfl]
    cases valsR b <;> rfl
  | it :: a, b => by
    rw [List.cons_append, valsR_cons, valsR_cons, valsR_app a b]
    cases prn it <;> cases valsR a <;> cases valsR b <;> rfl
theorem valsR_one (it : List UInt8) : valsR [it] = (prn it).map ([·]) := by
  unfold valsR
  cases prn it <;> simp [valsR]

/-- The last key of a map's items. -/
def lastK (l : List (Int × Int)) : Int := match l.getLast? with
  | none => 0
  | some p => p.1
def prevK (l : List (Int × Int)) : Option Int := l.getLast?.map (·.1)
theorem kvsR_cons (p : Option Int) (it : List UInt8) (r : List (List UInt8)) : kvsR p (it :: r) = match pairR it with | none => none | some (k, v) => if above p k = true then (kvsR (some k) r).map ((k, v) :: ·) else none := by rw [kvsR]; rcases pairR it with _ | ⟨k, v⟩ <;> rfl
theorem kvsR_app : ∀ (a b : List (List UInt8)) (p : Option Int), kvsR p (a ++ b) = match kvsR p a with | some l => (kvsR (if l = [] then p else prevK l) b).map (l ++ ·) | none => none
  | [], b, p => by
    show kvsR p b = _
    rw [show kvsR p [] = some [] from by rw [kvsR]]
    simp only [if_true]
    cases kvsR p b <;> simp
  | it :: a, b, p => by
    rw [List.cons_append, kvsR_cons, kvsR_cons]
    cases hp : pairR it with
    | none => rfl
    | some kv =>
      obtain ⟨k, v⟩ := kv
      simp only
      split
      · rw [kvsR_app a b (some k)]
        cases h : kvsR (some k) a with
        | none => rfl
        | some l =>
          simp only [Option.map_some]
          have e : (if l = [] then some k else prevK l) = prevK ((k, v) :: l) := by
            cases l with
            | nil => simp [prevK]
            | cons y t => simp [prevK, List.getLast?_cons_cons]
          rw [e, if_neg (by simp)]
          cases kvsR (prevK ((k, v) :: l)) b <;> simp
      · rfl
theorem kvsR_one (it : List UInt8) (l : List (Int × Int)) : (kvsR (prevK l) [it]).isSome = jF l.isEmpty (lastK l) it := by
  unfold kvsR jF
  have hc : Lib.cut it [58] = if 0 ≤ Lib.indexByte it 58 then (it.take (Lib.indexByte it 58).toNat, it.drop ((Lib.indexByte it 58).toNat + 1), true) else (it, [], false) := by
    unfold Lib.cut
    rw [Lib.index_one]
    rfl
  rw [hc]
  unfold pairR
  by_cases h : 0 ≤ Lib.indexByte it 58
  · rw [if_pos h, if_pos h]
    simp only [Bool.and_true]
    generalize it.take (Lib.indexByte it 58).toNat = x
    generalize it.drop ((Lib.indexByte it 58).toNat + 1) = y
    cases hx : prn x with
    | none => simp
    | some k =>
      cases hy : prn y with
      | none => simp
      | some v =>
        simp only [Option.isSome_some, Bool.true_and, Bool.and_true]
        rw [prn_atoiV hx]
        have e : above (prevK l) k = (l.isEmpty || decide (lastK l < k)) := by
          unfold above prevK lastK
          cases hl : l.getLast? with
          | none => rw [List.getLast?_eq_none_iff.1 hl]; simp
          | some q =>
            have : l.isEmpty = false := by cases l with
              | nil => cases hl
              | cons => rfl
            rw [this]; simp
        rw [← e]
        cases above (prevK l) k <;> simp [kvsR]
  · rw [if_neg h, if_neg h]
    simp
theorem kvsR_got {it : List UInt8} {l m : List (Int × Int)} (h : kvsR (prevK l) [it] = some m) : ∃ p, m = [p] ∧ p.1 = jK it ∧ inKv p = jW it := by
  unfold kvsR at h
  cases hp : pairR it with
  | none => rw [hp] at h; cases h
  | some p =>
    obtain ⟨k, v⟩ := p
    rw [hp] at h
    simp only at h
    split at h
    · refine ⟨(k, v), ?_, ?_, ?_⟩
      · simp [kvsR] at h; exact h.symm
      all_goals
        have hi := pairR_some hp
        unfold pairR at hp
        split at hp
        · rename_i h0
          split at hp
          · rename_i k' v' hk hv
            cases hp
            have hc : Lib.cut it [58] = (it.take (Lib.indexByte it 58).toNat, it.drop ((Lib.indexByte it 58).toNat + 1), true) := by
              unfold Lib.cut
              rw [Lib.index_one, if_pos h0]; rfl
            first
              | (show k = jK it; unfold jK; rw [hc]; exact (prn_atoiV hk).symm)
              | (unfold inKv jW jK; rw [hc]; show (decide (0 ≤ k) && decide (k ≤ 1000) && nearB v 1000000000) = _; rw [prn_atoiV hk, prn_atoiV hv]; cases nearB v 1000000000 <;> simp)
          · cases hp
        · cases hp
    · cases h
theorem lastK_snoc (l : List (Int × Int)) (p : Int × Int) : lastK (l ++ [p]) = p.1 := by simp [lastK]

theorem cuts_len : ∀ (l x : List UInt8), x ∈ cutsL l → x.length ≤ l.length
  | [], x, h => by simp [cutsL] at h; simp [h]
  | c :: t, x, h => by
    unfold cutsL at h
    split at h
    · rcases List.mem_cons.1 h with rfl | h
      · simp
      · have := cuts_len t x h; simp; omega
    · split at h
      · rename_i h2; exact absurd h2 (cuts_ne t)
      · rename_i p r h2
        rcases List.mem_cons.1 h with rfl | h
        · have := cuts_len t p (by rw [h2]; simp); simp; omega
        · have := cuts_len t x (by rw [h2]; simp [h]); simp; omega
/-- The pieces of these places. -/
def atL (PP : List (List UInt8)) (pre : List Nat) : List (List UInt8) := pre.map fun x => PP[x]?.getD []
theorem atL_snoc (PP : List (List UInt8)) (pre : List Nat) (x : Nat) : atL PP (pre ++ [x]) = atL PP pre ++ [PP[x]?.getD []] := by simp [atL]
theorem atL_range (PP : List (List UInt8)) (k : Nat) (h : k ≤ PP.length) : atL PP (List.range k) = PP.take k := by
  unfold atL
  apply List.ext_getElem
  · simp; omega
  · intro i h1 h2
    have h3 : i < PP.length := by simp at h2; omega
    simp [h3]

/-- What is told of items. -/
def itemsV {α : Type} (T : TypeId) (er : Nat → Addr) (r : Option (List α)) (good : List α → Bool) : Value := match r with
  | none => errE T er 1
  | some l => if good l = true then .nilIface else errE T er 4
end Go.Proofs.YtgnpcbpbmalgiaaDoor
