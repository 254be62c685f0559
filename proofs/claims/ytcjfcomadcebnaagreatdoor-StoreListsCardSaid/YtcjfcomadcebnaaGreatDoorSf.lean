/- The state that a text tells, plainly. -/
import Derived.Test.YtcjfcomadcebnaaGreatDoorSt
import Derived.Test.YtcjfcomadcebnaaGreatDoorEz
import Derived.Lib.IndexMore
import Derived.Lib.IndexBytes
namespace Go.Proofs.YtcjfcomadcebnaaGreatDoor
open Go.RowKit

/-- A text cut at each blank. -/
def cutsL : List UInt8 → List (List UInt8)
  | [] => [[]]
  | c :: t => if c = 32 then [] :: cutsL t else match cutsL t with
    | [] => [[c]]
    | p :: r => (c :: p) :: r
theorem cuts_ne : ∀ l, cutsL l ≠ []
  | [] => by simp [cutsL]
  | c :: t => by
    unfold cutsL
    split
    · simp
    · split <;> simp
theorem cuts_last : ∀ x : List UInt8, (32 : UInt8) ∉ x → cutsL x = [x]
  | [], _ => rfl
  | c :: x, h => by
    have h1 : c ≠ 32 := fun e => h (by simp [e])
    have h2 : (32 : UInt8) ∉ x := fun e => h (by simp [e])
    unfold cutsL
    rw [if_neg h1, cuts_last x h2]
theorem cuts_more (y : List UInt8) : ∀ x : List UInt8, (32 : UInt8) ∉ x → cutsL (x ++ 32 :: y) = x :: cutsL y
  | [], _ => by simp [cutsL]
  | c :: x, h => by
    have h1 : c ≠ 32 := fun e => h (by simp [e])
    have h2 : (32 : UInt8) ∉ x := fun e => h (by simp [e])
    rw [List.cons_append, cutsL, if_neg h1, cuts_more y x h2]

/-- What an index tells of a text. -/
theorem ib_split {c : UInt8} : ∀ {s : List UInt8} {i : Nat}, Lib.indexByte s c = i → c ∉ s.take i ∧ s = s.take i ++ c :: s.drop (i + 1) ∧ i < s.length
  | [], i, h => by simp [Lib.indexByte] at h
  | b :: s, i, h => by
    unfold Lib.indexByte at h
    split at h
    · rename_i hb
      have hb' : b = c := by simpa using hb
      have hi : i = 0 := by omega
      subst hi; subst hb'
      simp
    · rename_i hb
      have hb' : b ≠ c := by simpa using hb
      split at h
      · omega
      · rename_i hn
        have hge := Lib.indexByte_ge s c
        obtain ⟨j, hj⟩ : ∃ j : Nat, Lib.indexByte s c = j := ⟨(Lib.indexByte s c).toNat, by
          have : Lib.indexByte s c ≠ -1 := by simpa using hn
          omega⟩
        obtain ⟨h1, h2, h3⟩ := ib_split hj
        have hi : i = j + 1 := by omega
        subst hi
        refine ⟨?_, ?_, by simp; omega⟩
        · simp only [List.take_succ_cons, List.mem_cons, not_or]
          exact ⟨fun e => hb' e.symm, h1⟩
        · simp only [List.take_succ_cons, List.drop_succ_cons, List.cons_append, List.cons.injEq, true_and]
          exact h2
theorem ib_none {c : UInt8} : ∀ {s : List UInt8}, Lib.indexByte s c < 0 → c ∉ s
  | [], _ => by simp
  | b :: s, h => by
    unfold Lib.indexByte at h
    split at h
    · omega
    · rename_i hb
      have hb' : b ≠ c := by simpa using hb
      split at h
      · rename_i hn
        have hn' : Lib.indexByte s c = -1 := by simpa using hn
        have := ib_none (s := s) (c := c) (by omega)
        simp only [List.mem_cons, not_or]
        exact ⟨fun e => hb' e.symm, this⟩
      · rename_i hn
        have hge := Lib.indexByte_ge s c
        have : Lib.indexByte s c ≠ -1 := by simpa using hn
        omega

/-- The number whose numeral a text is. -/
def prn (l : List UInt8) : Option Int := match Lib.atoiAll l with
  | .ok v => if Lib.itoa v = l then some v else none
  | _ => none
theorem prn_itoa {v : Int} (h : -9223372036854775808 ≤ v ∧ v ≤ 9223372036854775807) : prn (Lib.itoa v) = some v := by
  unfold prn
  rw [atoi_itoa v h.1 h.2]
  simp
theorem prn_some {l : List UInt8} {v : Int} (h : prn l = some v) : Lib.itoa v = l := by
  unfold prn at h
  split at h
  · split at h
    · cases h; assumption
    · cases h
  · cases h

/-- A map's item, read. -/
def pairR (it : List UInt8) : Option (Int × Int) :=
  if 0 ≤ Lib.indexByte it 58 then
    match prn (it.take (Lib.indexByte it 58).toNat), prn (it.drop ((Lib.indexByte it 58).toNat + 1)) with
    | some k, some v => some (k, v)
    | _, _ => none
  else none
theorem pairR_some {it : List UInt8} {p : Int × Int} (h : pairR it = some p) : it = item p := by
  unfold pairR at h
  split at h
  · rename_i h0
    obtain ⟨i, hi⟩ : ∃ i : Nat, Lib.indexByte it 58 = i := ⟨(Lib.indexByte it 58).toNat, by omega⟩
    obtain ⟨_, h2, _⟩ := ib_split hi
    rw [hi] at h
    simp only [Int.toNat_natCast] at h
    split at h
    · rename_i k v hk hv
      cases h
      unfold item
      rw [prn_some hk, prn_some hv]
      exact h2
    · cases h
  · cases h
theorem pairR_item {p : Int × Int} (h1 : -9223372036854775808 ≤ p.1 ∧ p.1 ≤ 9223372036854775807) (h2 : -9223372036854775808 ≤ p.2 ∧ p.2 ≤ 9223372036854775807) : pairR (item p) = some p := by
  unfold pairR
  have hi : Lib.indexByte (item p) 58 = (Lib.itoa p.1).length := ib_hit 58 _ _ (itoa_58 p.1)
  rw [hi, if_pos (by omega), Int.toNat_natCast]
  have e1 : (item p).take (Lib.itoa p.1).length = Lib.itoa p.1 := by simp [item]
  have e2 : (item p).drop ((Lib.itoa p.1).length + 1) = Lib.itoa p.2 := by unfold item; rw [List.drop_append]; simp
  rw [e1, e2, prn_itoa h1, prn_itoa h2]

/-- A key that rises behind the one ahead. -/
def above (prev : Option Int) (k : Int) : Bool := match prev with | none => true | some q => decide (q < k)
/-- A map's items, read one behind the other; the key ahead. -/
def kvsR : Option Int → List (List UInt8) → Option (List (Int × Int))
  | _, [] => some []
  | prev, it :: r => match pairR it with
    | none => none
    | some (k, v) => if above prev k = true then (kvsR (some k) r).map ((k, v) :: ·) else none
/-- A queue's items, read. -/
def valsR : List (List UInt8) → Option (List Int)
  | [] => some []
  | it :: r => match prn it with
    | none => none
    | some v => (valsR r).map (v :: ·)
def nearB (n b : Int) : Bool := decide (near n b)
def inKv (p : Int × Int) : Bool := decide (0 ≤ p.1) && decide (p.1 ≤ 1000) && nearB p.2 1000000000

/-- The items of a text: none, or those behind its blank. -/
def itemsOf (s : List UInt8) : List (List UInt8) := if s = [] then [] else cutsL (s.drop 1)
/-- The head of a key. -/
def headL (key : List UInt8) : List UInt8 := if 0 ≤ Lib.indexByte key 32 then key.take (Lib.indexByte key 32).toNat else key

/-- How far a number of a kind may get. -/
def bndK (kd : Nat) : Int := if kd = 1 then 1000000000 else 1000000000000000
/-- The state that a key tells: 0 no such word, 1 no number; or the state. -/
def fromK (key : List UInt8) : Except Nat PS :=
  match codeL 1 (headL key) with
  | none => .error 0
  | some kd =>
    let items := key.drop (headL key).length
    if kd = 1 ∨ kd = 2 then
      match prn (items.drop 1) with
      | none => .error 0
      | some n => if nearB n (bndK kd) then .ok ⟨kd, n, [], []⟩ else .error 1
    else if kd = 3 then
      match valsR (itemsOf items) with
      | none => .error 0
      | some l => if l.all (nearB · 1000000000) then .ok ⟨kd, 0, l, []⟩ else .error 1
    else
      match kvsR none (itemsOf items) with
      | none => .error 0
      | some l => if l.all inKv then .ok ⟨kd, 0, [], l⟩ else .error 1

/-- A state's key. -/
def keyL (s : PS) : List UInt8 := if s.kind = 1 ∨ s.kind = 2 then wordL 1 s.kind ++ 32 :: Lib.itoa s.n else wordL 1 s.kind ++ s.text

/-- Items joined again, a blank ahead of each. -/
def blanks : List (List UInt8) → List UInt8
  | [] => []
  | x :: l => 32 :: (x ++ blanks l)
theorem cuts_join : ∀ l : List UInt8, blanks (cutsL l) = 32 :: l
  | [] => rfl
  | c :: t => by
    have ih := cuts_join t
    unfold cutsL
    split
    · rename_i h; subst h
      simp [blanks, ih]
    · split
      · rename_i h; exact absurd h (cuts_ne t)
      · rename_i p r h
        rw [h] at ih
        simp only [blanks, List.cons.injEq, true_and] at ih
        simp [blanks, ih]
theorem valsR_text : ∀ {r : List (List UInt8)} {l : List Int}, valsR r = some l → blanks r = qtext l
  | [], l, h => by simp [valsR] at h; subst h; rfl
  | it :: r, l, h => by
    unfold valsR at h
    split at h
    · cases h
    · rename_i v hv
      obtain ⟨t, ht, rfl⟩ := Option.map_eq_some_iff.1 h
      have := valsR_text ht
      simp [blanks, qtext, this, prn_some hv]
theorem kvsR_text : ∀ {r : List (List UInt8)} {l : List (Int × Int)} {prev : Option Int}, kvsR prev r = some l → blanks r = mtext l
  | [], l, _, h => by simp [kvsR] at h; subst h; rfl
  | it :: r, l, prev, h => by
    unfold kvsR at h
    split at h
    · cases h
    · rename_i k v hp
      split at h
      · obtain ⟨t, ht, rfl⟩ := Option.map_eq_some_iff.1 h
        have := kvsR_text ht
        simp [blanks, mtext, this, pairR_some hp]
      · cases h
theorem kvsR_rises : ∀ {r : List (List UInt8)} {l : List (Int × Int)} {prev : Option Int}, kvsR prev r = some l → Rises l ∧ ∀ q, prev = some q → ∀ p ∈ l, q < p.1
  | [], l, _, h => by simp [kvsR] at h; subst h; exact ⟨List.Pairwise.nil, by simp⟩
  | it :: r, l, prev, h => by
    unfold kvsR at h
    split at h
    · cases h
    · rename_i k v hp
      split at h
      · rename_i hq
        obtain ⟨t, ht, rfl⟩ := Option.map_eq_some_iff.1 h
        obtain ⟨h1, h2⟩ := kvsR_rises ht
        refine ⟨List.pairwise_cons.2 ⟨fun p hp' => h2 k rfl p hp', h1⟩, fun q e p hp' => ?_⟩
        subst e
        have hqk : q < k := by simpa [above] using hq
        rcases List.mem_cons.1 hp' with rfl | hp'
        · exact hqk
        · have := h2 k rfl p hp'; omega
      · cases h
theorem items_blanks {s : List UInt8} (h : s = [] ∨ ∃ r, s = 32 :: r) : blanks (itemsOf s) = s := by
  rcases h with rfl | ⟨r, rfl⟩
  · rfl
  · unfold itemsOf
    rw [if_neg (by simp)]
    exact cuts_join r
theorem head_split (key : List UInt8) : (key.drop (headL key).length = [] ∨ ∃ r, key.drop (headL key).length = 32 :: r) ∧ key = headL key ++ key.drop (headL key).length := by
  unfold headL
  split
  · rename_i h
    obtain ⟨i, hi⟩ : ∃ i : Nat, Lib.indexByte key 32 = i := ⟨(Lib.indexByte key 32).toNat, by omega⟩
    obtain ⟨h1, h2, h3⟩ := ib_split hi
    rw [hi, Int.toNat_natCast]
    have hl : (key.take i).length = i := by rw [List.length_take]; omega
    rw [hl]
    have hd : key.drop i = 32 :: key.drop (i + 1) := by
      conv => lhs; rw [h2]
      rw [List.drop_append]
      simp [hl]
    exact ⟨.inr ⟨_, hd⟩, (List.take_append_drop i key).symm⟩
  · exact ⟨.inl (by simp), by simp⟩

theorem fromK_key {key : List UInt8} {s : PS} (h : fromK key = .ok s) : keyL s = key := by
  obtain ⟨h1, h2⟩ := head_split key
  unfold fromK at h
  split at h
  · cases h
  rename_i kd hc
  have hw : wordL 1 kd = headL key := codeL_word hc
  simp only at h
  split at h
  · rename_i hk
    split at h
    · cases h
    · rename_i n hn
      split at h
      · cases h
        unfold keyL
        rw [if_pos (by show (kd : Int) = 1 ∨ (kd : Int) = 2; omega)]
        show wordL 1 kd ++ 32 :: Lib.itoa n = key
        rw [hw, prn_some hn]
        rcases h1 with h1 | ⟨r, h1⟩
        · rw [h1] at hn
          exact absurd (prn_some hn) (itoa_ne n)
        · conv => rhs; rw [h2]
          rw [h1]; rfl
      · cases h
  rename_i hk
  split at h
  · rename_i hk3
    split at h
    · cases h
    · rename_i l hl
      split at h
      · cases h
        unfold keyL
        rw [if_neg (by show ¬ ((kd : Int) = 1 ∨ (kd : Int) = 2); omega)]
        show wordL 1 kd ++ (qtext l ++ mtext []) = key
        rw [hw, ← valsR_text hl, items_blanks h1]
        simp only [mtext, List.append_nil]
        exact h2.symm
      · cases h
  · split at h
    · cases h
    · rename_i l hl
      split at h
      · cases h
        unfold keyL
        rw [if_neg (by show ¬ ((kd : Int) = 1 ∨ (kd : Int) = 2); omega)]
        show wordL 1 kd ++ (qtext [] ++ mtext l) = key
        rw [hw, ← kvsR_text hl, items_blanks h1]
        simp only [qtext, List.nil_append]
        exact h2.symm
      · cases h
end Go.Proofs.YtcjfcomadcebnaaGreatDoor
