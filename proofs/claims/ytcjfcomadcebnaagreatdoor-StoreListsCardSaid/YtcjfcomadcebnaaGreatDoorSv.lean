/- The states of objects, plainly: numbers, queues' values, maps' keys and values, and the texts that tell them. -/
import Derived.Test.YtcjfcomadcebnaaGreatDoorVb
import Derived.Lib.ItoaLen
import Derived.Lib.Bytealg
namespace Go.Proofs.YtcjfcomadcebnaaGreatDoor
open Go.RowKit

theorem dec_bytes (u : Nat) : ∀ c ∈ Lib.decDigits u, 48 ≤ c.toNat ∧ c.toNat ≤ 57 := by
  induction u using Nat.strongRecOn with
  | ind u ih =>
    by_cases hs : u < 10
    · rw [Lib.decDigits, dif_pos hs]
      intro c hc
      simp only [List.mem_singleton] at hc
      subst hc
      have := digit_nat u hs
      omega
    · rw [Lib.decDigits, dif_neg hs]
      intro c hc
      rcases List.mem_append.1 hc with h | h
      · exact ih _ (by omega) c h
      · simp only [List.mem_singleton] at h
        subst h
        have := digit_nat (u % 10) (by omega)
        omega
theorem itoa_no (n : Int) {c : UInt8} (hc : c.toNat < 45 ∨ 57 < c.toNat) : c ∉ Lib.itoa n := by
  intro h
  unfold Lib.itoa at h
  split at h
  · rcases List.mem_cons.1 h with h | h
    · subst h; revert hc; decide
    · have := dec_bytes _ c h; omega
  · have := dec_bytes _ c h; omega
theorem itoa_32 (n : Int) : (32 : UInt8) ∉ Lib.itoa n := itoa_no n (.inl (by decide))
theorem itoa_58 (n : Int) : (58 : UInt8) ∉ Lib.itoa n := itoa_no n (.inr (by decide))
theorem itoa_ne (n : Int) : Lib.itoa n ≠ [] := by
  unfold Lib.itoa
  split
  · simp
  · obtain ⟨d, r, h, _⟩ := dec_head n.toNat
    rw [h]; simp

theorem ib_miss (c : UInt8) : ∀ x : List UInt8, c ∉ x → Lib.indexByte x c = -1
  | [], _ => rfl
  | b :: x, h => by
    have h1 : b ≠ c := fun e => h (by simp [e])
    have h2 : c ∉ x := fun e => h (by simp [e])
    simp [Lib.indexByte, h1, ib_miss c x h2]
theorem ib_hit (c : UInt8) (y : List UInt8) : ∀ x : List UInt8, c ∉ x → Lib.indexByte (x ++ c :: y) c = x.length
  | [], _ => by simp [Lib.indexByte]
  | b :: x, h => by
    have h1 : b ≠ c := fun e => h (by simp [e])
    have h2 : c ∉ x := fun e => h (by simp [e])
    have := ib_hit c y x h2
    simp only [List.cons_append, Lib.indexByte, beq_iff_eq, h1, if_false, this, List.length_cons]
    rw [if_neg (by omega)]; omega

/-- A map's item. -/
def item (p : Int × Int) : List UInt8 := Lib.itoa p.1 ++ 58 :: Lib.itoa p.2
/-- What a map has, as a text. -/
def mtext : List (Int × Int) → List UInt8
  | [] => []
  | p :: l => 32 :: (item p ++ mtext l)
/-- What a queue has, as a text. -/
def qtext : List Int → List UInt8
  | [] => []
  | v :: l => 32 :: (Lib.itoa v ++ qtext l)

theorem item_32 (p : Int × Int) : (32 : UInt8) ∉ item p := by
  unfold item
  intro h
  rcases List.mem_append.1 h with h | h
  · exact itoa_32 _ h
  · rcases List.mem_cons.1 h with h | h
    · exact absurd h (by decide)
    · exact itoa_32 _ h
theorem mtext_shape : ∀ l : List (Int × Int), mtext l = [] ∨ ∃ r, mtext l = 32 :: r
  | [] => .inl rfl
  | _ :: _ => .inr ⟨_, rfl⟩
theorem qtext_shape : ∀ l : List Int, qtext l = [] ∨ ∃ r, qtext l = 32 :: r
  | [] => .inl rfl
  | _ :: _ => .inr ⟨_, rfl⟩
theorem mtext_app : ∀ a b : List (Int × Int), mtext (a ++ b) = mtext a ++ mtext b
  | [], _ => rfl
  | p :: a, b => by simp [mtext, mtext_app a b]
theorem qtext_app : ∀ a b : List Int, qtext (a ++ b) = qtext a ++ qtext b
  | [], _ => rfl
  | p :: a, b => by simp [qtext, qtext_app a b]

/-- Where the first item of a text ends. -/
def iendL (s : List UInt8) : Nat := if 0 ≤ Lib.indexByte (s.drop 1) 32 then (Lib.indexByte (s.drop 1) 32).toNat + 1 else s.length
theorem iend_item {it rest : List UInt8} (h : (32 : UInt8) ∉ it) (hr : rest = [] ∨ ∃ r, rest = 32 :: r) : iendL (32 :: (it ++ rest)) = it.length + 1 := by
  unfold iendL
  show (if 0 ≤ Lib.indexByte (it ++ rest) 32 then _ else _) = _
  rcases hr with rfl | ⟨r, rfl⟩
  · have : Lib.indexByte (it ++ []) 32 = -1 := by rw [List.append_nil]; exact ib_miss 32 it h
    rw [this, if_neg (by decide)]; simp
  · have e : Lib.indexByte (it ++ 32 :: r) 32 = it.length := ib_hit 32 r it h
    show (if 0 ≤ Lib.indexByte (it ++ 32 :: r) 32 then (Lib.indexByte (it ++ 32 :: r) 32).toNat + 1 else _) = _
    rw [e, if_pos (by omega)]; simp

/-- A map's value at a key. -/
def mget (k : Int) : List (Int × Int) → Option Int
  | [] => none
  | (a, v) :: t => if a < k then mget k t else if a = k then some v else none
/-- A map with another value at a key. -/
def mput (k x : Int) : List (Int × Int) → List (Int × Int)
  | [] => [(k, x)]
  | (a, v) :: t => if a < k then (a, v) :: mput k x t else if a = k then (k, x) :: t else (k, x) :: (a, v) :: t
/-- A map without a key. -/
def mdel (k : Int) : List (Int × Int) → List (Int × Int)
  | [] => []
  | (a, v) :: t => if a < k then (a, v) :: mdel k t else if a = k then t else (a, v) :: t
/-- A map cut at a key. -/
def spl (k : Int) : List (Int × Int) → List (Int × Int) × Option Int × List (Int × Int)
  | [] => ([], none, [])
  | (a, v) :: t => if a < k then ((a, v) :: (spl k t).1, (spl k t).2) else if a = k then ([], some v, t) else ([], none, (a, v) :: t)

theorem mget_spl (k : Int) : ∀ l, mget k l = (spl k l).2.1
  | [] => rfl
  | (a, v) :: t => by
    unfold mget spl
    split
    · exact mget_spl k t
    · split <;> rfl
theorem mput_spl (k x : Int) : ∀ l, mput k x l = (spl k l).1 ++ (k, x) :: (spl k l).2.2
  | [] => rfl
  | (a, v) :: t => by
    unfold mput spl
    split
    · simp [mput_spl k x t]
    · split <;> rfl
theorem mdel_spl (k : Int) : ∀ l, mdel k l = (spl k l).1 ++ (spl k l).2.2
  | [] => rfl
  | (a, v) :: t => by
    unfold mdel spl
    split
    · simp [mdel_spl k t]
    · split <;> rfl
theorem spl_pre (k : Int) : ∀ (a b : List (Int × Int)), (∀ p ∈ a, p.1 < k) → spl k (a ++ b) = (a ++ (spl k b).1, (spl k b).2)
  | [], _, _ => rfl
  | (c, v) :: a, b, h => by
    have h1 : c < k := h (c, v) (by simp)
    have := spl_pre k a b (fun p hp => h p (by simp [hp]))
    simp only [List.cons_append]
    rw [spl, if_pos h1, this]

/-- Keys rise. -/
def Rises (l : List (Int × Int)) : Prop := l.Pairwise (fun p q => p.1 < q.1)
theorem mget_lt {k : Int} : ∀ {l : List (Int × Int)}, (∀ p ∈ l, k < p.1) → mget k l = none
  | [], _ => rfl
  | (a, v) :: t, h => by
    have : k < a := h (a, v) (by simp)
    unfold mget
    rw [if_neg (by omega), if_neg (by omega)]
theorem mget_put (j k x : Int) : ∀ l, mget j (mput k x l) = if j = k then some x else mget j l
  | [] => by
    unfold mput mget mget
    by_cases h : j = k
    · subst h; simp
    · rw [if_neg h]
      split
      · rfl
      · rw [if_neg (by omega)]
  | (a, v) :: t => by
    have ih := mget_put j k x t
    unfold mput
    by_cases h1 : a < k
    · rw [if_pos h1]
      unfold mget
      by_cases h2 : a < j
      · rw [if_pos h2, if_pos h2, ih]
      · rw [if_neg h2, if_neg h2, if_neg (show ¬ j = k by omega)]
    · rw [if_neg h1]
      by_cases h2 : a = k
      · rw [if_pos h2]
        subst h2
        unfold mget
        by_cases h3 : j = a
        · subst h3; simp
        · rw [if_neg h3]
          by_cases h4 : a < j
          · rw [if_pos h4, if_pos h4]
          · rw [if_neg h4, if_neg h4, if_neg (show ¬ a = j by omega), if_neg (show ¬ a = j by omega)]
      · rw [if_neg h2]
        conv => lhs; unfold mget
        by_cases h3 : j = k
        · subst h3; simp
        · rw [if_neg h3]
          by_cases h4 : k < j
          · rw [if_pos h4]
          · rw [if_neg h4, if_neg (show ¬ k = j by omega)]
            unfold mget
            rw [if_neg (by omega), if_neg (by omega)]
theorem mget_del (j k : Int) : ∀ l, Rises l → mget j (mdel k l) = if j = k then none else mget j l
  | [], _ => by unfold mdel mget; simp
  | (a, v) :: t, h => by
    have hp := List.pairwise_cons.1 h
    have ih := mget_del j k t hp.2
    unfold mdel
    by_cases h1 : a < k
    · rw [if_pos h1]
      unfold mget
      by_cases h2 : a < j
      · rw [if_pos h2, if_pos h2, ih]
      · rw [if_neg h2, if_neg h2, if_neg (show ¬ j = k by omega)]
    · rw [if_neg h1]
      by_cases h2 : a = k
      · rw [if_pos h2]
        subst h2
        by_cases h3 : j = a
        · subst h3
          rw [if_pos rfl]
          exact mget_lt (fun p hp' => hp.1 p hp')
        · rw [if_neg h3]
          conv => rhs; unfold mget
          by_cases h4 : a < j
          · rw [if_pos h4]
          · rw [if_neg h4, if_neg (show ¬ a = j by omega)]
            exact mget_lt (fun p hp' => by have := hp.1 p hp'; simp at this; omega)
      · rw [if_neg h2]
        by_cases h3 : j = k
        · subst h3
          rw [if_pos rfl]
          unfold mget
          rw [if_neg h1, if_neg h2]
        · rw [if_neg h3]
theorem mput_mem {k x : Int} {p : Int × Int} : ∀ {l : List (Int × Int)}, p ∈ mput k x l → p = (k, x) ∨ p ∈ l
  | [], h => by unfold mput at h; simp at h; exact .inl h
  | (a, v) :: t, h => by
    unfold mput at h
    split at h
    · rcases List.mem_cons.1 h with h | h
      · right; simp [h]
      · rcases mput_mem h with h | h
        · exact .inl h
        · right; simp [h]
    · split at h
      · rcases List.mem_cons.1 h with h | h
        · exact .inl h
        · right; simp [h]
      · rcases List.mem_cons.1 h with h | h
        · exact .inl h
        · right; exact h
theorem mdel_mem {k : Int} {p : Int × Int} : ∀ {l : List (Int × Int)}, p ∈ mdel k l → p ∈ l
  | [], h => by unfold mdel at h; exact h
  | (a, v) :: t, h => by
    unfold mdel at h
    split at h
    · rcases List.mem_cons.1 h with h | h
      · simp [h]
      · have := mdel_mem h; simp [this]
    · split at h
      · simp [h]
      · exact h
theorem mput_rises {k x : Int} : ∀ {l : List (Int × Int)}, Rises l → Rises (mput k x l)
  | [], _ => by unfold mput Rises; simp
  | (a, v) :: t, h => by
    have hp := List.pairwise_cons.1 h
    unfold mput
    split
    · rename_i h1
      refine List.pairwise_cons.2 ⟨fun p hm => ?_, mput_rises hp.2⟩
      rcases mput_mem hm with rfl | hm
      · exact h1
      · exact hp.1 p hm
    · rename_i h1
      split
      · rename_i h2
        subst h2
        exact List.pairwise_cons.2 ⟨hp.1, hp.2⟩
      · rename_i h2
        refine List.pairwise_cons.2 ⟨fun p hm => ?_, h⟩
        rcases List.mem_cons.1 hm with rfl | hm
        · show k < a; omega
        · have := hp.1 p hm; simp at this; show k < p.1; omega
theorem mdel_rises {k : Int} : ∀ {l : List (Int × Int)}, Rises l → Rises (mdel k l)
  | [], h => h
  | (a, v) :: t, h => by
    have hp := List.pairwise_cons.1 h
    unfold mdel
    split
    · exact List.pairwise_cons.2 ⟨fun p hm => hp.1 p (mdel_mem hm), mdel_rises hp.2⟩
    · split
      · exact hp.2
      · exact h
theorem mget_head {k : Int} {v : Int} {t : List (Int × Int)} : mget k ((k, v) :: t) = some v := by unfold mget; simp
/-- What is told at all keys tells a map. -/
theorem rises_ext : ∀ {l m : List (Int × Int)}, Rises l → Rises m → (∀ k, mget k l = mget k m) → l = m
  | [], [], _, _, _ => rfl
  | [], (b, y) :: m, _, _, h => by have := h b; rw [mget_head] at this; cases this
  | (a, x) :: l, [], _, _, h => by have := h a; rw [mget_head] at this; cases this
  | (a, x) :: l, (b, y) :: m, hl, hm, h => by
    have pl := List.pairwise_cons.1 hl
    have pm := List.pairwise_cons.1 hm
    have hab : a = b := by
      rcases Int.lt_trichotomy a b with h1 | h1 | h1
      · have := h a
        rw [mget_head, mget_lt (fun p hp => by
          rcases List.mem_cons.1 hp with rfl | hp
          · exact h1
          · have := pm.1 p hp; simp at this; omega)] at this
        cases this
      · exact h1
      · have := h b
        rw [mget_head, mget_lt (fun p hp => by
          rcases List.mem_cons.1 hp with rfl | hp
          · exact h1
          · have := pl.1 p hp; simp at this; omega)] at this
        cases this
    subst hab
    have hx : x = y := by have := h a; rw [mget_head, mget_head] at this; exact Option.some.inj this
    subst hx
    rw [rises_ext pl.2 pm.2 (fun k => by
      by_cases hk : a < k
      · have := h k
        unfold mget at this
        rw [if_pos hk, if_pos hk] at this
        exact this
      · rw [mget_lt (fun p hp => by have := pl.1 p hp; simp at this; omega), mget_lt (fun p hp => by have := pm.1 p hp; simp at this; omega)])]

/-- Keys within 0 and 1000 that rise are 1001 at most. -/
theorem rises_len : ∀ {l : List (Int × Int)} {b : Int}, Rises l → (∀ p ∈ l, b ≤ p.1 ∧ p.1 ≤ 1000) → 0 ≤ b → b ≤ 1001 → (l.length : Int) ≤ 1001 - b
  | [], b, _, _, h0, h1 => by simp; omega
  | (a, v) :: t, b, h, hm, h0, h1 => by
    have hp := List.pairwise_cons.1 h
    have ha := hm (a, v) (by simp)
    simp at ha
    have := rises_len (b := a + 1) hp.2 (fun p hp' => ⟨by have := hp.1 p hp'; simp at this; omega, (hm p (by simp [hp'])).2⟩) (by omega) (by omega)
    simp; omega
theorem itoa_len (n : Int) (h0 : -9223372036854775808 ≤ n) (h1 : n ≤ 9223372036854775807) : (Lib.itoa n).length ≤ 21 := Lib.itoa_length_le n h0 h1
theorem mtext_len : ∀ {l : List (Int × Int)}, (∀ p ∈ l, (-9223372036854775808 ≤ p.1 ∧ p.1 ≤ 9223372036854775807) ∧ (-9223372036854775808 ≤ p.2 ∧ p.2 ≤ 9223372036854775807)) → (mtext l).length ≤ 44 * l.length
  | [], _ => by simp [mtext]
  | p :: l, h => by
    have hp := h p (by simp)
    have := mtext_len (l := l) (fun q hq => h q (by simp [hq]))
    have a := itoa_len p.1 hp.1.1 hp.1.2
    have b := itoa_len p.2 hp.2.1 hp.2.2
    simp [mtext, item]; omega
theorem qtext_len : ∀ {l : List Int}, (∀ p ∈ l, -9223372036854775808 ≤ p ∧ p ≤ 9223372036854775807) → (qtext l).length ≤ 22 * l.length
  | [], _ => by simp [qtext]
  | p :: l, h => by
    have hp := h p (by simp)
    have := qtext_len (l := l) (fun q hq => h q (by simp [hq]))
    have a := itoa_len p hp.1 hp.2
    simp [qtext]; omega
end Go.Proofs.YtcjfcomadcebnaaGreatDoor
