/- first: the chapter's examples. -/
import Derived.Test.YtadlgkakjaecdaaIs
namespace Go.Proofs.Ytadlgkakjaecdaa
open Go.RowKit Go.Maps Go.WideMaps Go.WideElems Go.ChangeShapes Go.WideShapes

theorem flatMap_le {α β : Type} (f : α → List β) (m : Nat) : ∀ l : List α, (∀ x ∈ l, (f x).length ≤ m) → (l.flatMap f).length ≤ l.length * m
  | [], _ => by simp
  | x :: l, h => by
    have h1 := h x (by simp)
    have h2 := flatMap_le f m l (fun y hy => h y (by simp [hy]))
    rw [List.flatMap_cons, List.length_append, List.length_cons, Nat.succ_mul]
    omega
theorem tc_bound {L : List Pr} (hL : L.length ≤ 100) : ∀ M : List Pr, M.Nodup → (∀ p ∈ M, TC L p.1 p.2) → M.length ≤ 10000 := fun M hM h => by
  have h1 := nodup_len hM (G := L.flatMap fun p => L.map fun q => (p.1, q.2)) (fun p hp => by
    obtain ⟨c, hc⟩ := (h p hp).head
    obtain ⟨d, hd⟩ := (h p hp).last
    exact List.mem_flatMap.2 ⟨_, hc, List.mem_map.2 ⟨_, hd, rfl⟩⟩)
  have h2 := flatMap_le (fun p : Pr => L.map fun q => (p.1, q.2)) L.length L (fun x _ => by simp)
  have h3 : L.length * L.length ≤ 100 * 100 := Nat.mul_le_mul hL hL
  omega
def l0 : List Pr := [(2, 3), (1, 2), (5, 5)]
theorem l0_fit : ∀ p ∈ l0, FitP p := by
  intro p hp
  simp [l0] at hp
  rcases hp with rfl | rfl | rfl <;> exact ⟨by decide, by decide⟩
theorem l0_tc {L : List Pr} (hL : ∀ q, q ∈ L ↔ q ∈ l0) {a b : Int} : TC L a b ↔ (a, b) ∈ ([(2, 3), (1, 2), (5, 5), (1, 3)] : List Pr) := by
  constructor
  · intro h
    induction h with
    | one h1 =>
      have := (hL _).1 h1
      simp [l0] at this ⊢
      omega
    | more _ h1 ih =>
      have := (hL _).1 h1
      simp [l0] at this ih ⊢
      omega
  · intro h
    have h1 : TC L 1 2 := .one ((hL _).2 (by simp [l0]))
    have h2 : (2, 3) ∈ L := (hL _).2 (by simp [l0])
    have h3 : TC L 5 5 := .one ((hL _).2 (by simp [l0]))
    simp at h
    rcases h with ⟨rfl, rfl⟩ | ⟨rfl, rfl⟩ | ⟨rfl, rfl⟩ | ⟨rfl, rfl⟩
    · exact .one h2
    · exact h1
    · exact h3
    · exact .more h1 h2
theorem l0_len {L M : List Pr} (hL : ∀ q, q ∈ L ↔ q ∈ l0) (hn : M.Nodup) (hM : ∀ p, p ∈ M ↔ TC L p.1 p.2) : M.length = 4 := by
  refine Nat.le_antisymm (nodup_len hn (G := [(2, 3), (1, 2), (5, 5), (1, 3)]) (fun p hp => (l0_tc hL).1 ((hM p).1 hp))) ?_
  exact nodup_len (L := [(2, 3), (1, 2), (5, 5), (1, 3)]) (by decide) (fun p hp => (hM p).2 ((l0_tc hL).2 hp))
theorem get3 {a b c x : Int} {i : Nat} (h : ([a, b, c] : List Int)[i]? = some x) : (i = 0 ∧ x = a) ∨ (i = 1 ∧ x = b) ∨ (i = 2 ∧ x = c) := by
  match i with
  | 0 => simp at h; exact .inl ⟨rfl, h.symm⟩
  | 1 => simp at h; exact .inr (.inl ⟨rfl, h.symm⟩)
  | 2 => simp at h; exact .inr (.inr ⟨rfl, h.symm⟩)
  | n + 3 => simp at h
theorem fits1 {L : List Pr} (hL : ∀ q, q ∈ L ↔ q ∈ l0) : ∀ p ∈ L, ¬ BadAt [1, 2, 3] p := by
  rintro ⟨x, y⟩ hp ⟨i, j, hij, hi, hj⟩
  have h0 := (hL _).1 hp
  simp [l0] at h0
  have h1 := get3 hi
  have h2 := get3 hj
  simp only at h1 h2
  omega
theorem fits2 {L : List Pr} (hL : ∀ q, q ∈ L ↔ q ∈ l0) : ¬ ∀ p ∈ L, ¬ BadAt [5] p := fun h => h (5, 5) ((hL _).2 (by simp [l0])) ⟨0, 0, Nat.le_refl _, rfl, rfl⟩
theorem fits3 {L : List Pr} (hL : ∀ q, q ∈ L ↔ q ∈ l0) : ¬ ∀ p ∈ L, ¬ BadAt [2, 9, 1] p := fun h => h (1, 2) ((hL _).2 (by simp [l0])) ⟨0, 2, by decide, rfl, rfl⟩
theorem slI_new (w : World) (cs : List Int) : SlI (w.alloc (.cells (cs.map (Value.int .i64)).toArray 3)) (some ⟨w.heap.size, 0, none⟩) cs := by
  refine .inr ⟨_, 0, rfl, fun _ => by simp, fun k x hk => ?_⟩
  simpa using hk

theorem fitsA (r b : Nat) (L : List Pr) (D : DU) (hn : L.length ≤ 3) (hL : ∀ q, q ∈ L ↔ q ∈ l0) (w : World) (h : RelAt r b L D w) :
    Calls Try.prog 24 #[.pointer (some ⟨r, 0, none⟩), .slice (some ⟨w.heap.size, 0, none⟩) 3 3] (w.alloc (.cells #[.int .i64 1, .int .i64 2, .int .i64 3] 3)) fun e w' => e = .returned (.bool true) ∧ Hid (Below w.heap.size w w') := by
  have hr := h.kept (World.grownBy_alloc w (.cells #[.int .i64 1, .int .i64 2, .int .i64 3] 3) none) (by simp) (by simp)
  have hs := slI_new w [1, 2, 3]
  have hz : ∀ x ∈ ([1, 2, 3] : List Int), fit64 x := by decide
  refine (fits_any r b L D (by omega) (some ⟨w.heap.size, 0, none⟩) 3 [1, 2, 3] (by decide) hz _ hr hs).mono ?_
  rintro e w' ⟨c, rfl, hc⟩
  have hcv : c = true := hc.out.1.2 (fits1 hL)
  subst hcv
  exact ⟨rfl, ((Below.refl _ w).alloc (Nat.le_refl _) _).trans (hc.out.2.mono (by simp))⟩
theorem fitsB (r b : Nat) (L : List Pr) (D : DU) (hn : L.length ≤ 3) (hL : ∀ q, q ∈ L ↔ q ∈ l0) (w : World) (h : RelAt r b L D w) :
    Calls Try.prog 24 #[.pointer (some ⟨r, 0, none⟩), .slice (some ⟨w.heap.size, 0, none⟩) 1 1] (w.alloc (.cells #[.int .i64 5] 3)) fun e w' => e = .returned (.bool false) ∧ Hid (Below w.heap.size w w') := by
  have hr := h.kept (World.grownBy_alloc w (.cells #[.int .i64 5] 3) none) (by simp) (by simp)
  have hs := slI_new w [5]
  have hz : ∀ x ∈ ([5] : List Int), fit64 x := by decide
  refine (fits_any r b L D (by omega) (some ⟨w.heap.size, 0, none⟩) 1 [5] (by decide) hz _ hr hs).mono ?_
  rintro e w' ⟨c, rfl, hc⟩
  have hcv : c = false := by cases c with | false => rfl | true => exact absurd (hc.out.1.1 rfl) (fits2 hL)
  subst hcv
  exact ⟨rfl, ((Below.refl _ w).alloc (Nat.le_refl _) _).trans (hc.out.2.mono (by simp))⟩
theorem fitsC (r b : Nat) (L : List Pr) (D : DU) (hn : L.length ≤ 3) (hL : ∀ q, q ∈ L ↔ q ∈ l0) (w : World) (h : RelAt r b L D w) :
    Calls Try.prog 24 #[.pointer (some ⟨r, 0, none⟩), .slice (some ⟨w.heap.size, 0, none⟩) 3 3] (w.alloc (.cells #[.int .i64 2, .int .i64 9, .int .i64 1] 3)) fun e w' => e = .returned (.bool false) ∧ Hid (Below w.heap.size w w') := by
  have hr := h.kept (World.grownBy_alloc w (.cells #[.int .i64 2, .int .i64 9, .int .i64 1] 3) none) (by simp) (by simp)
  have hs := slI_new w [2, 9, 1]
  have hz : ∀ x ∈ ([2, 9, 1] : List Int), fit64 x := by decide
  refine (fits_any r b L D (by omega) (some ⟨w.heap.size, 0, none⟩) 3 [2, 9, 1] (by decide) hz _ hr hs).mono ?_
  rintro e w' ⟨c, rfl, hc⟩
  have hcv : c = false := by cases c with | false => rfl | true => exact absurd (hc.out.1.1 rfl) (fits3 hL)
  subst hcv
  exact ⟨rfl, ((Below.refl _ w).alloc (Nat.le_refl _) _).trans (hc.out.2.mono (by simp))⟩
set_option maxHeartbeats 4000000 in
set_option maxRecDepth 100000 in
theorem first_any (w : World) : Calls Try.prog 9 #[] w fun e w' => e = .returned (.bool true) ∧ Hid (Below w.heap.size w w') := by
  obtain ⟨W0, hW0⟩ : ∃ W, w.alloc (.cells #[.int .i64 2, .int .i64 3, .int .i64 1, .int .i64 2, .int .i64 5, .int .i64 5] 29) = W := ⟨_, rfl⟩
  have hrow : W0.ownsRow w.heap.size 29 2 (.slice (some ⟨w.heap.size, 0, none⟩) 3 3) 3 (flat l0) := by
    rw [← hW0]
    exact ⟨rfl, .inr ⟨_, 3, _, rfl, Nat.le_refl _, World.alloc_heap_new w _, Nat.le_refl _, by decide, rfl, rfl⟩⟩
  have hb0 : Below w.heap.size w W0 := by rw [← hW0]; exact (Below.refl _ _).alloc (Nat.le_refl _) _
  have Hb0 := Lib.hid hb0
  have hsl : SlP W0 (some ⟨w.heap.size, 0, none⟩) l0 := by
    obtain ⟨a, c, e, _, h⟩ := row_slP hrow
    cases e
    exact h
  have Hmade : Hid (Calls Try.prog 21 #[.slice (some ⟨w.heap.size, 0, none⟩) 3 3] W0 fun e w' => ∃ r b L D a' c', e = .returned (.tuple #[.pointer (some ⟨r, 0, none⟩), .slice a' 3 c']) ∧ Hid (RelAt r b L D w' ∧ (∀ q, q ∈ L ↔ q ∈ l0) ∧ SlP w' a' (putAll l0) ∧ Below W0.heap.size W0 w' ∧ W0.heap.size ≤ r ∧ W0.heap.size ≤ b)) := by
    have e3 : (putAll l0).length = 3 := by decide
    have h1 := made_any (some ⟨w.heap.size, 0, none⟩) 3 l0 (by decide) l0_fit W0 hsl
    rw [e3] at h1
    exact h1
  clear hrow hb0 hsl
  go_enter Try.func9, Try.ntmps9
  go_wp2_with (first
    | (go_at_call 21; refine Hmade.out.mono ?_; rintro e w1 ⟨r, b, L, D, a1, c1, rfl, h1⟩
       have Hr1 := Lib.hid h1.out.1
       have HL := Lib.hid h1.out.2.1
       have Hb1 : Hid (Below w.heap.size w w1) := Hb0.out.trans (h1.out.2.2.2.1.mono Hb0.out.size)
       have hln : L.length ≤ 3 := nodup_len h1.out.1.prs.once (fun p hp => (h1.out.2.1 p).1 hp)
       have Hln := Lib.hid hln
       have His : Hid (Calls Try.prog 20 #[.pointer (some ⟨r, 0, none⟩), .slice a1 3 c1] w1 fun e w' => e = .returned (.bool true) ∧ Hid (Below w1.heap.size w1 w')) := is_any r b L D (by omega) a1 c1 (putAll l0) (rise_putAll l0) (fun q => (h1.out.2.1 q).trans (mem_putAll l0 q).symm) w1 h1.out.1 h1.out.2.2.1
       clear h1 hln)
    | (go_at_call 20; refine His.out.mono ?_; rintro e w2 ⟨rfl, h2⟩
       have Hr2 := Lib.hid (Hr1.out.below h2.out)
       have Hb2 : Hid (Below w.heap.size w w2) := Hb1.out.trans (h2.out.mono Hb1.out.size)
       clear h2)
    | (go_at_call 22; refine (closure_any r b L D (by have := Hln.out; omega) (tc_bound (by have := Hln.out; omega)) w2 Hr2.out).mono ?_; rintro e w3 ⟨r3, b3, M, DM, rfl, h3⟩
       have Hr3 := Lib.hid (Hr2.out.below h3.out.2.2.1)
       have Hm3 := Lib.hid h3.out.1
       have Hb3 : Hid (Below w.heap.size w w3) := Hb2.out.trans (h3.out.2.2.1.mono Hb2.out.size)
       have HM4 : Hid (M.length = 4) := l0_len HL.out h3.out.1.prs.once h3.out.2.1
       have HM13 : Hid (decide (((1 : Int), (3 : Int)) ∈ M) = true) := by show _ = _; exact decide_eq_true ((h3.out.2.1 (1, 3)).2 ((l0_tc HL.out).2 (by simp)))
       clear h3)
    | (go_at_call 12; refine (has_any r3 b3 M DM (1, 3) ⟨by decide, by decide⟩ w3 Hm3.out).mono ?_; rw [HM13.out]; rintro e w4 ⟨rfl, h4⟩
       have Hm4 := Lib.hid (Hm3.out.below h4.out)
       have Hr4 := Lib.hid (Hr3.out.below h4.out)
       have Hb4 : Hid (Below w.heap.size w w4) := Hb3.out.trans (h4.out.mono Hb3.out.size)
       clear h4)
    | (go_at_call 35; refine (len_any r3 b3 M DM w4 Hm4.out).mono ?_; rw [HM4.out]; rintro e w5 ⟨rfl, rfl⟩)
    | (go_at_call 26; refine (circle_any r b L D (by have := Hln.out; omega) w4 Hr4.out).mono ?_; rintro e w6 ⟨c6, rfl, h6⟩
       have hc6 : c6 = true := h6.out.1.2 ⟨5, (l0_tc HL.out).2 (by simp)⟩
       subst hc6
       have Hr6 := Lib.hid (Hr4.out.below h6.out.2)
       have Hb6 : Hid (Below w.heap.size w w6) := Hb4.out.trans (h6.out.2.mono Hb4.out.size)
       clear h6)
    | (go_at_call 24; with_reducible refine (fitsA r b L D Hln.out HL.out w6 Hr6.out).mono ?_; rintro e w7 ⟨rfl, h7⟩
       have Hr7 := Lib.hid (Hr6.out.below h7.out)
       have Hb7 : Hid (Below w.heap.size w w7) := Hb6.out.trans (h7.out.mono Hb6.out.size)
       clear h7)
    | (go_at_call 24; with_reducible refine (fitsB r b L D Hln.out HL.out w7 Hr7.out).mono ?_; rintro e w8 ⟨rfl, h8⟩
       have Hr8 := Lib.hid (Hr7.out.below h8.out)
       have Hb8 : Hid (Below w.heap.size w w8) := Hb7.out.trans (h8.out.mono Hb7.out.size)
       clear h8)
    | (go_at_call 24; with_reducible refine (fitsC r b L D Hln.out HL.out w8 Hr8.out).mono ?_; rintro e w9 ⟨rfl, h9⟩
       have Hr9 := Lib.hid (Hr8.out.below h9.out)
       have Hb9 : Hid (Below w.heap.size w w9) := Hb8.out.trans (h9.out.mono Hb8.out.size)
       clear h9)
    | go_in)
  go_ret
  exact ⟨rfl, Hb9.out⟩
end Go.Proofs.Ytadlgkakjaecdaa
