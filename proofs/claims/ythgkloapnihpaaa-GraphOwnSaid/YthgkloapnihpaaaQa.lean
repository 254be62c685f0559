/- The document's Kinds, pairs, Out: contracts. -/
import Derived.Test.YthgkloapnihpaaaLk
namespace Go.Proofs.Ythgkloapnihpaaa
open Go.RowKit Go.Maps Go.WideMaps Go.WideElems Go.ChangeShapes Go.WideShapes

theorem takeE_next {E : List Ed} {q : Nat} (h : q < E.length) : E.take (q + 1) = E.take q ++ [E.getD q e0] := by
  rw [List.take_add_one, List.getElem?_eq_getElem h, List.getD_eq_getElem?_getD, List.getElem?_eq_getElem h]
  rfl
theorem kinds_yes {E : List Ed} (hE : RiseE E) {q : Nat} (h : q < E.length) {x y z : Int} (he : E.getD q e0 = (x, y, z)) : putI (kindsE (E.take q) x y) z = kindsE (E.take (q + 1)) x y := by
  refine riseI_ext (rise_putI z (rise_kindsE (hE.sublist (List.take_sublist _ _)) x y)) (rise_kindsE (hE.sublist (List.take_sublist _ _)) x y) fun k => ?_
  rw [mem_putI, mem_kindsE, mem_kindsE, takeE_next h, List.mem_append, List.mem_singleton, he]
  constructor
  · rintro (rfl | h1)
    · exact .inr rfl
    · exact .inl h1
  · rintro (h1 | h1)
    · exact .inr h1
    · exact .inl (by simpa using h1)
theorem kinds_skip {E : List Ed} {q : Nat} (h : q < E.length) {x y a b z : Int} (he : E.getD q e0 = (a, b, z)) (hn : ¬ (a = x ∧ b = y)) : kindsE (E.take (q + 1)) x y = kindsE (E.take q) x y := by
  unfold kindsE
  rw [takeE_next h, List.filter_append, he]
  have : ((a == x) && (b == y)) = false := by
    rw [Bool.and_eq_false_iff]
    by_cases e : a = x
    · exact .inr (by simpa using fun e2 => hn ⟨e, e2⟩)
    · exact .inl (by simpa using e)
  simp [this]
set_option maxHeartbeats 8000000 in
set_option maxRecDepth 100000 in
theorem dkinds_any (a a' : Option Addr) (k k' n m : Nat) (E : List Ed) (x y : Int) (hE : RiseE E) (hm : E.length = m) (hm5 : m ≤ 10000) (w : World) (h : SlE w a' E) :
    Calls Try.prog 19 #[gval a n k a' m k', iv x, iv y] w fun e w' => ∃ p c, e = .returned (.slice p (kindsE E x y).length c) ∧ Hid (SlI w' p (kindsE E x y) ∧ Below w.heap.size w w') := by
  obtain ⟨W1, hW1, Hb1, hs1, Hx1⟩ := two_any w (.slice a n k) (.slice a' m k') 29
  have HE := Lib.hid (h.gro Hb1.out (Nat.le_refl _))
  have Hm := Lib.hid hm
  have HR := Lib.hid hE
  have HSall : Hid (∀ W, Below W1.heap.size W1 W → W.cell? ⟨w.heap.size, 0, none⟩ = some (.slice a n k) ∧ W.cell? ⟨w.heap.size, 1, none⟩ = some (.slice a' m k')) := fun W hb => two_at ((hb.block _ hs1.out).trans Hx1.out)
  clear h hm hE
  go_enter Try.func19, Try.ntmps19
  go_wp2
  try go_frame
  go_loopw [7, 8] (fun v7 i wr => ∃ (q : Nat) (p : Option Addr) (c : Nat), q ≤ m ∧ i = .int .i64 ((q : Nat) : Int) ∧ v7 = .slice p (kindsE (E.take q) x y).length c ∧ Hid (SlI wr p (kindsE (E.take q) x y) ∧ Below W1.heap.size W1 wr)) (fun _ i _ => m - (intOf i).toNat)
  case atStart => exact ⟨0, none, 0, Nat.zero_le _, rfl, rfl, .inl rfl, Below.refl _ _⟩
  case round =>
    obtain ⟨q, p, c, hq, rfl, rfl, HK⟩ := hrel
    obtain ⟨wa, hwa⟩ : ∃ wa, wa = wr := ⟨_, rfl⟩
    subst hwa
    obtain ⟨x0, x1⟩ := HSall.out wa HK.out.2
    by_cases hlt : q < m
    · have hqo : q < E.length := by rw [Hm.out]; exact hlt
      obtain ⟨e, he⟩ : ∃ e, E.getD q e0 = e := ⟨_, rfl⟩
      obtain ⟨f1, f2, f3⟩ := e
      have hbE := HE.out.gro HK.out.2 (Nat.le_refl _)
      obtain ⟨be, oe, rfl, -⟩ := hbE.at hqo
      obtain ⟨c0, c1, c2⟩ := hbE.cells hqo he
      have hltI : (q : Int) < (m : Int) := by omega
      have hq0 : (0 : Int) ≤ (q : Int) := by omega
      have Hlt := Lib.hid hlt
      have hkl : (kindsE (E.take q) x y).length ≤ 10000 := Nat.le_trans (kinds_len _ _ _) (by rw [List.length_take]; omega)
      by_cases hxy : f1 = x ∧ f2 = y
      · obtain ⟨rfl, rfl⟩ := hxy
        have hst := kinds_yes HR.out hqo he
        have HP := Lib.hid (puti_at p c (kindsE (E.take q) f1 f2) f3 (by omega) wa HK.out.1)
        have Hst := Lib.hid hst
        rw [hst] at HP
        have Hkl := Lib.hid hkl
        obtain ⟨kl, hkle⟩ : ∃ kl, (kindsE (E.take q) f1 f2).length = kl := ⟨_, rfl⟩
        rw [hkle] at HP ⊢
        clear hbE hqo he hst hkl hkle
        go_wp2_with (first
          | (go_at_call 42; (with_reducible refine HP.out.mono ?_); rintro e w3 ⟨p3, c3, rfl, K3⟩)
          | go_in)
        go_roundw
        case rel => exact ⟨q + 1, p3, c3, Hlt.out, by go_num, rfl, K3.out.1, HK.out.2.trans (K3.out.2.1.mono HK.out.2.size)⟩
        case measure => simp [intOf]; omega
      · have Hst := Lib.hid (kinds_skip hqo he hxy)
        have HK2 : Hid (SlI wa p (kindsE (E.take q) x y) ∧ Below W1.heap.size W1 wa) := HK.out
        by_cases h1 : f1 = x
        · subst h1
          have h2 : ¬ f2 = y := fun e => hxy ⟨rfl, e⟩
          have e1 : (f2 == y) = false := by simpa using h2
          clear hbE hqo he hkl hxy
          go_wp2
          go_roundw
          case rel => exact ⟨q + 1, p, c, Hlt.out, by go_num, by rw [Hst.out], by rw [Hst.out]; exact HK2.out.1, HK2.out.2⟩
          case measure => simp [intOf]; omega
        · have e1 : (f1 == x) = false := by simpa using h1
          clear hbE hqo he hkl hxy
          go_wp2
          go_roundw
          case rel => exact ⟨q + 1, p, c, Hlt.out, by go_num, by rw [Hst.out], by rw [Hst.out]; exact HK2.out.1, HK2.out.2⟩
          case measure => simp [intOf]; omega
    · have hqm : q = m := by omega
      subst hqm
      have e1 : E.take q = E := List.take_of_length_le (by rw [Hm.out]; exact Nat.le_refl _)
      rw [e1] at HK ⊢
      clear e1
      go_wp2
      go_ret
      exact ⟨p, c, rfl, HK.out.1, Hb1.out.trans (HK.out.2.mono Hb1.out.size)⟩
/-- The edges without their kinds. -/
def pairsE (E : List Ed) : List Pr := E.foldl (fun l e => putP l (e.1, e.2.1)) []
theorem pairs_next {E : List Ed} {q : Nat} (h : q < E.length) {x y z : Int} (he : E.getD q e0 = (x, y, z)) : pairsE (E.take (q + 1)) = putP (pairsE (E.take q)) (x, y) := by
  unfold pairsE
  rw [takeE_next h, List.foldl_append, he]
  rfl
theorem pairs_fold_len : ∀ (E : List Ed) (l : List Pr), (E.foldl (fun l e => putP l (e.1, e.2.1)) l).length ≤ l.length + E.length
  | [], l => by simp
  | e :: E, l => by
    have h1 := pairs_fold_len E (putP l (e.1, e.2.1))
    have h2 := putP_length l (e.1, e.2.1)
    simp only [List.foldl_cons, List.length_cons]
    omega
theorem pairsE_len (E : List Ed) : (pairsE E).length ≤ E.length := by
  have := pairs_fold_len E []
  simpa [pairsE] using this
theorem pairs_fold_mem {x y : Int} : ∀ {E : List Ed} {l : List Pr}, (x, y) ∈ E.foldl (fun l e => putP l (e.1, e.2.1)) l ↔ (x, y) ∈ l ∨ EdR E x y
  | [], l => by simp [EdR]
  | (a, b, c) :: E, l => by
    rw [List.foldl_cons, pairs_fold_mem, mem_putP]
    unfold EdR
    constructor
    · rintro ((h | h) | ⟨k, h⟩)
      · cases h
        exact .inr ⟨c, by simp⟩
      · exact .inl h
      · exact .inr ⟨k, by simp [h]⟩
    · rintro (h | ⟨k, h⟩)
      · exact .inl (.inr h)
      · rcases List.mem_cons.1 h with h | h
        · cases h
          exact .inl (.inl rfl)
        · exact .inr ⟨k, h⟩
theorem mem_pairsE {E : List Ed} {x y : Int} : (x, y) ∈ pairsE E ↔ EdR E x y := by
  unfold pairsE
  rw [pairs_fold_mem]
  simp
theorem behind_pairs {N : List Int} {E : List Ed} (hN : RiseI N) (hE : EndsIn N E) (x : Int) : behindI (pairsE E) x = outsE N E x := by
  refine riseI_ext (rise_behindI _ _) (hN.filter _) fun z => ?_
  rw [mem_behindI, mem_pairsE, mem_outsE hE]
set_option maxHeartbeats 8000000 in
set_option maxRecDepth 100000 in
theorem pairs_any (a a' : Option Addr) (k k' n m : Nat) (E : List Ed) (hm : E.length = m) (hm5 : m ≤ 10000) (w : World) (h : SlE w a' E) :
    Calls Try.prog 47 #[gval a n k a' m k'] w fun e w' => ∃ p c, e = .returned (.slice p (pairsE E).length c) ∧ Hid (SlP w' p (pairsE E) ∧ Below w.heap.size w w') := by
  obtain ⟨W1, hW1, Hb1, hs1, Hx1⟩ := two_any w (.slice a n k) (.slice a' m k') 29
  have HE := Lib.hid (h.gro Hb1.out (Nat.le_refl _))
  have Hm := Lib.hid hm
  have HSall : Hid (∀ W, Below W1.heap.size W1 W → W.cell? ⟨w.heap.size, 0, none⟩ = some (.slice a n k) ∧ W.cell? ⟨w.heap.size, 1, none⟩ = some (.slice a' m k')) := fun W hb => two_at ((hb.block _ hs1.out).trans Hx1.out)
  clear h hm
  go_enter Try.func47, Try.ntmps47
  go_wp2
  try go_frame
  go_loopw [3, 4] (fun v3 i wr => ∃ (q : Nat) (p : Option Addr) (c : Nat), q ≤ m ∧ i = .int .i64 ((q : Nat) : Int) ∧ v3 = .slice p (pairsE (E.take q)).length c ∧ Hid (SlP wr p (pairsE (E.take q)) ∧ Below W1.heap.size W1 wr)) (fun _ i _ => m - (intOf i).toNat)
  case atStart => exact ⟨0, none, 0, Nat.zero_le _, rfl, rfl, .inl rfl, Below.refl _ _⟩
  case round =>
    obtain ⟨q, p, c, hq, rfl, rfl, HK⟩ := hrel
    obtain ⟨wa, hwa⟩ : ∃ wa, wa = wr := ⟨_, rfl⟩
    subst hwa
    obtain ⟨x0, x1⟩ := HSall.out wa HK.out.2
    by_cases hlt : q < m
    · have hqo : q < E.length := by rw [Hm.out]; exact hlt
      obtain ⟨e, he⟩ : ∃ e, E.getD q e0 = e := ⟨_, rfl⟩
      obtain ⟨f1, f2, f3⟩ := e
      have hbE := HE.out.gro HK.out.2 (Nat.le_refl _)
      obtain ⟨be, oe, rfl, -⟩ := hbE.at hqo
      obtain ⟨c0, c1, c2⟩ := hbE.cells hqo he
      have hltI : (q : Int) < (m : Int) := by omega
      have hq0 : (0 : Int) ≤ (q : Int) := by omega
      have Hlt := Lib.hid hlt
      have hkl : (pairsE (E.take q)).length ≤ 10000 := Nat.le_trans (pairsE_len _) (by rw [List.length_take]; omega)
      have HP := Lib.hid (put9_any p c (pairsE (E.take q)) f1 f2 (by omega) wa.drew (HK.out.1.below (Below.refl _ _).drew))
      rw [← pairs_next hqo he] at HP
      obtain ⟨kl, hkle⟩ : ∃ kl, (pairsE (E.take q)).length = kl := ⟨_, rfl⟩
      rw [hkle] at HP ⊢
      have HBd : Hid (Below W1.heap.size W1 wa.drew) := HK.out.2.drew
      clear hbE hqo he hkl hkle
      go_wp2
      go_still_tail 13, (by kernel_rfl)
      change wpList _ _ _ _ _ wa.drew
      generalize wa.drew = wd at *
      go_wp2_with (first
        | (go_at_call 70; (with_reducible refine HP.out.mono ?_); rintro e w3 ⟨p3, c3, rfl, K3⟩)
        | go_in)
      go_roundw
      case rel => exact ⟨q + 1, p3, c3, Hlt.out, by go_num, rfl, K3.out.1, HBd.out.trans (K3.out.2.mono HBd.out.size)⟩
      case measure => simp [intOf]; omega
    · have hqm : q = m := by omega
      subst hqm
      have e1 : E.take q = E := List.take_of_length_le (by rw [Hm.out]; exact Nat.le_refl _)
      rw [e1] at HK ⊢
      clear e1
      go_wp2
      go_ret
      exact ⟨p, c, rfl, HK.out.1, Hb1.out.trans (HK.out.2.mono Hb1.out.size)⟩
set_option maxHeartbeats 8000000 in
set_option maxRecDepth 100000 in
theorem dout_any (a a' : Option Addr) (k k' n m : Nat) (N : List Int) (E : List Ed) (x : Int) (hN : RiseI N) (hE : EndsIn N E) (hm : E.length = m) (hm5 : m ≤ 10000) (w : World) (h : SlE w a' E) :
    Calls Try.prog 21 #[gval a n k a' m k', iv x] w fun e w' => ∃ p c, e = .returned (.slice p (outsE N E x).length c) ∧ Hid (SlI w' p (outsE N E x) ∧ Below w.heap.size w w') := by
  obtain ⟨W1, hW1, Hb1, hs1, Hx1⟩ := two_any w (.slice a n k) (.slice a' m k') 29
  have HPs := Lib.hid (pairs_any a a' k k' n m E hm hm5 W1 (h.gro Hb1.out (Nat.le_refl _)))
  obtain ⟨x0, x1⟩ := two_at Hx1.out
  have Heq := Lib.hid (behind_pairs hN hE x)
  have hl : (pairsE E).length ≤ 100000 := by have := pairsE_len E; omega
  have Hl := Lib.hid hl
  clear h hN hE hm hl
  go_enter Try.func21, Try.ntmps21
  go_wp2_with (first
    | (go_at_call 47; (with_reducible refine HPs.out.mono ?_); rintro e w2 ⟨p2, c2, rfl, K2⟩
       have HB := Lib.hid (behind9_any p2 c2 (pairsE E) x Hl.out w2 K2.out.1)
       rw [Heq.out] at HB)
    | (go_at_call 46; (with_reducible refine HB.out.mono ?_); rintro e w3 ⟨p3, c3, rfl, K3⟩)
    | go_in)
  go_ret
  exact ⟨p3, c3, rfl, K3.out.1, Hb1.out.trans ((K2.out.2.trans (K3.out.2.mono K2.out.2.size)).mono Hb1.out.size)⟩
end Go.Proofs.Ythgkloapnihpaaa
