/- The document's Reach, start, Topo: contracts. -/
import Derived.Test.YthgkloapnihpaaaQb
namespace Go.Proofs.Ythgkloapnihpaaa
open Go.RowKit Go.Maps Go.WideMaps Go.WideElems Go.ChangeShapes Go.WideShapes

set_option maxHeartbeats 8000000 in
set_option maxRecDepth 100000 in
theorem dreach_any (a a' : Option Addr) (k k' n m : Nat) (E : List Ed) (x : Int) (hm : E.length = m) (hm5 : m ≤ 10000) (w : World) (h : SlE w a' E) :
    Calls Try.prog 25 #[gval a n k a' m k', iv x] w fun e w' => ∃ p c r, e = .returned (.slice p (r : List Int).length c) ∧ Hid (SlI w' p r ∧ RiseI r ∧ r.length ≤ m ∧ (∀ z, z ∈ r ↔ TCR (EdR E) x z) ∧ Below w.heap.size w w') := by
  obtain ⟨W1, hW1, Hb1, hs1, Hx1⟩ := two_any w (.slice a n k) (.slice a' m k') 29
  have HPs := Lib.hid (pairs_any a a' k k' n m E hm hm5 W1 (h.gro Hb1.out (Nat.le_refl _)))
  obtain ⟨x0, x1⟩ := two_at Hx1.out
  have hl : (pairsE E).length ≤ 10000 := by have := pairsE_len E; omega
  have Hl := Lib.hid hl
  have Hm := Lib.hid hm
  clear h hm hl
  go_enter Try.func25, Try.ntmps25
  go_wp2_with (first
    | (go_at_call 47; (with_reducible refine HPs.out.mono ?_); rintro e w2 ⟨p2, c2, rfl, K2⟩
       have HB := Lib.hid (reach_any p2 c2 (pairsE E) x Hl.out w2 K2.out.1))
    | (go_at_call 49; (with_reducible refine HB.out.mono ?_); rintro e w3 ⟨p3, c3, n3, r, rfl, K3⟩)
    | go_in)
  go_ret
  obtain ⟨k1, k2, k3, k4, k5, -⟩ := K3.out
  have hmem : ∀ z, z ∈ r ↔ TCR (EdR E) x z := fun z => (k3 z).trans (tc_tcr fun a b => mem_pairsE)
  refine ⟨p3, c3, r, by rw [k1]; rfl, k4, k2, ?_, hmem, Hb1.out.trans ((K2.out.2.trans (k5.mono K2.out.2.size)).mono Hb1.out.size)⟩
  have hsub : ∀ z ∈ r, z ∈ E.map fun e => e.2.1 := fun z hz => by
    obtain ⟨y, hy⟩ := tcr_last ((hmem z).1 hz)
    obtain ⟨c, hc⟩ := hy
    exact List.mem_map.2 ⟨(y, z, c), hc, rfl⟩
  have := len_le (k2.imp fun h => by omega) hsub
  rw [List.length_map, Hm.out] at this
  exact this
theorem in_n (p : Option Addr) (c n : Nat) {l : List Int} (x : Int) (hl : l.length = n) (hn : n ≤ 100000) (w : World) (h : SlI w p l) :
    Calls Try.prog 55 #[.slice p n c, iv x] w fun e w' => e = .returned (.bool (decide (x ∈ l))) ∧ Hid (Below w.heap.size w w') := by
  subst hl
  refine (in_any p c l x hn w h).mono ?_
  rintro e w' ⟨rfl, rfl⟩
  exact ⟨rfl, Below.refl _ _⟩
open Classical in
theorem start_here {R : Int → Int → Prop} {N : List Int} {q : Nat} (hq : q < N.length) (h : ∀ j, j < q → ¬ TCR R (N.getD j 0) (N.getD j 0)) (ht : TCR R (N.getD q 0) (N.getD q 0)) : startZ R N = some (N.getD q 0) := by
  show N.find? _ = _
  exact find_at_place hq (fun j hj => decide_eq_false (h j hj)) (decide_eq_true ht)
set_option maxHeartbeats 16000000 in
set_option maxRecDepth 100000 in
theorem dstart_any (a a' : Option Addr) (k k' n m : Nat) (N : List Int) (E : List Ed) (hn : N.length = n) (hm : E.length = m) (hn5 : n ≤ 500) (hm5 : m ≤ 500) (w : World) (h : SlI w a N) (h' : SlE w a' E) :
    Calls Try.prog 53 #[gval a n k a' m k'] w fun e w' => ∃ s ok, e = .returned (.tuple #[iv s, .bool ok]) ∧ Hid (startZ (EdR E) N = (if ok = true then some s else none) ∧ Below w.heap.size w w') := by
  obtain ⟨W1, hW1, Hb1, hs1, Hx1⟩ := two_any w (.slice a n k) (.slice a' m k') 29
  have HN := Lib.hid (h.gro Hb1.out (Nat.le_refl _))
  have HE := Lib.hid (h'.gro Hb1.out (Nat.le_refl _))
  have Hn := Lib.hid hn
  have Hm := Lib.hid hm
  have HBox : Hid (∀ W, Below W1.heap.size W1 W → W.cell? ⟨w.heap.size, 0, none⟩ = some (.slice a n k) ∧ W.cell? ⟨w.heap.size, 1, none⟩ = some (.slice a' m k')) := fun W hb => two_at ((hb.block _ hs1.out).trans Hx1.out)
  clear h h' hn hm
  go_enter Try.func53, Try.ntmps53
  go_wp2
  try go_frame
  go_loopw [4] (fun i wr => ∃ q : Nat, q ≤ n ∧ i = .int .i64 ((q : Nat) : Int) ∧ Hid (Below W1.heap.size W1 wr ∧ ∀ j, j < q → ¬ TCR (EdR E) (N.getD j 0) (N.getD j 0))) (fun i _ => n - (intOf i).toNat)
  case atStart => exact ⟨0, Nat.zero_le _, rfl, Below.refl _ _, fun j hj => absurd hj (by omega)⟩
  case round =>
    obtain ⟨q, hq, rfl, HR⟩ := hrel
    obtain ⟨wa, hwa⟩ : ∃ wa, wa = wr := ⟨_, rfl⟩
    subst hwa
    obtain ⟨x0, x1⟩ := HBox.out wa HR.out.1
    by_cases hlt : q < n
    · have hqo : q < N.length := by rw [Hn.out]; exact hlt
      obtain ⟨b7, o7, rfl, c0⟩ := (HN.out.gro HR.out.1 (Nat.le_refl _)).at hqo
      have HS : Hid (∀ W, Below W1.heap.size W1 W → W.cell? ⟨w.heap.size, 0, none⟩ = some (.slice (some ⟨b7, o7, none⟩) n k) ∧ W.cell? ⟨w.heap.size, 1, none⟩ = some (.slice a' m k') ∧ W.cell? ⟨b7, o7 + q, none⟩ = some (iv (N.getD q 0))) := fun W hb => ⟨(HBox.out W hb).1, (HBox.out W hb).2, (HN.out.gro hb (Nat.le_refl _)).cell1 hqo rfl⟩
      have Hfst : Hid (TCR (EdR E) (N.getD q 0) (N.getD q 0) → startZ (EdR E) N = some (N.getD q 0)) := fun ht => by
        exact start_here hqo HR.out.2 ht
      have Hnxt : Hid (¬ TCR (EdR E) (N.getD q 0) (N.getD q 0) → ∀ j, j < q + 1 → ¬ TCR (EdR E) (N.getD j 0) (N.getD j 0)) := fun ht j hj => by
        rcases Nat.lt_succ_iff_lt_or_eq.1 hj with h1 | h1
        · exact HR.out.2 j h1
        · rw [h1]; exact ht
      obtain ⟨x, hx⟩ : ∃ x, N.getD q 0 = x := ⟨_, rfl⟩
      rw [hx] at c0 HS Hfst Hnxt
      have HRe := Lib.hid (dreach_any (some ⟨b7, o7, none⟩) a' k k' n m E x Hm.out (by omega) wa.drew (HE.out.gro HR.out.1.drew (Nat.le_refl _)))
      have hltI : (q : Int) < (n : Int) := by omega
      have hq0 : (0 : Int) ≤ (q : Int) := by omega
      have Hlt := Lib.hid hlt
      clear hqo hx
      by_cases ht : TCR (EdR E) x x
      · have Ht := Lib.hid (Hfst.out ht)
        have HTt := Lib.hid ht
        clear ht
        go_wp2
        go_region_held3 (fun w' => w'.cell? ⟨w.heap.size, 0, none⟩ = some (.slice (some ⟨b7, o7, none⟩) n k) ∧ w'.cell? ⟨w.heap.size, 1, none⟩ = some (.slice a' m k') ∧ w'.cell? ⟨b7, o7 + q, none⟩ = some (iv x)) (first | (with_reducible exact HS.out _ HB9.out) | (with_reducible exact HS.out _ HB8.out) | go_keep)
          (first
            | (go_at_call 25; refine HRe.out.mono ?_; rintro e w8 ⟨p8, c8, r8, rfl, K8⟩
               have HB8 : Hid (Below W1.heap.size W1 w8) := HR.out.1.drew.trans (K8.out.2.2.2.2.mono HR.out.1.drew.size)
               have HI := Lib.hid (in_n p8 c8 _ x rfl (by have := K8.out.2.2.1; omega) w8 K8.out.1)
               rw [decide_eq_true ((K8.out.2.2.2.1 x).2 HTt.out)] at HI)
            | (go_at_call 55; (with_reducible refine HI.out.mono ?_); rintro e w9 ⟨rfl, K9⟩
               have HB9 : Hid (Below W1.heap.size W1 w9) := HB8.out.trans (K9.out.mono HB8.out.size)))
        obtain ⟨y0, y1, y2⟩ := HS.out w9 HB9.out
        go_wp2
        go_ret2
        exact ⟨x, true, rfl, Ht.out, Hb1.out.trans (HB9.out.mono Hb1.out.size)⟩
      · have HTn := Lib.hid ht
        clear ht
        go_wp2
        go_region_held3 (fun w' => w'.cell? ⟨w.heap.size, 0, none⟩ = some (.slice (some ⟨b7, o7, none⟩) n k) ∧ w'.cell? ⟨w.heap.size, 1, none⟩ = some (.slice a' m k') ∧ w'.cell? ⟨b7, o7 + q, none⟩ = some (iv x)) (first | (with_reducible exact HS.out _ HB9.out) | (with_reducible exact HS.out _ HB8.out) | go_keep)
          (first
            | (go_at_call 25; refine HRe.out.mono ?_; rintro e w8 ⟨p8, c8, r8, rfl, K8⟩
               have HB8 : Hid (Below W1.heap.size W1 w8) := HR.out.1.drew.trans (K8.out.2.2.2.2.mono HR.out.1.drew.size)
               have HI := Lib.hid (in_n p8 c8 _ x rfl (by have := K8.out.2.2.1; omega) w8 K8.out.1)
               rw [decide_eq_false (fun h => HTn.out ((K8.out.2.2.2.1 x).1 h))] at HI)
            | (go_at_call 55; (with_reducible refine HI.out.mono ?_); rintro e w9 ⟨rfl, K9⟩
               have HB9 : Hid (Below W1.heap.size W1 w9) := HB8.out.trans (K9.out.mono HB8.out.size)))
        go_wp2
        go_roundw
        case rel => exact ⟨q + 1, Hlt.out, by go_num, HB9.out, Hnxt.out HTn.out⟩
        case measure => simp [intOf]; omega
    · have hqn : n = q := by omega
      subst hqn
      have HZ : Hid (startZ (EdR E) N = none) := startZ_no.2 fun y hy => by
        obtain ⟨j, hj, rfl⟩ := List.mem_iff_getElem.1 hy
        have := HR.out.2 j (by rw [← Hn.out]; exact hj)
        rwa [List.getD_eq_getElem?_getD, List.getElem?_eq_getElem hj] at this
      go_wp2
      go_ret2
      exact ⟨0, false, rfl, HZ.out, Hb1.out.trans (HR.out.1.mono Hb1.out.size)⟩
end Go.Proofs.Ythgkloapnihpaaa
