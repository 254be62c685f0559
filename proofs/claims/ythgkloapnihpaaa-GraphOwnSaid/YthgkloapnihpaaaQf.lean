/- The document's far: a contract. -/
import Derived.Test.YthgkloapnihpaaaQe
import Derived.StillTailTactics
import Derived.Laws.MakeOwn
namespace Go.Proofs.Ythgkloapnihpaaa
open Go.RowKit Go.Maps Go.WideMaps Go.WideElems Go.ChangeShapes Go.WideShapes

theorem make_row (n : Nat) (hn : n ≤ 1000) (w : World) : ∃ W, (Instr.makeSlice 23 (.int .i64 n) (.int .i64 n)).run Try.prog w = .ok (.slice (some ⟨w.heap.size, 0, none⟩) n n) W ∧ Hid (Below w.heap.size w W) ∧ Hid (w.heap.size < W.heap.size) ∧ Hid (W.heap[w.heap.size]? = some (.cells (List.replicate n (Value.int .i64 0)).toArray 3)) := by
  obtain ⟨i0, hi, hz0, hz1, hz2⟩ := info_parts elem3
  have h := run_makeSlice (P := Try.prog) w 23 3 i0 _ Try.underlying23 hi hz0 .i64 .i64 n n (by omega) (Int.le_refl _) (by simp; rw [hz1]; omega) (by rw [hz2]; omega) (by omega)
  rw [hz1] at h
  simp only [Int.toNat_natCast, Nat.mul_one] at h
  obtain ⟨W, hW, Hb, hs, Hx⟩ := obj_any w (.cells (madeCells (Value.int .i64 0).cells n) 3)
  refine ⟨W, h.trans (by rw [hW]), Hb, hs, ?_⟩
  have e : madeCells (Value.int .i64 0).cells n = (List.replicate n (Value.int .i64 0)).toArray := by
    unfold madeCells
    apply Array.ext'
    simp [Value.cells, List.eq_replicate_iff, Nat.mod_one]
  show _ = _
  rw [← e]
  exact Hx.out
/-- A row of so many numbers in a block. -/
def RowF (W : World) (g n : Nat) (f : Nat → Int) : Prop := W.heap[g]? = some (.cells ((List.range n).map fun i => iv (f i)).toArray 3)
theorem RowF.cell {W : World} {g n : Nat} {f : Nat → Int} (h : RowF W g n f) {i : Nat} (hi : i < n) : W.cell? ⟨g, i, none⟩ = some (iv (f i)) := by
  rw [cell_of_row _ _ i _ _ _ h]
  simp [hi]
theorem RowF.thaw {W : World} {g n : Nat} {f : Nat → Int} (h : RowF W g n f) (i : Nat) : W.frozen? ⟨g, i, none⟩ = false := frozen_of_row _ g i _ 3 h
theorem RowF.same {W : World} {g n : Nat} {f f' : Nat → Int} (h : RowF W g n f) (hf : ∀ i, i < n → f i = f' i) : RowF W g n f' := by
  unfold RowF at h ⊢
  rw [h]
  congr 2
  apply congrArg
  refine List.map_congr_left fun i hi => ?_
  rw [hf i (List.mem_range.1 hi)]
theorem RowF.put {W : World} {g n : Nat} {f : Nat → Int} (h : RowF W g n f) (i : Nat) (v : Int) : RowF (W.setCell ⟨g, i, none⟩ (iv v)) g n fun j => if j = i then v else f j := by
  unfold RowF
  rw [heap_setCell_same W g i _ 3 (iv v) h]
  congr 2
  apply Array.ext
  · simp
  · intro j h1 h2
    rw [Array.getElem_setIfInBounds]
    simp
    by_cases e : i = j
    · subst e; simp
    · rw [if_neg e, if_neg (fun e2 => e e2.symm)]
      rw [List.getElem_toArray, List.getElem_map, List.getElem_range]
    · simpa using h1
theorem RowF.below {W W' : World} {g n : Nat} {f : Nat → Int} (h : RowF W g n f) (hb : Below W.heap.size W W') : RowF W' g n f := (hb.block g (Array.getElem?_eq_some_iff.1 h).1).trans h
theorem RowF.zero {W : World} {g n : Nat} (h : W.heap[g]? = some (.cells (List.replicate n (Value.int .i64 0)).toArray 3)) : RowF W g n fun _ => 0 := by
  unfold RowF
  rw [h]
  congr 2
  apply congrArg
  apply List.ext_getElem
  · simp
  · intro i h1 h2
    simp
set_option maxHeartbeats 2000000 in
set_option maxRecDepth 100000 in
theorem behind_at (a : Option Addr) (c : Nat) (l : List Pr) (x : Int) (hn : l.length ≤ 100000) (w : World) (h : SlP w a l) :
    Calls Try.prog 46 #[.slice a l.length c, .int .i64 x] w fun e w' => ∃ a' c', e = .returned (.slice a' (behindI l x).length c') ∧ Hid (SlI w' a' (behindI l x) ∧ Below w.heap.size w w' ∧ ∀ g o, a' = some ⟨g, o, none⟩ → w.heap.size ≤ g) := by
  obtain ⟨n, hnn⟩ : ∃ n, l.length = n := ⟨_, rfl⟩
  rw [hnn] at hn ⊢
  have H := Lib.hid h
  have Hn := Lib.hid hnn
  clear h hnn
  go_enter Try.func46, Try.ntmps46
  go_wp2
  go_loopw [5, 6] (fun v i wr => ∃ (k : Nat) (a5 : Option Addr) (c5 : Nat) (O : List Int), i = .int .i64 k ∧ v = .slice a5 O.length c5 ∧ k ≤ n ∧ Hid (O = behindI (l.take k) x ∧ SlI wr a5 O ∧ Below w.heap.size w wr ∧ ∀ g o, a5 = some ⟨g, o, none⟩ → w.heap.size ≤ g)) (fun _ i _ => n - (intOf i).toNat)
  case atStart => exact ⟨0, none, 0, [], rfl, rfl, Nat.zero_le _, rfl, .inl rfl, Below.refl _ _, fun _ _ e => (nomatch e)⟩
  case round =>
    obtain ⟨k, a5, c5, O, rfl, rfl, hk, HR⟩ := hrel
    by_cases hlt : k < n
    · have hkl : k < l.length := by rw [Hn.out]; exact hlt
      obtain ⟨b', off', rfl, hc0, hc1⟩ := (H.out.below HR.out.2.2.1).at hkl
      have htk : l.take (k + 1) = l.take k ++ [l.getD k (0, 0)] := by
        rw [List.take_add_one, List.getElem?_eq_getElem hkl, List.getD_eq_getElem?_getD, List.getElem?_eq_getElem hkl]
        rfl
      have hol : O.length ≤ 100000 := by
        rw [HR.out.1]
        have h1 := behindI_len (l.take k) x
        rw [List.length_take] at h1
        omega
      have Hput := Lib.hid (puti_at a5 c5 O (l.getD k (0, 0)).2 hol wr HR.out.2.1)
      obtain ⟨q, hq⟩ : ∃ q, l.getD k (0, 0) = q := ⟨_, rfl⟩
      obtain ⟨q1, q2⟩ := q
      rw [hq] at hc0 hc1 htk Hput
      simp only at hc0 hc1 Hput
      have Htk := Lib.hid htk
      by_cases hqx : q1 = x
      · have e1 : (q1 == x) = true := by simpa using hqx
        have HO : Hid (behindI (l.take (k + 1)) x = putI O q2) := by
          show _ = _
          rw [Htk.out, behindI_snoc, HR.out.1]
          simp [hqx]
        clear htk hkl hq hol hqx
        go_wp2_with (first
          | (go_at_call 42; refine Hput.out.mono ?_; rintro e w5 ⟨a7, c7, rfl, h5⟩)
          | go_in)
        have HB : Hid (Below w.heap.size w w5 ∧ ∀ g o, a7 = some ⟨g, o, none⟩ → w.heap.size ≤ g) := ⟨HR.out.2.2.1.trans (h5.out.2.1.mono HR.out.2.2.1.size), fun g o e => h5.out.2.2.elim (fun h6 => HR.out.2.2.2 g o (h6 ▸ e)) (fun h6 => Nat.le_trans HR.out.2.2.1.size (h6 g o e))⟩
        go_wp2
        go_roundw
        case rel => exact ⟨k + 1, a7, c7, _, by go_num, rfl, by omega, HO.out.symm, h5.out.1, HB.out⟩
        case measure => simp [intOf]; omega
      · have e1 : (q1 == x) = false := by simpa using hqx
        have HO : Hid (behindI (l.take (k + 1)) x = O) := by
          show _ = _
          rw [Htk.out, behindI_snoc, HR.out.1]
          simp [hqx]
        clear htk hkl hq hol hqx Hput
        go_wp2
        go_roundw
        case rel => exact ⟨k + 1, a5, c5, _, by go_num, rfl, by omega, HO.out.symm, HR.out.2.1, HR.out.2.2⟩
        case measure => simp [intOf]; omega
    · have hkn : k = n := by omega
      have HO : Hid (O = behindI l x) := by
        have h2 := HR.out.1
        rw [hkn, ← Hn.out, List.take_length] at h2
        exact h2
      subst hkn
      clear hlt hk
      go_wp2
      go_ret
      exact ⟨a5, c5, by rw [← HO.out]; rfl, HO.out ▸ HR.out.2.1, HR.out.2.2⟩

set_option maxHeartbeats 8000000 in
set_option maxRecDepth 100000 in
theorem dout_at (a a' : Option Addr) (k k' n m : Nat) (N : List Int) (E : List Ed) (x : Int) (hN : RiseI N) (hE : EndsIn N E) (hm : E.length = m) (hm5 : m ≤ 10000) (w : World) (h : SlE w a' E) :
    Calls Try.prog 21 #[gval a n k a' m k', iv x] w fun e w' => ∃ p c, e = .returned (.slice p (outsE N E x).length c) ∧ Hid (SlI w' p (outsE N E x) ∧ Below w.heap.size w w' ∧ ∀ g o, p = some ⟨g, o, none⟩ → w.heap.size ≤ g) := by
  obtain ⟨W1, hW1, Hb1, hs1, Hx1⟩ := two_any w (.slice a n k) (.slice a' m k') 29
  have HPs := Lib.hid (pairs_any a a' k k' n m E hm hm5 W1 (h.gro Hb1.out (Nat.le_refl _)))
  obtain ⟨x0, x1⟩ := two_at Hx1.out
  have Heq := Lib.hid (behind_pairs hN hE x)
  have hl : (pairsE E).length ≤ 100000 := by have := pairsE_len E; omega
  have Hl := Lib.hid hl
  clear h hN hE hm hl
  go_enter Try.func21, Try.ntmps21
  go_wp2_with (first
    | (go_at_call 47; (with_reducible refine HPs.out.mono ?_); rintro e w2 ⟨p2, c2, rfl, K2⟩
       have HB := Lib.hid (behind_at p2 c2 (pairsE E) x Hl.out w2 K2.out.1)
       rw [Heq.out] at HB)
    | (go_at_call 46; (with_reducible refine HB.out.mono ?_); rintro e w3 ⟨p3, c3, rfl, K3⟩)
    | go_in)
  go_ret
  have h2 := Hb1.out.trans (K2.out.2.mono Hb1.out.size)
  exact ⟨p3, c3, rfl, K3.out.1, h2.trans (K3.out.2.1.mono h2.size), fun g o e => Nat.le_trans h2.size (K3.out.2.2 g o e)⟩
theorem in_same (p : Option Addr) (c n : Nat) {l : List Int} (x : Int) (hl : l.length = n) (hn : n ≤ 100000) (w : World) (h : SlI w p l) :
    Calls Try.prog 55 #[.slice p n c, iv x] w fun e w' => e = .returned (.bool (decide (x ∈ l))) ∧ w = w' := by
  subst hl
  exact in_any p c l x hn w h
/-- How far each is, while it is reckoned: the first so many one round further, one of them within the round. -/
noncomputable def farI (R : Int → Int → Prop) (s : Int) (N : List Int) (r i j : Nat) : Int := if j < i then farV R s (r + 1) (N.getD j 0) else farV R s r (N.getD j 0)
noncomputable def farK (R : Int → Int → Prop) (s : Int) (N : List Int) (r i k j : Nat) : Int := if j = i then farM R s N r k (N.getD i 0) else farI R s N r i j
theorem farI_is {R : Int → Int → Prop} {s : Int} {N : List Int} {r i j : Nat} : farI R s N r i j = (r : Int) ↔ Dst R s (N.getD j 0) r := by
  unfold farI
  split
  · exact farV_next_is
  · exact farV_is
theorem farK_hit {R : Int → Int → Prop} {s : Int} {N : List Int} {r i k : Nat} (hk : k < N.length) (hM : farM R s N r k (N.getD i 0) < 0) (hv : farK R s N r i k k = (r : Int)) (he : R (N.getD i 0) (N.getD k 0)) : farM R s N r (k + 1) (N.getD i 0) = (r : Int) + 1 := by
  refine farM_hit hk hM ?_ he
  unfold farK at hv
  split at hv
  · rename_i e
    subst e
    omega
  · exact farI_is.1 hv
theorem farK_miss {R : Int → Int → Prop} {s : Int} {N : List Int} {r i k : Nat} (hk : k < N.length) (hM : farM R s N r k (N.getD i 0) < 0) (hv : ¬ (farK R s N r i k k = (r : Int) ∧ R (N.getD i 0) (N.getD k 0))) : farM R s N r (k + 1) (N.getD i 0) = farM R s N r k (N.getD i 0) := by
  refine farM_miss hk fun h => hv ⟨?_, h.2⟩
  unfold farK
  split
  · rename_i e
    subst e
    have h1 := farV_is.2 h.1
    have h2 : 0 ≤ farV R s r (N.getD k 0) := by omega
    unfold farM at hM
    rw [if_pos h2] at hM
    omega
  · exact farI_is.2 h.1
theorem farK_same {R : Int → Int → Prop} {s : Int} {N : List Int} {r i k j : Nat} (h : farM R s N r (k + 1) (N.getD i 0) = farM R s N r k (N.getD i 0)) : farK R s N r i k j = farK R s N r i (k + 1) j := by
  unfold farK
  rw [h]
theorem farK_put {R : Int → Int → Prop} {s : Int} {N : List Int} {r i k j : Nat} (h : farM R s N r (k + 1) (N.getD i 0) = (r : Int) + 1) : (if j = i then (r : Int) + 1 else farK R s N r i k j) = farK R s N r i (k + 1) j := by
  unfold farK
  split
  · rw [h]
  · rfl
theorem farK_zero {R : Int → Int → Prop} {s : Int} {N : List Int} {r i j : Nat} : farI R s N r i j = farK R s N r i 0 j := by
  unfold farK
  split
  · rename_i e
    subst e
    rw [farM_zero, farI, if_neg (by omega)]
  · rfl
theorem farK_all {R : Int → Int → Prop} {s : Int} {N : List Int} {r i j n : Nat} (hin : ∀ a b, R a b → a ∈ N ∧ b ∈ N) (hn : N.length = n) : farK R s N r i n j = farI R s N r (i + 1) j := by
  subst hn
  unfold farK farI
  by_cases e : j = i
  · subst e
    rw [if_pos rfl, if_pos (by omega), farM_all hin]
  · rw [if_neg e]
    by_cases h : j < i
    · rw [if_pos h, if_pos (by omega)]
    · rw [if_neg h, if_neg (by omega)]
set_option maxHeartbeats 32000000 in
set_option maxRecDepth 100000 in
theorem dfar_any (a a' : Option Addr) (k k' n m : Nat) (N : List Int) (E : List Ed) (s : Int) (hNr : RiseI N) (hE : EndsIn N E) (hn : N.length = n) (hm : E.length = m) (hn5 : n ≤ 500) (hm5 : m ≤ 500) (w : World) (h : SlI w a N) (h' : SlE w a' E) :
    Calls Try.prog 54 #[gval a n k a' m k', iv s] w fun e w' => ∃ G, e = .returned (.slice (some ⟨G, 0, none⟩) n n) ∧ Hid (RowF w' G n (fun j => dst (EdR E) s (N.getD j 0)) ∧ w.heap.size ≤ G ∧ Below w.heap.size w w') := by
  obtain ⟨W1, hW1, Hb1, hs1, Hx1⟩ := two_any w (.slice a n k) (.slice a' m k') 29
  obtain ⟨W2, hmk, Hb2, hs2, Hx2⟩ := make_row n (by omega) W1
  have HN := Lib.hid (h.gro Hb1.out (Nat.le_refl _))
  have HE := Lib.hid (h'.gro Hb1.out (Nat.le_refl _))
  have Hn := Lib.hid hn
  have Hm := Lib.hid hm
  have Hends := Lib.hid hE
  have HNr := Lib.hid hNr
  have HBox : Hid (∀ W, Below W1.heap.size W1 W → W.cell? ⟨w.heap.size, 0, none⟩ = some (.slice a n k) ∧ W.cell? ⟨w.heap.size, 1, none⟩ = some (.slice a' m k')) := fun W hb => two_at ((hb.block _ hs1.out).trans Hx1.out)
  have H0 : Hid (RowF W2 W1.heap.size n (fun j => if j < 0 then (if N.getD j 0 = s then 0 else -1) else 0)) := (RowF.zero Hx2.out).same fun i _ => by simp
  obtain ⟨x0, x1⟩ := HBox.out W1 (Below.refl _ _)
  have hbw : Below w.heap.size w W1 := Hb1.out
  have Hbw := Lib.hid hbw
  clear h h' hn hm hE hNr hbw
  go_enter Try.func54, Try.ntmps54
  go_wp2
  try go_frame
  go_loopw [6] (fun i wr => ∃ q : Nat, q ≤ n ∧ i = .int .i64 ((q : Nat) : Int) ∧ Hid (RowF wr W1.heap.size n (fun j => if j < q then (if N.getD j 0 = s then 0 else -1) else 0) ∧ Below W1.heap.size W1 wr)) (fun i _ => n - (intOf i).toNat)
  case atStart => exact ⟨0, Nat.zero_le _, rfl, H0.out, Hb2.out⟩
  case round =>
    obtain ⟨q, hq, rfl, HR⟩ := hrel
    obtain ⟨wa, hwa⟩ : ∃ wa, wa = wr := ⟨_, rfl⟩
    subst hwa
    by_cases hlt : q < n
    · have hqo : q < N.length := by rw [Hn.out]; exact hlt
      have c0 := HR.out.1.cell hlt
      rw [if_neg (Nat.lt_irrefl q)] at c0
      have z0 := HR.out.1.thaw q
      obtain ⟨W3, hW3⟩ : ∃ W, wa.setCell ⟨W1.heap.size, q, none⟩ (iv (-1)) = W := ⟨_, rfl⟩
      have HR3 := Lib.hid (HR.out.1.put q (-1))
      have HB3 := Lib.hid (HR.out.2.trans (setCell_below (W := wa) (o := q) (p := iv (-1)) (Nat.le_refl W1.heap.size)))
      rw [hW3] at HR3 HB3
      obtain ⟨y0, y1⟩ := HBox.out W3 HB3.out
      obtain ⟨b7, o7, rfl, c1⟩ := (HN.out.gro HB3.out (Nat.le_refl _)).at hqo
      have c3 := HR3.out.cell hlt
      have z3 := HR3.out.thaw q
      rw [if_pos rfl] at c3
      obtain ⟨x, hx⟩ : ∃ x, N.getD q 0 = x := ⟨_, rfl⟩
      rw [hx] at c1
      have Hx := Lib.hid hx
      have hltI : (q : Int) < (n : Int) := by omega
      have hq0 : (0 : Int) ≤ (q : Int) := by omega
      have Hlt := Lib.hid hlt
      clear hqo hx
      by_cases hxs : x = s
      · have e1 : (x == s) = true := by simpa using hxs
        obtain ⟨W4, hW4⟩ : ∃ W, W3.setCell ⟨W1.heap.size, q, none⟩ (iv 0) = W := ⟨_, rfl⟩
        have HR4 := Lib.hid (HR3.out.put q 0)
        have HB4 := Lib.hid (HB3.out.trans (setCell_below (W := W3) (o := q) (p := iv 0) (Nat.le_refl W1.heap.size)))
        rw [hW4] at HR4 HB4
        have HR5 : Hid (RowF W4 W1.heap.size n (fun j => if j < q + 1 then (if N.getD j 0 = s then 0 else -1) else 0)) := HR4.out.same fun j _ => by
          by_cases e : j = q
          · subst e
            rw [if_pos rfl, if_pos (show j < j + 1 by omega), Hx.out, if_pos hxs]
          · rw [if_neg e, if_neg e]
            by_cases h : j < q
            · rw [if_pos h, if_pos (show j < q + 1 by omega)]
            · rw [if_neg h, if_neg (show ¬ j < q + 1 by omega)]
        clear hxs
        go_wp2
        go_roundw
        case rel => exact ⟨q + 1, Hlt.out, by go_num, HR5.out, HB4.out⟩
        case measure => simp [intOf]; omega
      · have e1 : (x == s) = false := by simpa using hxs
        have HR5 : Hid (RowF W3 W1.heap.size n (fun j => if j < q + 1 then (if N.getD j 0 = s then 0 else -1) else 0)) := HR3.out.same fun j _ => by
          by_cases e : j = q
          · subst e
            rw [if_pos rfl, if_pos (show j < j + 1 by omega), Hx.out, if_neg hxs]
          · rw [if_neg e]
            by_cases h : j < q
            · rw [if_pos h, if_pos (show j < q + 1 by omega)]
            · rw [if_neg h, if_neg (show ¬ j < q + 1 by omega)]
        clear hxs
        go_wp2
        go_roundw
        case rel => exact ⟨q + 1, Hlt.out, by go_num, HR5.out, HB3.out⟩
        case measure => simp [intOf]; omega
    · have hqn : n = q := by omega
      subst hqn
      have HV0 : Hid (RowF wa W1.heap.size n (fun j => farV (EdR E) s 0 (N.getD j 0))) := HR.out.1.same fun j hj => by rw [if_pos hj, farV_zero]
      have HB0 : Hid (Below W1.heap.size W1 wa) := HR.out.2
      clear HR
      go_wp2
      try go_frame
      go_loopw [7, 8, 9, 10] (fun i _ _ _ wr => ∃ r : Nat, r ≤ n ∧ i = .int .i64 ((r : Nat) : Int) ∧ Hid (RowF wr W1.heap.size n (fun j => farV (EdR E) s r (N.getD j 0)) ∧ Below W1.heap.size W1 wr)) (fun i _ _ _ _ => n - (intOf i).toNat)
      case atStart => exact ⟨0, Nat.zero_le _, rfl, HV0.out, HB0.out⟩
      case round =>
        obtain ⟨r, hr, rfl, HA⟩ := hrel
        obtain ⟨wb, hwb⟩ : ∃ wb, wb = wr := ⟨_, rfl⟩
        subst hwb
        by_cases hltr : r < n
        · have HI0 : Hid (RowF wb W1.heap.size n (farI (EdR E) s N r 0) ∧ Below W1.heap.size W1 wb) := ⟨HA.out.1.same fun j _ => by rw [farI, if_neg (by omega)], HA.out.2⟩
          have hrI : (r : Int) < (n : Int) := by omega
          have Hltr := Lib.hid hltr
          go_wp2
          try go_frame
          go_loopw [8, 9, 10] (fun i _ _ wr => ∃ q : Nat, q ≤ n ∧ i = .int .i64 ((q : Nat) : Int) ∧ Hid (RowF wr W1.heap.size n (farI (EdR E) s N r q) ∧ Below W1.heap.size W1 wr)) (fun i _ _ _ => n - (intOf i).toNat)
          case atStart => exact ⟨0, Nat.zero_le _, rfl, HI0.out⟩
          case round =>
            obtain ⟨q, hq, rfl, HI⟩ := hrel
            obtain ⟨wc, hwc⟩ : ∃ wc, wc = wr := ⟨_, rfl⟩
            subst hwc
            by_cases hltq : q < n
            · have hqo : q < N.length := by rw [Hn.out]; exact hltq
              obtain ⟨y0, y1⟩ := HBox.out wc HI.out.2
              obtain ⟨b7, o7, rfl, c1⟩ := (HN.out.gro HI.out.2 (Nat.le_refl _)).at hqo
              obtain ⟨x, hx⟩ : ∃ x, N.getD q 0 = x := ⟨_, rfl⟩
              rw [hx] at c1
              have Hx := Lib.hid hx
              have HO := Lib.hid (dout_at (some ⟨b7, o7, none⟩) a' k k' n m N E x HNr.out Hends.out Hm.out (by omega) wc.drew (HE.out.gro HI.out.2.drew (Nat.le_refl _)))
              obtain ⟨ol, hol⟩ : ∃ ol, (outsE N E x).length = ol := ⟨_, rfl⟩
              have Hol := Lib.hid hol
              have hol5 : ol ≤ 500 := by
                have h1 : (outsE N E x).length ≤ N.length := List.length_filter_le _ _
                have := Hn.out
                omega
              rw [hol] at HO
              have HId : Hid (RowF wc.drew W1.heap.size n (farI (EdR E) s N r q) ∧ Below W1.heap.size W1 wc.drew) := ⟨HI.out.1.below (Below.refl _ _).drew, HI.out.2.drew⟩
              have hqI : (q : Int) < (n : Int) := by omega
              have hq0 : (0 : Int) ≤ (q : Int) := by omega
              have Hltq := Lib.hid hltq
              clear hqo hx hol
              go_wp2
              go_still_tail 6, (by kernel_rfl)
              change wpList _ _ _ _ _ wc.drew
              generalize wc.drew = wd at *
              go_wp2_with (first
                | (go_at_call 21; (with_reducible refine HO.out.mono ?_); rintro e w9 ⟨p9, c9, rfl, K9⟩)
                | go_in)
              have HK0 : Hid (RowF w9 W1.heap.size n (farK (EdR E) s N r q 0) ∧ Below W1.heap.size W1 w9 ∧ Below w9.heap.size w9 w9) := ⟨(HId.out.1.below K9.out.2.1).same fun j _ => farK_zero, HId.out.2.trans (K9.out.2.1.mono HId.out.2.size), Below.refl _ _⟩
              have Hp9 : Hid (∀ g o, p9 = some ⟨g, o, none⟩ → outsE N E x ≠ [] → g ≠ W1.heap.size) := fun g o e _ => by
                have h1 := K9.out.2.2 g o e
                have h2 := (Array.getElem?_eq_some_iff.1 HId.out.1).1
                omega
              try go_frame
              go_loopw [10] (fun i wr => ∃ kk : Nat, kk ≤ n ∧ i = .int .i64 ((kk : Nat) : Int) ∧ Hid (RowF wr W1.heap.size n (farK (EdR E) s N r q kk) ∧ Below W1.heap.size W1 wr ∧ SlI wr p9 (outsE N E x))) (fun i _ => n - (intOf i).toNat)
              case atStart => exact ⟨0, Nat.zero_le _, rfl, HK0.out.1, HK0.out.2.1, K9.out.1⟩
              case round =>
                obtain ⟨kk, hkk, rfl, HK⟩ := hrel
                obtain ⟨we, hwe⟩ : ∃ we, we = wr := ⟨_, rfl⟩
                subst hwe
                by_cases hltk : kk < n
                · have hko : kk < N.length := by rw [Hn.out]; exact hltk
                  obtain ⟨y0, y1⟩ := HBox.out we HK.out.2.1
                  have c2 := HK.out.1.cell hltq
                  have c3 := HK.out.1.cell hltk
                  have c4 := (HN.out.gro HK.out.2.1 (Nat.le_refl _)).cell1 hko rfl
                  have hMe : farK (EdR E) s N r q kk q = farM (EdR E) s N r kk x := by unfold farK; rw [if_pos rfl, Hx.out]
                  rw [hMe] at c2
                  have Hstay : Hid (0 ≤ farM (EdR E) s N r kk x → farM (EdR E) s N r (kk + 1) x = farM (EdR E) s N r kk x) := farM_stay
                  have Hhit : Hid (farM (EdR E) s N r kk x < 0 → farK (EdR E) s N r q kk kk = (r : Int) → EdR E x (N.getD kk 0) → farM (EdR E) s N r (kk + 1) x = (r : Int) + 1) := fun h1 h2 h3 => by
                    have := farK_hit (i := q) hko (by rw [Hx.out]; exact h1) h2 (by rw [Hx.out]; exact h3)
                    rwa [Hx.out] at this
                  have Hmiss : Hid (farM (EdR E) s N r kk x < 0 → ¬ (farK (EdR E) s N r q kk kk = (r : Int) ∧ EdR E x (N.getD kk 0)) → farM (EdR E) s N r (kk + 1) x = farM (EdR E) s N r kk x) := fun h1 h2 => by
                    have := farK_miss (i := q) hko (by rw [Hx.out]; exact h1) (by rw [Hx.out]; exact h2)
                    rwa [Hx.out] at this
                  have Hkeep : Hid (farM (EdR E) s N r (kk + 1) x = farM (EdR E) s N r kk x → RowF we W1.heap.size n (farK (EdR E) s N r q (kk + 1))) := fun h1 => HK.out.1.same fun j _ => farK_same (by rw [Hx.out]; exact h1)
                  obtain ⟨W5, hW5⟩ : ∃ W, we.setCell ⟨W1.heap.size, q, none⟩ (iv ((r : Int) + 1)) = W := ⟨_, rfl⟩
                  have Hput : Hid (farM (EdR E) s N r (kk + 1) x = (r : Int) + 1 → RowF W5 W1.heap.size n (farK (EdR E) s N r q (kk + 1))) := fun h1 => by
                    rw [← hW5]
                    exact (HK.out.1.put q ((r : Int) + 1)).same fun j _ => farK_put (by rw [Hx.out]; exact h1)
                  have HB5 : Hid (Below W1.heap.size W1 W5 ∧ SlI W5 p9 (outsE N E x)) := by
                    rw [← hW5]
                    exact ⟨HK.out.2.1.trans (setCell_below (Nat.le_refl _)), HK.out.2.2.set fun g o e hne => Hp9.out g o e hne⟩
                  have z2 := HK.out.1.thaw q
                  have HIn := Lib.hid (in_same p9 c9 ol (N.getD kk 0) Hol.out (by omega) we HK.out.2.2)
                  have Hmem : Hid (N.getD kk 0 ∈ outsE N E x ↔ EdR E x (N.getD kk 0)) := mem_outsE Hends.out
                  obtain ⟨y, hy⟩ : ∃ y, N.getD kk 0 = y := ⟨_, rfl⟩
                  obtain ⟨M, hM⟩ : ∃ M, farM (EdR E) s N r kk x = M := ⟨_, rfl⟩
                  obtain ⟨v, hv⟩ : ∃ v, farK (EdR E) s N r q kk kk = v := ⟨_, rfl⟩
                  rw [hy] at c4 Hhit Hmiss HIn Hmem
                  rw [hM] at c2 Hstay Hhit Hmiss Hkeep
                  rw [hv] at c3 Hhit Hmiss
                  have hkI : (kk : Int) < (n : Int) := by omega
                  have hk0 : (0 : Int) ≤ (kk : Int) := by omega
                  have hr0 : (0 : Int) ≤ (r : Int) := by omega
                  have Hltk := Lib.hid hltk
                  clear hko hMe hy hM hv
                  by_cases hM0 : M < 0
                  · by_cases hvr : v = (r : Int)
                    · have e1 : (v == (r : Int)) = true := by simpa using hvr
                      by_cases hin : y ∈ outsE N E x
                      · have HR5 := Lib.hid (Hput.out (Hhit.out hM0 hvr (Hmem.out.1 hin)))
                        rw [decide_eq_true hin] at HIn
                        clear hvr hin
                        go_wp2_with (first
                          | (go_at_call 55; (with_reducible refine HIn.out.mono ?_); rintro e w11 ⟨rfl, rfl⟩)
                          | go_in)
                        go_roundw
                        case rel => exact ⟨kk + 1, Hltk.out, by go_num, HR5.out, HB5.out⟩
                        case measure => simp [intOf]; omega
                      · have HR5 := Lib.hid (Hkeep.out (Hmiss.out hM0 fun h => hin (Hmem.out.2 h.2)))
                        rw [decide_eq_false hin] at HIn
                        clear hvr hin
                        go_wp2_with (first
                          | (go_at_call 55; (with_reducible refine HIn.out.mono ?_); rintro e w11 ⟨rfl, rfl⟩)
                          | go_in)
                        have HR6 : Hid (RowF we W1.heap.size n (farK (EdR E) s N r q (kk + 1)) ∧ Below W1.heap.size W1 we ∧ SlI we p9 (outsE N E x)) := ⟨HR5.out, HK.out.2.1, HK.out.2.2⟩
                        go_roundw
                        case rel => exact ⟨kk + 1, Hltk.out, by go_num, HR6.out⟩
                        case measure => simp [intOf]; omega
                    · have e1 : (v == (r : Int)) = false := by simpa using hvr
                      have HR5 := Lib.hid (Hkeep.out (Hmiss.out hM0 fun h => hvr h.1))
                      clear hvr
                      go_wp2
                      go_roundw
                      case rel => exact ⟨kk + 1, Hltk.out, by go_num, HR5.out, HK.out.2⟩
                      case measure => simp [intOf]; omega
                  · have HR5 := Lib.hid (Hkeep.out (Hstay.out (by omega)))
                    go_wp2
                    go_roundw
                    case rel => exact ⟨kk + 1, Hltk.out, by go_num, HR5.out, HK.out.2⟩
                    case measure => simp [intOf]; omega
                · have hkn : n = kk := by omega
                  subst hkn
                  have HR6 : Hid (RowF we W1.heap.size n (farI (EdR E) s N r (q + 1)) ∧ Below W1.heap.size W1 we) := ⟨HK.out.1.same fun j _ => farK_all Hends.out Hn.out, HK.out.2.1⟩
                  go_wp2
                  go_roundw
                  case rel => exact ⟨q + 1, Hltq.out, by go_num, HR6.out⟩
                  case measure => simp [intOf]; omega
            · have hqn : n = q := by omega
              subst hqn
              have HR6 : Hid (RowF wc W1.heap.size n (fun j => farV (EdR E) s (r + 1) (N.getD j 0)) ∧ Below W1.heap.size W1 wc) := ⟨HI.out.1.same fun j hj => by rw [farI, if_pos hj], HI.out.2⟩
              go_wp2
              go_roundw
              case rel => exact ⟨r + 1, Hltr.out, by go_num, HR6.out⟩
              case measure => simp [intOf]; omega
        · have hrn : n = r := by omega
          subst hrn
          have HR6 : Hid (RowF wb W1.heap.size n (fun j => dst (EdR E) s (N.getD j 0))) := HA.out.1.same fun j hj => by
            have hjo : j < N.length := by rw [Hn.out]; exact hj
            have := farV_last (R := EdR E) (s := s) Hends.out (getD_in (d := 0) hjo)
            rw [Hn.out] at this
            exact this
          go_wp2
          go_ret
          exact ⟨_, rfl, HR6.out, Hbw.out.size, Hbw.out.trans (HA.out.2.mono Hbw.out.size)⟩
end Go.Proofs.Ythgkloapnihpaaa
