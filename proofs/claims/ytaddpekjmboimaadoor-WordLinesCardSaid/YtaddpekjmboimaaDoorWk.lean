/- The walk of the statement on one form of each number. -/
import Derived.Test.YtaddpekjmboimaaDoorWj
import Derived.Deep.RegionHeld3
import Derived.Deep.RegionWith
namespace Go.Proofs.YtaddpekjmboimaaDoor
open Go.RowKit Go.Maps Go.WideMaps Go.WideElems Go.ChangeShapes Go.WideShapes

variable {T : TypeId} {e0 e1 e2 : Addr}

theorem bat_row_cap {w : World} {base : Nat} {v : Value} {l : List Nat} (h : w.ownsRow base 5 1 v l.length (bc l)) : ∃ a c, v = .slice a l.length c ∧ BAt w a l ∧ l.length ≤ c := by
  rcases h.2 with ⟨e, h0⟩ | ⟨g, cap, cur, e, hb, hg, hn, _⟩
  · exact ⟨none, 0, by rw [e, h0], .inl (List.eq_nil_of_length_eq_zero h0), by omega⟩
  · obtain ⟨a, c, e2, hb2⟩ := bat_row h
    rw [e] at e2
    cases e2
    exact ⟨_, _, e, hb2, hn⟩

theorem num_some {l : List UInt8} {v : Int} (h : numR l = some v) : Lib.itoa v = l ∧ -1000000000 ≤ v ∧ v ≤ 1000000000 := by
  unfold numR at h
  split at h
  · split at h
    · rename_i hc
      cases h
      exact hc
    · cases h
  · cases h

/-- How Get's answer goes on in this statement. -/
def oneGet (T : TypeId) (e0 e1 : Addr) (R : GRes) : Value := gval (.iface T (.pointer (some e0))) (.iface T (.pointer (some e1))) R

set_option maxRecDepth 100000 in
set_option maxHeartbeats 4000000 in
theorem one_any (n m : Int) (h0 : -9223372036854775808 ≤ n) (h1 : n ≤ 9223372036854775807) (k0 : -9223372036854775808 ≤ m) (k1 : m ≤ 9223372036854775807) (ls : List UInt8) (hls : ls.length ≤ 9223372036854775807) (a : Option Addr) (c : Nat) (lb : List Nat) (w : World) (hG : Glob T e0 e1 e2 w) (hb : BAt w a lb) (hlb : ∀ x ∈ lb, x < 256) (hm : lb.length ≤ 9223372036854775807) (hcap : lb.length ≤ c) :
    Calls Tryd.prog 6 #[.int .i64 n, .int .i64 m, tv ls, .slice a lb.length c] w fun e w' => e = .returned (.bool true) ∧ Hid (Below w.heap.size w w') := by
  have HG := Lib.hid hG
  have Hf := Lib.hid (first_any w hG)
  have HB := Lib.hid hb
  have Hlb := Lib.hid hlb
  have hsl : (⟨ls.toArray⟩ : ByteArray).size = ls.length := by simp [ByteArray.size]
  by_cases hbig : 65536 < ls.length ∨ 65536 < lb.length
  · have hd : decide ((65536 : Int) < (ls.length : Int)) = true ∨ (decide ((65536 : Int) < (ls.length : Int)) = false ∧ decide ((65536 : Int) < (lb.length : Int)) = true) := by
      by_cases h : 65536 < ls.length
      · left; simp; omega
      · right; simp; omega
    clear hG hb hlb hbig
    rcases hd with hd | ⟨hd, hd2⟩
    all_goals
      go_enter Tryd.func6, Tryd.ntmps6
      go_wp2_with (first | (go_at_call 9; refine Hf.out.mono ?_; rintro e w1 ⟨rfl, hb1⟩))
      go_ret
      exact ⟨rfl, hb1⟩
  have hd : decide ((65536 : Int) < (ls.length : Int)) = false := by simp; omega
  have hd2 : decide ((65536 : Int) < (lb.length : Int)) = false := by simp; omega
  have hput : ∀ (z : Int), -9223372036854775808 ≤ z → z ≤ 9223372036854775807 → ∀ w1, Below w.heap.size w w1 → Calls Tryd.prog 22 #[.slice none 0 0, .int .i64 z] w1 fun e w' => ∃ a c, e = .returned (.slice a (vb (foldN z)).length c) ∧ (vb (foldN z)).length ≤ c ∧ Hid (BAt w' a (vb (foldN z)) ∧ Below w.heap.size w w' ∧ Below w1.heap.size w1 w') := fun z hz0 hz1 w1 hb => (put_any z hz0 hz1 w1).mono fun e w' ⟨v, he, h2, h3⟩ => by
    obtain ⟨a, c, ha, ht, hc⟩ := bat_row_cap h2
    exact ⟨a, c, by rw [he, ha], hc, ht, hb.trans (h3.mono hb.size), h3⟩
  have hpr : ∀ (z : Int), -9223372036854775808 ≤ z → z ≤ 9223372036854775807 → ∀ w1, Below w.heap.size w w1 → Calls Tryd.prog 26 #[.int .i64 z] w1 fun e w' => e = .returned (tv (Lib.itoa z)) ∧ Hid (Below w.heap.size w w') := fun z hz0 hz1 w1 hb => (print_any z hz0 hz1 w1 (HG.out.below' hb)).mono fun e w' ⟨he, hq⟩ => ⟨he, hb.trans (hq.out.mono hb.size)⟩
  have hnum : ∀ w1, Below w.heap.size w w1 → Calls Tryd.prog 25 #[tv ls] w1 fun e w' => e = .returned (numV T e2 (numR ls)) ∧ Hid (Below w.heap.size w w') := fun w1 hb => (number_any ls (by omega) w1 (HG.out.below' hb)).mono fun e w' ⟨he, hq⟩ => ⟨he, hb.trans (hq.out.mono hb.size)⟩
  have hget : ∀ w1, Below w.heap.size w w1 → Calls Tryd.prog 23 #[.slice a lb.length c] w1 fun e w' => e = .returned (oneGet T e0 e1 (getL 0 0 lb)) ∧ Hid (Below w.heap.size w w') := fun w1 hb => by
    have hg := HG.out.below' hb
    exact (get_any a c lb w1 hm hlb (HB.out.below' hb) _ _ _ _ hg.c0 hg.c1).mono fun e w' ⟨he, q, hq⟩ => ⟨he, by rw [← hq]; exact below_drewN hb q⟩
  have Hput := Lib.hid hput
  have Hpr := Lib.hid hpr
  have Hsl := Lib.hid hsl
  clear hG hb hlb hbig hsl
  have HU := Lib.hid (fold_lt n h0 h1)
  have HV := Lib.hid (fold_lt m k0 k1)
  have hPn := Hput.out n h0 h1
  have hPm := Hput.out m k0 k1
  have hQn := Hpr.out n h0 h1
  have hQm := Hpr.out m k0 k1
  by_cases hnm : n = m
  · cases hN : numR ls with
    | some v =>
      cases hR : getL 0 0 lb with
      | long =>
        have hvr : numR ls = some v := hN
        have hv := num_some hvr
        have hnum' : ∀ w1, Below w.heap.size w w1 → Calls Tryd.prog 25 #[tv ls] w1 fun e w' => e = .returned (.tuple #[.int .i64 v, .nilIface]) ∧ Hid (Below w.heap.size w w') := fun w1 hb => by have h := hnum w1 hb; rw [hvr] at h; exact h
        have hpv : ∀ w1, Below w.heap.size w w1 → Calls Tryd.prog 26 #[.int .i64 v] w1 fun e w' => e = .returned (tv ls) ∧ Hid (Below w.heap.size w w') := fun w1 hb => by have h := hpr v (by omega) (by omega) w1 hb; rw [hv.1] at h; exact h
        have Hpv := Lib.hid hpv
        have Hnum := Lib.hid hnum'
        clear hN hvr hv hnum hnum' hpv
        have hget' : ∀ w1, Below w.heap.size w w1 → Calls Tryd.prog 23 #[.slice a lb.length c] w1 fun e w' => e = .returned (.tuple #[.int .i64 0, .int .i64 0, .iface T (.pointer (some e0))]) ∧ Hid (Below w.heap.size w w') := fun w1 hb => by have h := hget w1 hb; rw [hR] at h; exact h
        have Hget := Lib.hid hget'
        clear hR hget hget'
        clear hput hpr Hput Hpr Hlb
        subst hnm
        have hne : (n != n) = false := by simp
        have HPn := Lib.hid hPn
        clear hPn hPm hQn hQm hne
        have HPm := Lib.hid HPn.out
        go_enter Tryd.func6, Tryd.ntmps6
        go_wp2_with (first | (go_at_call 9; refine Hf.out.mono ?_; rintro e w1 ⟨rfl, hb1⟩) | (go_at_call 22; refine (HPn.out _ hb1.out).mono ?_; clear HPn; rintro e w2 ⟨a2, c2, rfl, hc2, h2⟩) | (go_at_call 22; refine (HPm.out _ h2.out.2.1).mono ?_; clear HPm; rintro e wt ⟨a3, c3, rfl, hc3, h3⟩; have hbt := Lib.hid h3.out.2.1) | fail)
        go_wp2_with (first | (go_at_call 25; refine (Hnum.out _ hbt.out).mono ?_; clear Hnum; rintro e w6 ⟨rfl, hb6⟩) | (go_at_call 26; refine (Hpv.out _ hb6.out).mono ?_; clear Hpv; rintro e w7 ⟨rfl, hb7⟩) | (go_at_call 23; refine (Hget.out _ hb7.out).mono ?_; clear Hget; rintro e w8 ⟨rfl, hb8⟩) | fail)
        go_ret
        exact ⟨rfl, hb8⟩
      | endd =>
        have hvr : numR ls = some v := hN
        have hv := num_some hvr
        have hnum' : ∀ w1, Below w.heap.size w w1 → Calls Tryd.prog 25 #[tv ls] w1 fun e w' => e = .returned (.tuple #[.int .i64 v, .nilIface]) ∧ Hid (Below w.heap.size w w') := fun w1 hb => by have h := hnum w1 hb; rw [hvr] at h; exact h
        have hpv : ∀ w1, Below w.heap.size w w1 → Calls Tryd.prog 26 #[.int .i64 v] w1 fun e w' => e = .returned (tv ls) ∧ Hid (Below w.heap.size w w') := fun w1 hb => by have h := hpr v (by omega) (by omega) w1 hb; rw [hv.1] at h; exact h
        have Hpv := Lib.hid hpv
        have Hnum := Lib.hid hnum'
        clear hN hvr hv hnum hnum' hpv
        have hget' : ∀ w1, Below w.heap.size w w1 → Calls Tryd.prog 23 #[.slice a lb.length c] w1 fun e w' => e = .returned (.tuple #[.int .i64 0, .int .i64 0, .iface T (.pointer (some e1))]) ∧ Hid (Below w.heap.size w w') := fun w1 hb => by have h := hget w1 hb; rw [hR] at h; exact h
        have Hget := Lib.hid hget'
        clear hR hget hget'
        clear hput hpr Hput Hpr Hlb
        subst hnm
        have hne : (n != n) = false := by simp
        have HPn := Lib.hid hPn
        clear hPn hPm hQn hQm hne
        have HPm := Lib.hid HPn.out
        go_enter Tryd.func6, Tryd.ntmps6
        go_wp2_with (first | (go_at_call 9; refine Hf.out.mono ?_; rintro e w1 ⟨rfl, hb1⟩) | (go_at_call 22; refine (HPn.out _ hb1.out).mono ?_; clear HPn; rintro e w2 ⟨a2, c2, rfl, hc2, h2⟩) | (go_at_call 22; refine (HPm.out _ h2.out.2.1).mono ?_; clear HPm; rintro e wt ⟨a3, c3, rfl, hc3, h3⟩; have hbt := Lib.hid h3.out.2.1) | fail)
        go_wp2_with (first | (go_at_call 25; refine (Hnum.out _ hbt.out).mono ?_; clear Hnum; rintro e w6 ⟨rfl, hb6⟩) | (go_at_call 26; refine (Hpv.out _ hb6.out).mono ?_; clear Hpv; rintro e w7 ⟨rfl, hb7⟩) | (go_at_call 23; refine (Hget.out _ hb7.out).mono ?_; clear Hget; rintro e w8 ⟨rfl, hb8⟩) | fail)
        go_ret
        exact ⟨rfl, hb8⟩
      | ok u k =>
        have hvr : numR ls = some v := hN
        have hv := num_some hvr
        have hnum' : ∀ w1, Below w.heap.size w w1 → Calls Tryd.prog 25 #[tv ls] w1 fun e w' => e = .returned (.tuple #[.int .i64 v, .nilIface]) ∧ Hid (Below w.heap.size w w') := fun w1 hb => by have h := hnum w1 hb; rw [hvr] at h; exact h
        have hpv : ∀ w1, Below w.heap.size w w1 → Calls Tryd.prog 26 #[.int .i64 v] w1 fun e w' => e = .returned (tv ls) ∧ Hid (Below w.heap.size w w') := fun w1 hb => by have h := hpr v (by omega) (by omega) w1 hb; rw [hv.1] at h; exact h
        have Hpv := Lib.hid hpv
        have Hnum := Lib.hid hnum'
        clear hN hvr hv hnum hnum' hpv
        obtain ⟨hu, hk, htk, hk1, hkl⟩ := get_ok Hlb.out hR
        have hget' : ∀ w1, Below w.heap.size w w1 → Calls Tryd.prog 23 #[.slice a lb.length c] w1 fun e w' => e = .returned (.tuple #[.int .i64 (unfoldN u), .int .i64 (k : Int), .nilIface]) ∧ Hid (Below w.heap.size w w') := fun w1 hb => by have h := hget w1 hb; rw [hR] at h; exact h
        obtain ⟨hz0, hz1⟩ := unfold_range u hu
        have hpu := hput (unfoldN u) hz0 hz1
        rw [fold_unfold] at hpu
        have hbk : ∀ w1 a1 c1, BAt w1 a1 (vb u) → BAt w1 a lb → ∀ q : Nat, Calls Tryd.prog 21 #[.slice a1 (vb u).length c1, .slice a k c] (w1.drewN q) fun e w' => e = .returned (.bool true) ∧ ∃ m, w' = w1.drewN m := fun w1 a1 c1 g1 g2 q => by
          have h := sameBytes_any a1 a c1 c (vb u) (lb.take k) (w1.drewN q) (g1.below' (below_drewN (Below.refl _ _) q)) ((g2.below' (below_drewN (Below.refl _ _) q)).cut k) (vb_byte u) (fun x hx => Hlb.out x (List.mem_of_mem_take hx))
          rw [decide_eq_true htk.symm, List.length_take, Nat.min_eq_left hkl] at h
          exact h.mono fun e w' ⟨he, hw⟩ => ⟨he, q, hw.symm⟩
        have Hget := Lib.hid hget'
        have Hpu := Lib.hid hpu
        have Hbk := Lib.hid hbk
        have hck : k ≤ c := by omega
        generalize (unfoldN u) = z at *
        generalize (vb u) = Y at *
        clear hR hget hget' hpu hbk hk htk hz0 hz1 hu
        clear hput hpr Hput Hpr Hlb
        subst hnm
        have hne : (n != n) = false := by simp
        have HPn := Lib.hid hPn
        clear hPn hPm hQn hQm hne
        have HPm := Lib.hid HPn.out
        go_enter Tryd.func6, Tryd.ntmps6
        go_wp2_with (first | (go_at_call 9; refine Hf.out.mono ?_; rintro e w1 ⟨rfl, hb1⟩) | (go_at_call 22; refine (HPn.out _ hb1.out).mono ?_; clear HPn; rintro e w2 ⟨a2, c2, rfl, hc2, h2⟩) | (go_at_call 22; refine (HPm.out _ h2.out.2.1).mono ?_; clear HPm; rintro e wt ⟨a3, c3, rfl, hc3, h3⟩; have hbt := Lib.hid h3.out.2.1) | fail)
        go_wp2_with (first | (go_at_call 25; refine (Hnum.out _ hbt.out).mono ?_; clear Hnum; rintro e w6 ⟨rfl, hb6⟩) | (go_at_call 26; refine (Hpv.out _ hb6.out).mono ?_; clear Hpv; rintro e w7 ⟨rfl, hb7⟩) | (go_at_call 23; refine (Hget.out _ hb7.out).mono ?_; clear Hget; rintro e w8 ⟨rfl, hb8⟩) | fail)
        have hb8d : Hid (Below w.heap.size w w8.drew) := hb8.out.drew
        go_region_held3 (fun _ => True) (trivial) (first | (go_at_call 22; refine (Hpu.out _ hb8d.out).mono ?_; clear Hpu; rintro e w9 ⟨a9, c9, rfl, hc9, h9⟩; have hs9 := (Hbk.out w9 a9 c9 h9.out.1 (HB.out.below' h9.out.2.1)); have Hs9 := Lib.hid hs9; clear hs9) | (go_at_call 21; refine (Hs9.out 0).mono ?_; rintro e w10 ⟨rfl, q10, hw10⟩; have hb10 : Hid (Below w.heap.size w w10) := (hw10 ▸ below_drewN h9.out.2.1 q10 : Below w.heap.size w w10); clear hw10))
        go_wp2
        go_ret
        exact ⟨rfl, hb10⟩
    | none =>
      cases hR : getL 0 0 lb with
      | long =>
        have hnum' : ∀ w1, Below w.heap.size w w1 → Calls Tryd.prog 25 #[tv ls] w1 fun e w' => e = .returned (.tuple #[.int .i64 0, .iface T (.pointer (some e2))]) ∧ Hid (Below w.heap.size w w') := fun w1 hb => by have h := hnum w1 hb; rw [hN] at h; exact h
        have Hnum := Lib.hid hnum'
        clear hN hnum hnum'
        have hget' : ∀ w1, Below w.heap.size w w1 → Calls Tryd.prog 23 #[.slice a lb.length c] w1 fun e w' => e = .returned (.tuple #[.int .i64 0, .int .i64 0, .iface T (.pointer (some e0))]) ∧ Hid (Below w.heap.size w w') := fun w1 hb => by have h := hget w1 hb; rw [hR] at h; exact h
        have Hget := Lib.hid hget'
        clear hR hget hget'
        clear hput hpr Hput Hpr Hlb
        subst hnm
        have hne : (n != n) = false := by simp
        have HPn := Lib.hid hPn
        clear hPn hPm hQn hQm hne
        have HPm := Lib.hid HPn.out
        go_enter Tryd.func6, Tryd.ntmps6
        go_wp2_with (first | (go_at_call 9; refine Hf.out.mono ?_; rintro e w1 ⟨rfl, hb1⟩) | (go_at_call 22; refine (HPn.out _ hb1.out).mono ?_; clear HPn; rintro e w2 ⟨a2, c2, rfl, hc2, h2⟩) | (go_at_call 22; refine (HPm.out _ h2.out.2.1).mono ?_; clear HPm; rintro e wt ⟨a3, c3, rfl, hc3, h3⟩; have hbt := Lib.hid h3.out.2.1) | fail)
        go_wp2_with (first | (go_at_call 25; refine (Hnum.out _ hbt.out).mono ?_; clear Hnum; rintro e w6 ⟨rfl, hb6⟩) | (go_at_call 23; refine (Hget.out _ hb6.out).mono ?_; clear Hget; rintro e w8 ⟨rfl, hb8⟩) | fail)
        go_ret
        exact ⟨rfl, hb8⟩
      | endd =>
        have hnum' : ∀ w1, Below w.heap.size w w1 → Calls Tryd.prog 25 #[tv ls] w1 fun e w' => e = .returned (.tuple #[.int .i64 0, .iface T (.pointer (some e2))]) ∧ Hid (Below w.heap.size w w') := fun w1 hb => by have h := hnum w1 hb; rw [hN] at h; exact h
        have Hnum := Lib.hid hnum'
        clear hN hnum hnum'
        have hget' : ∀ w1, Below w.heap.size w w1 → Calls Tryd.prog 23 #[.slice a lb.length c] w1 fun e w' => e = .returned (.tuple #[.int .i64 0, .int .i64 0, .iface T (.pointer (some e1))]) ∧ Hid (Below w.heap.size w w') := fun w1 hb => by have h := hget w1 hb; rw [hR] at h; exact h
        have Hget := Lib.hid hget'
        clear hR hget hget'
        clear hput hpr Hput Hpr Hlb
        subst hnm
        have hne : (n != n) = false := by simp
        have HPn := Lib.hid hPn
        clear hPn hPm hQn hQm hne
        have HPm := Lib.hid HPn.out
        go_enter Tryd.func6, Tryd.ntmps6
        go_wp2_with (first | (go_at_call 9; refine Hf.out.mono ?_; rintro e w1 ⟨rfl, hb1⟩) | (go_at_call 22; refine (HPn.out _ hb1.out).mono ?_; clear HPn; rintro e w2 ⟨a2, c2, rfl, hc2, h2⟩) | (go_at_call 22; refine (HPm.out _ h2.out.2.1).mono ?_; clear HPm; rintro e wt ⟨a3, c3, rfl, hc3, h3⟩; have hbt := Lib.hid h3.out.2.1) | fail)
        go_wp2_with (first | (go_at_call 25; refine (Hnum.out _ hbt.out).mono ?_; clear Hnum; rintro e w6 ⟨rfl, hb6⟩) | (go_at_call 23; refine (Hget.out _ hb6.out).mono ?_; clear Hget; rintro e w8 ⟨rfl, hb8⟩) | fail)
        go_ret
        exact ⟨rfl, hb8⟩
      | ok u k =>
        have hnum' : ∀ w1, Below w.heap.size w w1 → Calls Tryd.prog 25 #[tv ls] w1 fun e w' => e = .returned (.tuple #[.int .i64 0, .iface T (.pointer (some e2))]) ∧ Hid (Below w.heap.size w w') := fun w1 hb => by have h := hnum w1 hb; rw [hN] at h; exact h
        have Hnum := Lib.hid hnum'
        clear hN hnum hnum'
        obtain ⟨hu, hk, htk, hk1, hkl⟩ := get_ok Hlb.out hR
        have hget' : ∀ w1, Below w.heap.size w w1 → Calls Tryd.prog 23 #[.slice a lb.length c] w1 fun e w' => e = .returned (.tuple #[.int .i64 (unfoldN u), .int .i64 (k : Int), .nilIface]) ∧ Hid (Below w.heap.size w w') := fun w1 hb => by have h := hget w1 hb; rw [hR] at h; exact h
        obtain ⟨hz0, hz1⟩ := unfold_range u hu
        have hpu := hput (unfoldN u) hz0 hz1
        rw [fold_unfold] at hpu
        have hbk : ∀ w1 a1 c1, BAt w1 a1 (vb u) → BAt w1 a lb → ∀ q : Nat, Calls Tryd.prog 21 #[.slice a1 (vb u).length c1, .slice a k c] (w1.drewN q) fun e w' => e = .returned (.bool true) ∧ ∃ m, w' = w1.drewN m := fun w1 a1 c1 g1 g2 q => by
          have h := sameBytes_any a1 a c1 c (vb u) (lb.take k) (w1.drewN q) (g1.below' (below_drewN (Below.refl _ _) q)) ((g2.below' (below_drewN (Below.refl _ _) q)).cut k) (vb_byte u) (fun x hx => Hlb.out x (List.mem_of_mem_take hx))
          rw [decide_eq_true htk.symm, List.length_take, Nat.min_eq_left hkl] at h
          exact h.mono fun e w' ⟨he, hw⟩ => ⟨he, q, hw.symm⟩
        have Hget := Lib.hid hget'
        have Hpu := Lib.hid hpu
        have Hbk := Lib.hid hbk
        have hck : k ≤ c := by omega
        generalize (unfoldN u) = z at *
        generalize (vb u) = Y at *
        clear hR hget hget' hpu hbk hk htk hz0 hz1 hu
        clear hput hpr Hput Hpr Hlb
        subst hnm
        have hne : (n != n) = false := by simp
        have HPn := Lib.hid hPn
        clear hPn hPm hQn hQm hne
        have HPm := Lib.hid HPn.out
        go_enter Tryd.func6, Tryd.ntmps6
        go_wp2_with (first | (go_at_call 9; refine Hf.out.mono ?_; rintro e w1 ⟨rfl, hb1⟩) | (go_at_call 22; refine (HPn.out _ hb1.out).mono ?_; clear HPn; rintro e w2 ⟨a2, c2, rfl, hc2, h2⟩) | (go_at_call 22; refine (HPm.out _ h2.out.2.1).mono ?_; clear HPm; rintro e wt ⟨a3, c3, rfl, hc3, h3⟩; have hbt := Lib.hid h3.out.2.1) | fail)
        go_wp2_with (first | (go_at_call 25; refine (Hnum.out _ hbt.out).mono ?_; clear Hnum; rintro e w6 ⟨rfl, hb6⟩) | (go_at_call 23; refine (Hget.out _ hb6.out).mono ?_; clear Hget; rintro e w8 ⟨rfl, hb8⟩) | fail)
        have hb8d : Hid (Below w.heap.size w w8.drew) := hb8.out.drew
        go_region_held3 (fun _ => True) (trivial) (first | (go_at_call 22; refine (Hpu.out _ hb8d.out).mono ?_; clear Hpu; rintro e w9 ⟨a9, c9, rfl, hc9, h9⟩; have hs9 := (Hbk.out w9 a9 c9 h9.out.1 (HB.out.below' h9.out.2.1)); have Hs9 := Lib.hid hs9; clear hs9) | (go_at_call 21; refine (Hs9.out 0).mono ?_; rintro e w10 ⟨rfl, q10, hw10⟩; have hb10 : Hid (Below w.heap.size w w10) := (hw10 ▸ below_drewN h9.out.2.1 q10 : Below w.heap.size w w10); clear hw10))
        go_wp2
        go_ret
        exact ⟨rfl, hb10⟩
  · cases hN : numR ls with
    | some v =>
      cases hR : getL 0 0 lb with
      | long =>
        have hvr : numR ls = some v := hN
        have hv := num_some hvr
        have hnum' : ∀ w1, Below w.heap.size w w1 → Calls Tryd.prog 25 #[tv ls] w1 fun e w' => e = .returned (.tuple #[.int .i64 v, .nilIface]) ∧ Hid (Below w.heap.size w w') := fun w1 hb => by have h := hnum w1 hb; rw [hvr] at h; exact h
        have hpv : ∀ w1, Below w.heap.size w w1 → Calls Tryd.prog 26 #[.int .i64 v] w1 fun e w' => e = .returned (tv ls) ∧ Hid (Below w.heap.size w w') := fun w1 hb => by have h := hpr v (by omega) (by omega) w1 hb; rw [hv.1] at h; exact h
        have Hpv := Lib.hid hpv
        have Hnum := Lib.hid hnum'
        clear hN hvr hv hnum hnum' hpv
        have hget' : ∀ w1, Below w.heap.size w w1 → Calls Tryd.prog 23 #[.slice a lb.length c] w1 fun e w' => e = .returned (.tuple #[.int .i64 0, .int .i64 0, .iface T (.pointer (some e0))]) ∧ Hid (Below w.heap.size w w') := fun w1 hb => by have h := hget w1 hb; rw [hR] at h; exact h
        have Hget := Lib.hid hget'
        clear hR hget hget'
        clear hput hpr Hput Hpr Hlb
        have hne : (n != m) = true := by simpa using hnm
        have hap : (vb (foldN n)).take (min (vb (foldN n)).length (vb (foldN m)).length) ≠ (vb (foldN m)).take (min (vb (foldN n)).length (vb (foldN m)).length) := fun h => hnm (fold_inj (vb_apart HU.out HV.out h))
        have hit : (Lib.itoa n == Lib.itoa m) = false := by
          rw [beq_eq_false_iff_ne]
          exact fun h => hnm (itoa_inj ⟨h0, h1⟩ ⟨k0, k1⟩ h)
        have hbx := vb_byte (foldN n)
        have hby := vb_byte (foldN m)
        have hl10 := vb_len_10 _ HU.out
        have hm10 := vb_len_10 _ HV.out
        generalize vb (foldN n) = V at *
        generalize vb (foldN m) = U at *
        have hsame : ∀ w1 a1 c1 a2 c2, BAt w1 a1 V → BAt w1 a2 U → Calls Tryd.prog 21 #[.slice a1 (min V.length U.length) c1, .slice a2 (min V.length U.length) c2] w1 fun e w' => e = .returned (.bool false) ∧ w1 = w' := fun w1 a1 c1 a2 c2 g1 g2 => by
          have h := sameBytes_any a1 a2 c1 c2 (V.take (min V.length U.length)) (U.take (min V.length U.length)) w1 (g1.cut _) (g2.cut _) (fun x hx => hbx x (List.mem_of_mem_take hx)) (fun x hx => hby x (List.mem_of_mem_take hx))
          rw [decide_eq_false hap, List.length_take, List.length_take, Nat.min_eq_left (Nat.min_le_left _ _), Nat.min_eq_left (Nat.min_le_right _ _)] at h
          exact h
        have Hsame := Lib.hid hsame
        have HPn := Lib.hid hPn
        have HPm := Lib.hid hPm
        have HQn := Lib.hid hQn
        have HQm := Lib.hid hQm
        clear hap hbx hby hsame hPn hPm hQn hQm hnm
        obtain ⟨K, hK⟩ : ∃ K, K = min V.length U.length := ⟨_, rfl⟩
        rw [← hK] at Hsame
        have hK' : min (V.length : Int) (U.length : Int) = (K : Int) := by omega
        have hKV : K ≤ V.length := by omega
        have hKU : K ≤ U.length := by omega
        clear hK
        go_enter Tryd.func6, Tryd.ntmps6
        go_wp2_with (first | (go_at_call 9; refine Hf.out.mono ?_; rintro e w1 ⟨rfl, hb1⟩) | (go_at_call 22; refine (HPn.out _ hb1.out).mono ?_; clear HPn; rintro e w2 ⟨a2, c2, rfl, hc2, h2⟩) | (go_at_call 22; refine (HPm.out _ h2.out.2.1).mono ?_; clear HPm; rintro e w3 ⟨a3, c3, rfl, hc3, h3⟩))
        have hs3 : ∀ q : Nat, Calls Tryd.prog 21 #[.slice a2 K c2, .slice a3 K c3] (w3.drewN q) fun e w' => e = .returned (.bool false) ∧ ∃ m, w' = w3.drewN m := fun q =>
          (Hsame.out (w3.drewN q) a2 c2 a3 c3 ((h2.out.1.below' h3.out.2.2).below' (below_drewN (Below.refl _ _) q)) (h3.out.1.below' (below_drewN (Below.refl _ _) q))).mono fun e w' ⟨he, hw⟩ => ⟨he, q, hw.symm⟩
        have Hs3 := Lib.hid hs3
        have hb3 := h3.out.2.1
        have Hb3 := Lib.hid hb3
        have hc2' : K ≤ c2 := by omega
        have hc3' : K ≤ c3 := by omega
        clear hs3 hb3 h2 h3 hb1
        go_quiet ((go_at_call 21; exact Hs3.out _))
        have hb4 : Hid (Below w.heap.size w (w3.drewN nq)) := below_drewN Hb3.out nq
        clear Hs3
        generalize w3.drewN nq = w4 at *
        go_wp2_with (first | (go_at_call 26; refine (HQn.out _ hb4.out).mono ?_; clear HQn; rintro e w5 ⟨rfl, hb5⟩) | (go_at_call 26; refine (HQm.out _ hb5.out).mono ?_; clear HQm; rintro e wt ⟨rfl, hbt⟩) | fail)
        go_wp2_with (first | (go_at_call 25; refine (Hnum.out _ hbt.out).mono ?_; clear Hnum; rintro e w6 ⟨rfl, hb6⟩) | (go_at_call 26; refine (Hpv.out _ hb6.out).mono ?_; clear Hpv; rintro e w7 ⟨rfl, hb7⟩) | (go_at_call 23; refine (Hget.out _ hb7.out).mono ?_; clear Hget; rintro e w8 ⟨rfl, hb8⟩) | fail)
        go_ret
        exact ⟨rfl, hb8⟩
      | endd =>
        have hvr : numR ls = some v := hN
        have hv := num_some hvr
        have hnum' : ∀ w1, Below w.heap.size w w1 → Calls Tryd.prog 25 #[tv ls] w1 fun e w' => e = .returned (.tuple #[.int .i64 v, .nilIface]) ∧ Hid (Below w.heap.size w w') := fun w1 hb => by have h := hnum w1 hb; rw [hvr] at h; exact h
        have hpv : ∀ w1, Below w.heap.size w w1 → Calls Tryd.prog 26 #[.int .i64 v] w1 fun e w' => e = .returned (tv ls) ∧ Hid (Below w.heap.size w w') := fun w1 hb => by have h := hpr v (by omega) (by omega) w1 hb; rw [hv.1] at h; exact h
        have Hpv := Lib.hid hpv
        have Hnum := Lib.hid hnum'
        clear hN hvr hv hnum hnum' hpv
        have hget' : ∀ w1, Below w.heap.size w w1 → Calls Tryd.prog 23 #[.slice a lb.length c] w1 fun e w' => e = .returned (.tuple #[.int .i64 0, .int .i64 0, .iface T (.pointer (some e1))]) ∧ Hid (Below w.heap.size w w') := fun w1 hb => by have h := hget w1 hb; rw [hR] at h; exact h
        have Hget := Lib.hid hget'
        clear hR hget hget'
        clear hput hpr Hput Hpr Hlb
        have hne : (n != m) = true := by simpa using hnm
        have hap : (vb (foldN n)).take (min (vb (foldN n)).length (vb (foldN m)).length) ≠ (vb (foldN m)).take (min (vb (foldN n)).length (vb (foldN m)).length) := fun h => hnm (fold_inj (vb_apart HU.out HV.out h))
        have hit : (Lib.itoa n == Lib.itoa m) = false := by
          rw [beq_eq_false_iff_ne]
          exact fun h => hnm (itoa_inj ⟨h0, h1⟩ ⟨k0, k1⟩ h)
        have hbx := vb_byte (foldN n)
        have hby := vb_byte (foldN m)
        have hl10 := vb_len_10 _ HU.out
        have hm10 := vb_len_10 _ HV.out
        generalize vb (foldN n) = V at *
        generalize vb (foldN m) = U at *
        have hsame : ∀ w1 a1 c1 a2 c2, BAt w1 a1 V → BAt w1 a2 U → Calls Tryd.prog 21 #[.slice a1 (min V.length U.length) c1, .slice a2 (min V.length U.length) c2] w1 fun e w' => e = .returned (.bool false) ∧ w1 = w' := fun w1 a1 c1 a2 c2 g1 g2 => by
          have h := sameBytes_any a1 a2 c1 c2 (V.take (min V.length U.length)) (U.take (min V.length U.length)) w1 (g1.cut _) (g2.cut _) (fun x hx => hbx x (List.mem_of_mem_take hx)) (fun x hx => hby x (List.mem_of_mem_take hx))
          rw [decide_eq_false hap, List.length_take, List.length_take, Nat.min_eq_left (Nat.min_le_left _ _), Nat.min_eq_left (Nat.min_le_right _ _)] at h
          exact h
        have Hsame := Lib.hid hsame
        have HPn := Lib.hid hPn
        have HPm := Lib.hid hPm
        have HQn := Lib.hid hQn
        have HQm := Lib.hid hQm
        clear hap hbx hby hsame hPn hPm hQn hQm hnm
        obtain ⟨K, hK⟩ : ∃ K, K = min V.length U.length := ⟨_, rfl⟩
        rw [← hK] at Hsame
        have hK' : min (V.length : Int) (U.length : Int) = (K : Int) := by omega
        have hKV : K ≤ V.length := by omega
        have hKU : K ≤ U.length := by omega
        clear hK
        go_enter Tryd.func6, Tryd.ntmps6
        go_wp2_with (first | (go_at_call 9; refine Hf.out.mono ?_; rintro e w1 ⟨rfl, hb1⟩) | (go_at_call 22; refine (HPn.out _ hb1.out).mono ?_; clear HPn; rintro e w2 ⟨a2, c2, rfl, hc2, h2⟩) | (go_at_call 22; refine (HPm.out _ h2.out.2.1).mono ?_; clear HPm; rintro e w3 ⟨a3, c3, rfl, hc3, h3⟩))
        have hs3 : ∀ q : Nat, Calls Tryd.prog 21 #[.slice a2 K c2, .slice a3 K c3] (w3.drewN q) fun e w' => e = .returned (.bool false) ∧ ∃ m, w' = w3.drewN m := fun q =>
          (Hsame.out (w3.drewN q) a2 c2 a3 c3 ((h2.out.1.below' h3.out.2.2).below' (below_drewN (Below.refl _ _) q)) (h3.out.1.below' (below_drewN (Below.refl _ _) q))).mono fun e w' ⟨he, hw⟩ => ⟨he, q, hw.symm⟩
        have Hs3 := Lib.hid hs3
        have hb3 := h3.out.2.1
        have Hb3 := Lib.hid hb3
        have hc2' : K ≤ c2 := by omega
        have hc3' : K ≤ c3 := by omega
        clear hs3 hb3 h2 h3 hb1
        go_quiet ((go_at_call 21; exact Hs3.out _))
        have hb4 : Hid (Below w.heap.size w (w3.drewN nq)) := below_drewN Hb3.out nq
        clear Hs3
        generalize w3.drewN nq = w4 at *
        go_wp2_with (first | (go_at_call 26; refine (HQn.out _ hb4.out).mono ?_; clear HQn; rintro e w5 ⟨rfl, hb5⟩) | (go_at_call 26; refine (HQm.out _ hb5.out).mono ?_; clear HQm; rintro e wt ⟨rfl, hbt⟩) | fail)
        go_wp2_with (first | (go_at_call 25; refine (Hnum.out _ hbt.out).mono ?_; clear Hnum; rintro e w6 ⟨rfl, hb6⟩) | (go_at_call 26; refine (Hpv.out _ hb6.out).mono ?_; clear Hpv; rintro e w7 ⟨rfl, hb7⟩) | (go_at_call 23; refine (Hget.out _ hb7.out).mono ?_; clear Hget; rintro e w8 ⟨rfl, hb8⟩) | fail)
        go_ret
        exact ⟨rfl, hb8⟩
      | ok u k =>
        have hvr : numR ls = some v := hN
        have hv := num_some hvr
        have hnum' : ∀ w1, Below w.heap.size w w1 → Calls Tryd.prog 25 #[tv ls] w1 fun e w' => e = .returned (.tuple #[.int .i64 v, .nilIface]) ∧ Hid (Below w.heap.size w w') := fun w1 hb => by have h := hnum w1 hb; rw [hvr] at h; exact h
        have hpv : ∀ w1, Below w.heap.size w w1 → Calls Tryd.prog 26 #[.int .i64 v] w1 fun e w' => e = .returned (tv ls) ∧ Hid (Below w.heap.size w w') := fun w1 hb => by have h := hpr v (by omega) (by omega) w1 hb; rw [hv.1] at h; exact h
        have Hpv := Lib.hid hpv
        have Hnum := Lib.hid hnum'
        clear hN hvr hv hnum hnum' hpv
        obtain ⟨hu, hk, htk, hk1, hkl⟩ := get_ok Hlb.out hR
        have hget' : ∀ w1, Below w.heap.size w w1 → Calls Tryd.prog 23 #[.slice a lb.length c] w1 fun e w' => e = .returned (.tuple #[.int .i64 (unfoldN u), .int .i64 (k : Int), .nilIface]) ∧ Hid (Below w.heap.size w w') := fun w1 hb => by have h := hget w1 hb; rw [hR] at h; exact h
        obtain ⟨hz0, hz1⟩ := unfold_range u hu
        have hpu := hput (unfoldN u) hz0 hz1
        rw [fold_unfold] at hpu
        have hbk : ∀ w1 a1 c1, BAt w1 a1 (vb u) → BAt w1 a lb → ∀ q : Nat, Calls Tryd.prog 21 #[.slice a1 (vb u).length c1, .slice a k c] (w1.drewN q) fun e w' => e = .returned (.bool true) ∧ ∃ m, w' = w1.drewN m := fun w1 a1 c1 g1 g2 q => by
          have h := sameBytes_any a1 a c1 c (vb u) (lb.take k) (w1.drewN q) (g1.below' (below_drewN (Below.refl _ _) q)) ((g2.below' (below_drewN (Below.refl _ _) q)).cut k) (vb_byte u) (fun x hx => Hlb.out x (List.mem_of_mem_take hx))
          rw [decide_eq_true htk.symm, List.length_take, Nat.min_eq_left hkl] at h
          exact h.mono fun e w' ⟨he, hw⟩ => ⟨he, q, hw.symm⟩
        have Hget := Lib.hid hget'
        have Hpu := Lib.hid hpu
        have Hbk := Lib.hid hbk
        have hck : k ≤ c := by omega
        generalize (unfoldN u) = z at *
        generalize (vb u) = Y at *
        clear hR hget hget' hpu hbk hk htk hz0 hz1 hu
        clear hput hpr Hput Hpr Hlb
        have hne : (n != m) = true := by simpa using hnm
        have hap : (vb (foldN n)).take (min (vb (foldN n)).length (vb (foldN m)).length) ≠ (vb (foldN m)).take (min (vb (foldN n)).length (vb (foldN m)).length) := fun h => hnm (fold_inj (vb_apart HU.out HV.out h))
        have hit : (Lib.itoa n == Lib.itoa m) = false := by
          rw [beq_eq_false_iff_ne]
          exact fun h => hnm (itoa_inj ⟨h0, h1⟩ ⟨k0, k1⟩ h)
        have hbx := vb_byte (foldN n)
        have hby := vb_byte (foldN m)
        have hl10 := vb_len_10 _ HU.out
        have hm10 := vb_len_10 _ HV.out
        generalize vb (foldN n) = V at *
        generalize vb (foldN m) = U at *
        have hsame : ∀ w1 a1 c1 a2 c2, BAt w1 a1 V → BAt w1 a2 U → Calls Tryd.prog 21 #[.slice a1 (min V.length U.length) c1, .slice a2 (min V.length U.length) c2] w1 fun e w' => e = .returned (.bool false) ∧ w1 = w' := fun w1 a1 c1 a2 c2 g1 g2 => by
          have h := sameBytes_any a1 a2 c1 c2 (V.take (min V.length U.length)) (U.take (min V.length U.length)) w1 (g1.cut _) (g2.cut _) (fun x hx => hbx x (List.mem_of_mem_take hx)) (fun x hx => hby x (List.mem_of_mem_take hx))
          rw [decide_eq_false hap, List.length_take, List.length_take, Nat.min_eq_left (Nat.min_le_left _ _), Nat.min_eq_left (Nat.min_le_right _ _)] at h
          exact h
        have Hsame := Lib.hid hsame
        have HPn := Lib.hid hPn
        have HPm := Lib.hid hPm
        have HQn := Lib.hid hQn
        have HQm := Lib.hid hQm
        clear hap hbx hby hsame hPn hPm hQn hQm hnm
        obtain ⟨K, hK⟩ : ∃ K, K = min V.length U.length := ⟨_, rfl⟩
        rw [← hK] at Hsame
        have hK' : min (V.length : Int) (U.length : Int) = (K : Int) := by omega
        have hKV : K ≤ V.length := by omega
        have hKU : K ≤ U.length := by omega
        clear hK
        go_enter Tryd.func6, Tryd.ntmps6
        go_wp2_with (first | (go_at_call 9; refine Hf.out.mono ?_; rintro e w1 ⟨rfl, hb1⟩) | (go_at_call 22; refine (HPn.out _ hb1.out).mono ?_; clear HPn; rintro e w2 ⟨a2, c2, rfl, hc2, h2⟩) | (go_at_call 22; refine (HPm.out _ h2.out.2.1).mono ?_; clear HPm; rintro e w3 ⟨a3, c3, rfl, hc3, h3⟩))
        have hs3 : ∀ q : Nat, Calls Tryd.prog 21 #[.slice a2 K c2, .slice a3 K c3] (w3.drewN q) fun e w' => e = .returned (.bool false) ∧ ∃ m, w' = w3.drewN m := fun q =>
          (Hsame.out (w3.drewN q) a2 c2 a3 c3 ((h2.out.1.below' h3.out.2.2).below' (below_drewN (Below.refl _ _) q)) (h3.out.1.below' (below_drewN (Below.refl _ _) q))).mono fun e w' ⟨he, hw⟩ => ⟨he, q, hw.symm⟩
        have Hs3 := Lib.hid hs3
        have hb3 := h3.out.2.1
        have Hb3 := Lib.hid hb3
        have hc2' : K ≤ c2 := by omega
        have hc3' : K ≤ c3 := by omega
        clear hs3 hb3 h2 h3 hb1
        go_quiet ((go_at_call 21; exact Hs3.out _))
        have hb4 : Hid (Below w.heap.size w (w3.drewN nq)) := below_drewN Hb3.out nq
        clear Hs3
        generalize w3.drewN nq = w4 at *
        go_wp2_with (first | (go_at_call 26; refine (HQn.out _ hb4.out).mono ?_; clear HQn; rintro e w5 ⟨rfl, hb5⟩) | (go_at_call 26; refine (HQm.out _ hb5.out).mono ?_; clear HQm; rintro e wt ⟨rfl, hbt⟩) | fail)
        go_wp2_with (first | (go_at_call 25; refine (Hnum.out _ hbt.out).mono ?_; clear Hnum; rintro e w6 ⟨rfl, hb6⟩) | (go_at_call 26; refine (Hpv.out _ hb6.out).mono ?_; clear Hpv; rintro e w7 ⟨rfl, hb7⟩) | (go_at_call 23; refine (Hget.out _ hb7.out).mono ?_; clear Hget; rintro e w8 ⟨rfl, hb8⟩) | fail)
        have hb8d : Hid (Below w.heap.size w w8.drew) := hb8.out.drew
        go_region_held3 (fun _ => True) (trivial) (first | (go_at_call 22; refine (Hpu.out _ hb8d.out).mono ?_; clear Hpu; rintro e w9 ⟨a9, c9, rfl, hc9, h9⟩; have hs9 := (Hbk.out w9 a9 c9 h9.out.1 (HB.out.below' h9.out.2.1)); have Hs9 := Lib.hid hs9; clear hs9) | (go_at_call 21; refine (Hs9.out 0).mono ?_; rintro e w10 ⟨rfl, q10, hw10⟩; have hb10 : Hid (Below w.heap.size w w10) := (hw10 ▸ below_drewN h9.out.2.1 q10 : Below w.heap.size w w10); clear hw10))
        go_wp2
        go_ret
        exact ⟨rfl, hb10⟩
    | none =>
      cases hR : getL 0 0 lb with
      | long =>
        have hnum' : ∀ w1, Below w.heap.size w w1 → Calls Tryd.prog 25 #[tv ls] w1 fun e w' => e = .returned (.tuple #[.int .i64 0, .iface T (.pointer (some e2))]) ∧ Hid (Below w.heap.size w w') := fun w1 hb => by have h := hnum w1 hb; rw [hN] at h; exact h
        have Hnum := Lib.hid hnum'
        clear hN hnum hnum'
        have hget' : ∀ w1, Below w.heap.size w w1 → Calls Tryd.prog 23 #[.slice a lb.length c] w1 fun e w' => e = .returned (.tuple #[.int .i64 0, .int .i64 0, .iface T (.pointer (some e0))]) ∧ Hid (Below w.heap.size w w') := fun w1 hb => by have h := hget w1 hb; rw [hR] at h; exact h
        have Hget := Lib.hid hget'
        clear hR hget hget'
        clear hput hpr Hput Hpr Hlb
        have hne : (n != m) = true := by simpa using hnm
        have hap : (vb (foldN n)).take (min (vb (foldN n)).length (vb (foldN m)).length) ≠ (vb (foldN m)).take (min (vb (foldN n)).length (vb (foldN m)).length) := fun h => hnm (fold_inj (vb_apart HU.out HV.out h))
        have hit : (Lib.itoa n == Lib.itoa m) = false := by
          rw [beq_eq_false_iff_ne]
          exact fun h => hnm (itoa_inj ⟨h0, h1⟩ ⟨k0, k1⟩ h)
        have hbx := vb_byte (foldN n)
        have hby := vb_byte (foldN m)
        have hl10 := vb_len_10 _ HU.out
        have hm10 := vb_len_10 _ HV.out
        generalize vb (foldN n) = V at *
        generalize vb (foldN m) = U at *
        have hsame : ∀ w1 a1 c1 a2 c2, BAt w1 a1 V → BAt w1 a2 U → Calls Tryd.prog 21 #[.slice a1 (min V.length U.length) c1, .slice a2 (min V.length U.length) c2] w1 fun e w' => e = .returned (.bool false) ∧ w1 = w' := fun w1 a1 c1 a2 c2 g1 g2 => by
          have h := sameBytes_any a1 a2 c1 c2 (V.take (min V.length U.length)) (U.take (min V.length U.length)) w1 (g1.cut _) (g2.cut _) (fun x hx => hbx x (List.mem_of_mem_take hx)) (fun x hx => hby x (List.mem_of_mem_take hx))
          rw [decide_eq_false hap, List.length_take, List.length_take, Nat.min_eq_left (Nat.min_le_left _ _), Nat.min_eq_left (Nat.min_le_right _ _)] at h
          exact h
        have Hsame := Lib.hid hsame
        have HPn := Lib.hid hPn
        have HPm := Lib.hid hPm
        have HQn := Lib.hid hQn
        have HQm := Lib.hid hQm
        clear hap hbx hby hsame hPn hPm hQn hQm hnm
        obtain ⟨K, hK⟩ : ∃ K, K = min V.length U.length := ⟨_, rfl⟩
        rw [← hK] at Hsame
        have hK' : min (V.length : Int) (U.length : Int) = (K : Int) := by omega
        have hKV : K ≤ V.length := by omega
        have hKU : K ≤ U.length := by omega
        clear hK
        go_enter Tryd.func6, Tryd.ntmps6
        go_wp2_with (first | (go_at_call 9; refine Hf.out.mono ?_; rintro e w1 ⟨rfl, hb1⟩) | (go_at_call 22; refine (HPn.out _ hb1.out).mono ?_; clear HPn; rintro e w2 ⟨a2, c2, rfl, hc2, h2⟩) | (go_at_call 22; refine (HPm.out _ h2.out.2.1).mono ?_; clear HPm; rintro e w3 ⟨a3, c3, rfl, hc3, h3⟩))
        have hs3 : ∀ q : Nat, Calls Tryd.prog 21 #[.slice a2 K c2, .slice a3 K c3] (w3.drewN q) fun e w' => e = .returned (.bool false) ∧ ∃ m, w' = w3.drewN m := fun q =>
          (Hsame.out (w3.drewN q) a2 c2 a3 c3 ((h2.out.1.below' h3.out.2.2).below' (below_drewN (Below.refl _ _) q)) (h3.out.1.below' (below_drewN (Below.refl _ _) q))).mono fun e w' ⟨he, hw⟩ => ⟨he, q, hw.symm⟩
        have Hs3 := Lib.hid hs3
        have hb3 := h3.out.2.1
        have Hb3 := Lib.hid hb3
        have hc2' : K ≤ c2 := by omega
        have hc3' : K ≤ c3 := by omega
        clear hs3 hb3 h2 h3 hb1
        go_quiet ((go_at_call 21; exact Hs3.out _))
        have hb4 : Hid (Below w.heap.size w (w3.drewN nq)) := below_drewN Hb3.out nq
        clear Hs3
        generalize w3.drewN nq = w4 at *
        go_wp2_with (first | (go_at_call 26; refine (HQn.out _ hb4.out).mono ?_; clear HQn; rintro e w5 ⟨rfl, hb5⟩) | (go_at_call 26; refine (HQm.out _ hb5.out).mono ?_; clear HQm; rintro e wt ⟨rfl, hbt⟩) | fail)
        go_wp2_with (first | (go_at_call 25; refine (Hnum.out _ hbt.out).mono ?_; clear Hnum; rintro e w6 ⟨rfl, hb6⟩) | (go_at_call 23; refine (Hget.out _ hb6.out).mono ?_; clear Hget; rintro e w8 ⟨rfl, hb8⟩) | fail)
        go_ret
        exact ⟨rfl, hb8⟩
      | endd =>
        have hnum' : ∀ w1, Below w.heap.size w w1 → Calls Tryd.prog 25 #[tv ls] w1 fun e w' => e = .returned (.tuple #[.int .i64 0, .iface T (.pointer (some e2))]) ∧ Hid (Below w.heap.size w w') := fun w1 hb => by have h := hnum w1 hb; rw [hN] at h; exact h
        have Hnum := Lib.hid hnum'
        clear hN hnum hnum'
        have hget' : ∀ w1, Below w.heap.size w w1 → Calls Tryd.prog 23 #[.slice a lb.length c] w1 fun e w' => e = .returned (.tuple #[.int .i64 0, .int .i64 0, .iface T (.pointer (some e1))]) ∧ Hid (Below w.heap.size w w') := fun w1 hb => by have h := hget w1 hb; rw [hR] at h; exact h
        have Hget := Lib.hid hget'
        clear hR hget hget'
        clear hput hpr Hput Hpr Hlb
        have hne : (n != m) = true := by simpa using hnm
        have hap : (vb (foldN n)).take (min (vb (foldN n)).length (vb (foldN m)).length) ≠ (vb (foldN m)).take (min (vb (foldN n)).length (vb (foldN m)).length) := fun h => hnm (fold_inj (vb_apart HU.out HV.out h))
        have hit : (Lib.itoa n == Lib.itoa m) = false := by
          rw [beq_eq_false_iff_ne]
          exact fun h => hnm (itoa_inj ⟨h0, h1⟩ ⟨k0, k1⟩ h)
        have hbx := vb_byte (foldN n)
        have hby := vb_byte (foldN m)
        have hl10 := vb_len_10 _ HU.out
        have hm10 := vb_len_10 _ HV.out
        generalize vb (foldN n) = V at *
        generalize vb (foldN m) = U at *
        have hsame : ∀ w1 a1 c1 a2 c2, BAt w1 a1 V → BAt w1 a2 U → Calls Tryd.prog 21 #[.slice a1 (min V.length U.length) c1, .slice a2 (min V.length U.length) c2] w1 fun e w' => e = .returned (.bool false) ∧ w1 = w' := fun w1 a1 c1 a2 c2 g1 g2 => by
          have h := sameBytes_any a1 a2 c1 c2 (V.take (min V.length U.length)) (U.take (min V.length U.length)) w1 (g1.cut _) (g2.cut _) (fun x hx => hbx x (List.mem_of_mem_take hx)) (fun x hx => hby x (List.mem_of_mem_take hx))
          rw [decide_eq_false hap, List.length_take, List.length_take, Nat.min_eq_left (Nat.min_le_left _ _), Nat.min_eq_left (Nat.min_le_right _ _)] at h
          exact h
        have Hsame := Lib.hid hsame
        have HPn := Lib.hid hPn
        have HPm := Lib.hid hPm
        have HQn := Lib.hid hQn
        have HQm := Lib.hid hQm
        clear hap hbx hby hsame hPn hPm hQn hQm hnm
        obtain ⟨K, hK⟩ : ∃ K, K = min V.length U.length := ⟨_, rfl⟩
        rw [← hK] at Hsame
        have hK' : min (V.length : Int) (U.length : Int) = (K : Int) := by omega
        have hKV : K ≤ V.length := by omega
        have hKU : K ≤ U.length := by omega
        clear hK
        go_enter Tryd.func6, Tryd.ntmps6
        go_wp2_with (first | (go_at_call 9; refine Hf.out.mono ?_; rintro e w1 ⟨rfl, hb1⟩) | (go_at_call 22; refine (HPn.out _ hb1.out).mono ?_; clear HPn; rintro e w2 ⟨a2, c2, rfl, hc2, h2⟩) | (go_at_call 22; refine (HPm.out _ h2.out.2.1).mono ?_; clear HPm; rintro e w3 ⟨a3, c3, rfl, hc3, h3⟩))
        have hs3 : ∀ q : Nat, Calls Tryd.prog 21 #[.slice a2 K c2, .slice a3 K c3] (w3.drewN q) fun e w' => e = .returned (.bool false) ∧ ∃ m, w' = w3.drewN m := fun q =>
          (Hsame.out (w3.drewN q) a2 c2 a3 c3 ((h2.out.1.below' h3.out.2.2).below' (below_drewN (Below.refl _ _) q)) (h3.out.1.below' (below_drewN (Below.refl _ _) q))).mono fun e w' ⟨he, hw⟩ => ⟨he, q, hw.symm⟩
        have Hs3 := Lib.hid hs3
        have hb3 := h3.out.2.1
        have Hb3 := Lib.hid hb3
        have hc2' : K ≤ c2 := by omega
        have hc3' : K ≤ c3 := by omega
        clear hs3 hb3 h2 h3 hb1
        go_quiet ((go_at_call 21; exact Hs3.out _))
        have hb4 : Hid (Below w.heap.size w (w3.drewN nq)) := below_drewN Hb3.out nq
        clear Hs3
        generalize w3.drewN nq = w4 at *
        go_wp2_with (first | (go_at_call 26; refine (HQn.out _ hb4.out).mono ?_; clear HQn; rintro e w5 ⟨rfl, hb5⟩) | (go_at_call 26; refine (HQm.out _ hb5.out).mono ?_; clear HQm; rintro e wt ⟨rfl, hbt⟩) | fail)
        go_wp2_with (first | (go_at_call 25; refine (Hnum.out _ hbt.out).mono ?_; clear Hnum; rintro e w6 ⟨rfl, hb6⟩) | (go_at_call 23; refine (Hget.out _ hb6.out).mono ?_; clear Hget; rintro e w8 ⟨rfl, hb8⟩) | fail)
        go_ret
        exact ⟨rfl, hb8⟩
      | ok u k =>
        have hnum' : ∀ w1, Below w.heap.size w w1 → Calls Tryd.prog 25 #[tv ls] w1 fun e w' => e = .returned (.tuple #[.int .i64 0, .iface T (.pointer (some e2))]) ∧ Hid (Below w.heap.size w w') := fun w1 hb => by have h := hnum w1 hb; rw [hN] at h; exact h
        have Hnum := Lib.hid hnum'
        clear hN hnum hnum'
        obtain ⟨hu, hk, htk, hk1, hkl⟩ := get_ok Hlb.out hR
        have hget' : ∀ w1, Below w.heap.size w w1 → Calls Tryd.prog 23 #[.slice a lb.length c] w1 fun e w' => e = .returned (.tuple #[.int .i64 (unfoldN u), .int .i64 (k : Int), .nilIface]) ∧ Hid (Below w.heap.size w w') := fun w1 hb => by have h := hget w1 hb; rw [hR] at h; exact h
        obtain ⟨hz0, hz1⟩ := unfold_range u hu
        have hpu := hput (unfoldN u) hz0 hz1
        rw [fold_unfold] at hpu
        have hbk : ∀ w1 a1 c1, BAt w1 a1 (vb u) → BAt w1 a lb → ∀ q : Nat, Calls Tryd.prog 21 #[.slice a1 (vb u).length c1, .slice a k c] (w1.drewN q) fun e w' => e = .returned (.bool true) ∧ ∃ m, w' = w1.drewN m := fun w1 a1 c1 g1 g2 q => by
          have h := sameBytes_any a1 a c1 c (vb u) (lb.take k) (w1.drewN q) (g1.below' (below_drewN (Below.refl _ _) q)) ((g2.below' (below_drewN (Below.refl _ _) q)).cut k) (vb_byte u) (fun x hx => Hlb.out x (List.mem_of_mem_take hx))
          rw [decide_eq_true htk.symm, List.length_take, Nat.min_eq_left hkl] at h
          exact h.mono fun e w' ⟨he, hw⟩ => ⟨he, q, hw.symm⟩
        have Hget := Lib.hid hget'
        have Hpu := Lib.hid hpu
        have Hbk := Lib.hid hbk
        have hck : k ≤ c := by omega
        generalize (unfoldN u) = z at *
        generalize (vb u) = Y at *
        clear hR hget hget' hpu hbk hk htk hz0 hz1 hu
        clear hput hpr Hput Hpr Hlb
        have hne : (n != m) = true := by simpa using hnm
        have hap : (vb (foldN n)).take (min (vb (foldN n)).length (vb (foldN m)).length) ≠ (vb (foldN m)).take (min (vb (foldN n)).length (vb (foldN m)).length) := fun h => hnm (fold_inj (vb_apart HU.out HV.out h))
        have hit : (Lib.itoa n == Lib.itoa m) = false := by
          rw [beq_eq_false_iff_ne]
          exact fun h => hnm (itoa_inj ⟨h0, h1⟩ ⟨k0, k1⟩ h)
        have hbx := vb_byte (foldN n)
        have hby := vb_byte (foldN m)
        have hl10 := vb_len_10 _ HU.out
        have hm10 := vb_len_10 _ HV.out
        generalize vb (foldN n) = V at *
        generalize vb (foldN m) = U at *
        have hsame : ∀ w1 a1 c1 a2 c2, BAt w1 a1 V → BAt w1 a2 U → Calls Tryd.prog 21 #[.slice a1 (min V.length U.length) c1, .slice a2 (min V.length U.length) c2] w1 fun e w' => e = .returned (.bool false) ∧ w1 = w' := fun w1 a1 c1 a2 c2 g1 g2 => by
          have h := sameBytes_any a1 a2 c1 c2 (V.take (min V.length U.length)) (U.take (min V.length U.length)) w1 (g1.cut _) (g2.cut _) (fun x hx => hbx x (List.mem_of_mem_take hx)) (fun x hx => hby x (List.mem_of_mem_take hx))
          rw [decide_eq_false hap, List.length_take, List.length_take, Nat.min_eq_left (Nat.min_le_left _ _), Nat.min_eq_left (Nat.min_le_right _ _)] at h
          exact h
        have Hsame := Lib.hid hsame
        have HPn := Lib.hid hPn
        have HPm := Lib.hid hPm
        have HQn := Lib.hid hQn
        have HQm := Lib.hid hQm
        clear hap hbx hby hsame hPn hPm hQn hQm hnm
        obtain ⟨K, hK⟩ : ∃ K, K = min V.length U.length := ⟨_, rfl⟩
        rw [← hK] at Hsame
        have hK' : min (V.length : Int) (U.length : Int) = (K : Int) := by omega
        have hKV : K ≤ V.length := by omega
        have hKU : K ≤ U.length := by omega
        clear hK
        go_enter Tryd.func6, Tryd.ntmps6
        go_wp2_with (first | (go_at_call 9; refine Hf.out.mono ?_; rintro e w1 ⟨rfl, hb1⟩) | (go_at_call 22; refine (HPn.out _ hb1.out).mono ?_; clear HPn; rintro e w2 ⟨a2, c2, rfl, hc2, h2⟩) | (go_at_call 22; refine (HPm.out _ h2.out.2.1).mono ?_; clear HPm; rintro e w3 ⟨a3, c3, rfl, hc3, h3⟩))
        have hs3 : ∀ q : Nat, Calls Tryd.prog 21 #[.slice a2 K c2, .slice a3 K c3] (w3.drewN q) fun e w' => e = .returned (.bool false) ∧ ∃ m, w' = w3.drewN m := fun q =>
          (Hsame.out (w3.drewN q) a2 c2 a3 c3 ((h2.out.1.below' h3.out.2.2).below' (below_drewN (Below.refl _ _) q)) (h3.out.1.below' (below_drewN (Below.refl _ _) q))).mono fun e w' ⟨he, hw⟩ => ⟨he, q, hw.symm⟩
        have Hs3 := Lib.hid hs3
        have hb3 := h3.out.2.1
        have Hb3 := Lib.hid hb3
        have hc2' : K ≤ c2 := by omega
        have hc3' : K ≤ c3 := by omega
        clear hs3 hb3 h2 h3 hb1
        go_quiet ((go_at_call 21; exact Hs3.out _))
        have hb4 : Hid (Below w.heap.size w (w3.drewN nq)) := below_drewN Hb3.out nq
        clear Hs3
        generalize w3.drewN nq = w4 at *
        go_wp2_with (first | (go_at_call 26; refine (HQn.out _ hb4.out).mono ?_; clear HQn; rintro e w5 ⟨rfl, hb5⟩) | (go_at_call 26; refine (HQm.out _ hb5.out).mono ?_; clear HQm; rintro e wt ⟨rfl, hbt⟩) | fail)
        go_wp2_with (first | (go_at_call 25; refine (Hnum.out _ hbt.out).mono ?_; clear Hnum; rintro e w6 ⟨rfl, hb6⟩) | (go_at_call 23; refine (Hget.out _ hb6.out).mono ?_; clear Hget; rintro e w8 ⟨rfl, hb8⟩) | fail)
        have hb8d : Hid (Below w.heap.size w w8.drew) := hb8.out.drew
        go_region_held3 (fun _ => True) (trivial) (first | (go_at_call 22; refine (Hpu.out _ hb8d.out).mono ?_; clear Hpu; rintro e w9 ⟨a9, c9, rfl, hc9, h9⟩; have hs9 := (Hbk.out w9 a9 c9 h9.out.1 (HB.out.below' h9.out.2.1)); have Hs9 := Lib.hid hs9; clear hs9) | (go_at_call 21; refine (Hs9.out 0).mono ?_; rintro e w10 ⟨rfl, q10, hw10⟩; have hb10 : Hid (Below w.heap.size w w10) := (hw10 ▸ below_drewN h9.out.2.1 q10 : Below w.heap.size w w10); clear hw10))
        go_wp2
        go_ret
        exact ⟨rfl, hb10⟩
end Go.Proofs.YtaddpekjmboimaaDoor
