/- The walk of the statement on numbers there and back. -/
import Derived.Test.YtaddpekjmboimaaDoorWi
import Derived.Lib.ItoaLen
namespace Go.Proofs.YtaddpekjmboimaaDoor
open Go.RowKit Go.Maps Go.WideMaps Go.WideElems Go.ChangeShapes Go.WideShapes

variable {T : TypeId} {e0 e1 e2 : Addr}

theorem row_base {w : World} {B B' : Nat} {e : TypeId} {size n : Nat} {v : Value} {xs : List Value} (h : w.ownsRow B e size v n xs) (hB : B' ≤ B) : w.ownsRow B' e size v n xs := by
  refine ⟨h.1, ?_⟩
  rcases h.2 with h | ⟨g, cap, cur, e1, hb, rest⟩
  · exact .inl h
  · exact .inr ⟨g, cap, cur, e1, by omega, rest⟩

theorem num_itoa (n : Int) (h0 : -9223372036854775808 ≤ n) (h1 : n ≤ 9223372036854775807) : numR (Lib.itoa n) = if -1000000000 ≤ n ∧ n ≤ 1000000000 then some n else none := by
  unfold numR
  rw [atoi_itoa n h0 h1]
  simp
theorem itoa_len (n : Int) (h0 : -9223372036854775808 ≤ n) (h1 : n ≤ 9223372036854775807) : (Lib.itoa n).length ≤ 281474976710656 := by have := Lib.itoa_length_le n h0 h1; omega

set_option maxRecDepth 100000 in
set_option maxHeartbeats 2000000 in
theorem back_any (n : Int) (h0 : -9223372036854775808 ≤ n) (h1 : n ≤ 9223372036854775807) (a : Option Addr) (c : Nat) (lb : List Nat) (w : World) (hG : Glob T e0 e1 e2 w) (hb : BAt w a lb) (hlb : ∀ x ∈ lb, x < 256) (hm : lb.length ≤ 9223372036854775807) :
    Calls Tryd.prog 5 #[.int .i64 n, .slice a lb.length c] w fun e w' => e = .returned (.bool true) ∧ Hid (Below w.heap.size w w') := by
  have HG := Lib.hid hG
  have Hf := Lib.hid (first_any w hG)
  have HB := Lib.hid hb
  have Hlb := Lib.hid hlb
  obtain ⟨i0, hi, hz0, hz1, hz2⟩ := info_parts infoB
  by_cases hbig : 65536 < lb.length
  · have hd : decide ((65536 : Int) < (lb.length : Int)) = true := by simp; omega
    clear hG hb hlb
    go_enter Tryd.func5, Tryd.ntmps5
    go_wp2_with (first | (go_at_call 9; refine Hf.out.mono ?_; rintro e w1 ⟨rfl, hb1⟩))
    go_ret
    exact ⟨rfl, hb1⟩
  have hd : decide ((65536 : Int) < (lb.length : Int)) = false := by simp; omega
  have hU := fold_lt n h0 h1
  have hl10 := vb_len_10 (foldN n) hU
  have hl1 := vb_len_pos (foldN n)
  have hput : ∀ w1, Below w.heap.size w w1 → Calls Tryd.prog 22 #[.slice none 0 0, .int .i64 n] w1 fun e w' => ∃ a c, e = .returned (.slice a (vb (foldN n)).length c) ∧ Hid (BAt w' a (vb (foldN n)) ∧ Below w.heap.size w w') := fun w1 hb => (put_any n h0 h1 w1).mono fun e w' ⟨v, he, h2, h3⟩ => by
    obtain ⟨a, c, ha, ht⟩ := bat_row h2
    exact ⟨a, c, by rw [he, ha], ht, hb.trans (h3.mono hb.size)⟩
  have hby : ∀ w1 a c, BAt w1 a (vb (foldN n)) → Below w.heap.size w w1 → Calls Tryd.prog 18 #[.slice a (vb (foldN n)).length c] w1 fun e w' => ∃ v, e = .returned v ∧ Hid (w'.ownsRow w.heap.size 5 1 v (vb (foldN n)).length (bc (vb (foldN n))) ∧ Below w.heap.size w w') := fun w1 a c h1 hb => (bytes_any a c _ w1 h1 (by omega)).mono fun e w' ⟨v, he, h2, h3⟩ => ⟨v, he, row_base h2 hb.size, hb.trans (h3.mono hb.size)⟩
  have hget : ∀ w1 a c, BAt w1 a (vb (foldN n) ++ lb) → Below w.heap.size w w1 → Calls Tryd.prog 23 #[.slice a (vb (foldN n) ++ lb).length c] w1 fun e w' => e = .returned (.tuple #[.int .i64 n, .int .i64 ((vb (foldN n)).length : Int), .nilIface]) ∧ Hid (Below w.heap.size w w') := fun w1 a c h1' hb => by
    have hg := HG.out.below' hb
    have h := get_any a c (vb (foldN n) ++ lb) w1 (by rw [List.length_append]; omega) (fun x hx => by
      rcases List.mem_append.1 hx with hx | hx
      · exact vb_byte _ x hx
      · exact hlb x hx) h1' _ _ _ _ hg.c0 hg.c1
    rw [get_vb _ _ hU] at h
    refine h.mono fun e w' ⟨he, q, hq⟩ => ⟨?_, by rw [← hq]; exact below_drewN hb q⟩
    rw [he]; simp only [gval, unfold_fold]
  have hsize := fun w => size_any n h0 h1 w
  have hprint : ∀ w1, Below w.heap.size w w1 → Calls Tryd.prog 26 #[.int .i64 n] w1 fun e w' => e = .returned (tv (Lib.itoa n)) ∧ Hid (Below w.heap.size w w') := fun w1 hb => (print_any n h0 h1 w1 (HG.out.below' hb)).mono fun e w' ⟨he, hq⟩ => ⟨he, hb.trans (hq.out.mono hb.size)⟩
  have hnum : ∀ w1, Below w.heap.size w w1 → Calls Tryd.prog 25 #[tv (Lib.itoa n)] w1 fun e w' => e = .returned (numV T e2 (if -1000000000 ≤ n ∧ n ≤ 1000000000 then some n else none)) ∧ Hid (Below w.heap.size w w') := fun w1 hb => by
    have h := number_any (Lib.itoa n) (itoa_len n h0 h1) w1 (HG.out.below' hb)
    rw [num_itoa n h0 h1] at h
    exact h.mono fun e w' ⟨he, hq⟩ => ⟨he, hb.trans (hq.out.mono hb.size)⟩
  generalize foldN n = U at *
  have Hput := Lib.hid hput
  have Hby := Lib.hid hby
  have Hget := Lib.hid hget
  have Hsize := Lib.hid hsize
  have Hprint := Lib.hid hprint
  generalize hV : vb U = V at *
  have HV := Lib.hid hV
  clear hG hb hlb hput hby hget hsize hprint hV
  by_cases hr : -1000000000 ≤ n ∧ n ≤ 1000000000
  · rw [if_pos hr] at hnum
    have hnum' : ∀ w1, Below w.heap.size w w1 → Calls Tryd.prog 25 #[tv (Lib.itoa n)] w1 fun e w' => e = .returned (.tuple #[.int .i64 n, .nilIface]) ∧ Hid (Below w.heap.size w w') := hnum
    have Hnum := Lib.hid hnum'
    clear hnum hnum'
    have t1 : decide (-1000000000 ≤ n) = true := by simp; omega
    have t2 : decide (n ≤ 1000000000) = true := by simp; omega
    clear hr
    go_enter Tryd.func5, Tryd.ntmps5
    go_wp2_with (first | (go_at_call 9; refine Hf.out.mono ?_; rintro e w1 ⟨rfl, hb1⟩) | (go_at_call 22; refine (Hput.out _ hb1.out).mono ?_; rintro e w2 ⟨a2, c2, rfl, h2⟩) | (go_at_call 18; refine (Hby.out _ _ _ h2.out.1 h2.out.2).mono ?_; rintro e w3 ⟨v3, rfl, h3⟩; have hB3 := HB.out.below' h3.out.2; have hs3 := h3.out.2.size) | (at_builtin; refine wpList_append_bytes rfl _ _ rfl w.heap.size i0 hi hz0 hz1 hz2 _ V rfl h3.out.1 a c lb rfl hB3 (by omega) hs3 ?_; intro v' w4 hown4 hg4))
    obtain ⟨a4, c4, ha4, hB4⟩ := bat_row hown4
    have hb4 : Below w.heap.size w w4 := h3.out.2.grown hg4 hs3 (fun k e => (h3.out.1.lt k e).1)
    have hg := Hget.out w4 a4 c4 hB4 hb4
    have Hg := Lib.hid hg
    rw [ha4]
    clear ha4 hB4 hown4 hg4 hg hb4 hB3 hs3
    go_wp2_with (first | (go_at_call 23; refine Hg.out.mono ?_; rintro e w5 ⟨rfl, hb5⟩) | (go_at_call 24; refine (Hsize.out _).mono ?_; rintro e w' ⟨rfl, rfl⟩) | (go_at_call 26; refine (Hprint.out _ hb5.out).mono ?_; rintro e w6 ⟨rfl, hb6⟩) | (go_at_call 25; refine (Hnum.out _ hb6.out).mono ?_; rintro e w7 ⟨rfl, hb7⟩))
    go_ret
    exact ⟨rfl, hb7⟩
  · rw [if_neg hr] at hnum
    have hnum' : ∀ w1, Below w.heap.size w w1 → Calls Tryd.prog 25 #[tv (Lib.itoa n)] w1 fun e w' => e = .returned (.tuple #[.int .i64 0, .iface T (.pointer (some e2))]) ∧ Hid (Below w.heap.size w w') := hnum
    have Hnum := Lib.hid hnum'
    clear hnum hnum'
    have t1 : (decide (-1000000000 ≤ n) = true ∧ decide (n ≤ 1000000000) = false) ∨ decide (-1000000000 ≤ n) = false := by
      by_cases h : -1000000000 ≤ n
      · left; simp; omega
      · right; simp; omega
    clear hr
    rcases t1 with ⟨t1, t2⟩ | t1
    all_goals
      go_enter Tryd.func5, Tryd.ntmps5
      go_wp2_with (first | (go_at_call 9; refine Hf.out.mono ?_; rintro e w1 ⟨rfl, hb1⟩) | (go_at_call 22; refine (Hput.out _ hb1.out).mono ?_; rintro e w2 ⟨a2, c2, rfl, h2⟩) | (go_at_call 18; refine (Hby.out _ _ _ h2.out.1 h2.out.2).mono ?_; rintro e w3 ⟨v3, rfl, h3⟩; have hB3 := HB.out.below' h3.out.2; have hs3 := h3.out.2.size) | (at_builtin; refine wpList_append_bytes rfl _ _ rfl w.heap.size i0 hi hz0 hz1 hz2 _ V rfl h3.out.1 a c lb rfl hB3 (by omega) hs3 ?_; intro v' w4 hown4 hg4))
      obtain ⟨a4, c4, ha4, hB4⟩ := bat_row hown4
      have hb4 : Below w.heap.size w w4 := h3.out.2.grown hg4 hs3 (fun k e => (h3.out.1.lt k e).1)
      have hg := Hget.out w4 a4 c4 hB4 hb4
      have Hg := Lib.hid hg
      rw [ha4]
      clear ha4 hB4 hown4 hg4 hg hb4 hB3 hs3
      go_wp2_with (first | (go_at_call 23; refine Hg.out.mono ?_; rintro e w5 ⟨rfl, hb5⟩) | (go_at_call 24; refine (Hsize.out _).mono ?_; rintro e w' ⟨rfl, rfl⟩) | (go_at_call 26; refine (Hprint.out _ hb5.out).mono ?_; rintro e w6 ⟨rfl, hb6⟩) | (go_at_call 25; refine (Hnum.out _ hb6.out).mono ?_; rintro e w7 ⟨rfl, hb7⟩))
      go_ret
      exact ⟨rfl, hb7⟩
end Go.Proofs.YtaddpekjmboimaaDoor
