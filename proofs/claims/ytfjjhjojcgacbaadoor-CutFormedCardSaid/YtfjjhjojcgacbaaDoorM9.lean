/- Helpers, joined: Nj, Nk, Ld, Ar, Av. -/
import Derived.Test.YtfjjhjojcgacbaaDoorM1
import Derived.Test.YtfjjhjojcgacbaaDoorM8
import Derived.Test.YtfjjhjojcgacbaaDoorCards
import Derived.Test.YtfjjhjojcgacbaaDoorTie
import Derived.Lib.LaidTab
import Derived.ProofKit
import Derived.OpenShut
import Derived.ChangeSame
import Derived.ChangeVars
import Derived.LaidLaws
import Derived.LaidSub
import Derived.LaidHandle
import Derived.MakeChecks
import Derived.Stop.ErrReads
import Derived.Deep.DeepHandedRow
import Derived.Deep.DeepWitnessRowRef
import Derived.Deep.Slices
import Derived.HandedShaped
import Derived.Shelf.LaysM
import Derived.SliceStrings
import Derived.Carry
import Derived.Deep.Fields
import Derived.Lib.SmallJoins

/- Only by the statements' closures; the calls on histories, one form for all. -/
namespace Go.Proofs.YtfjjhjojcgacbaaDoor
open Go.RowKit Go.Maps Go.WideMaps Go.WideElems Go.ChangeShapes Go.WideShapes
variable {T : TypeId} {er : Nat → Addr}

set_option maxHeartbeats 4000000 in
set_option maxRecDepth 100000 in
theorem only_29 (q q2 : Nat) (p : Int → Bool) (a b : Option Addr) (n c m d : Nat) (xs : List Value) (es : List Ev) (hx : xs.length = n * 2) (hm : es.length = m) (h1 : ∀ u ∈ xs, u.oneCell' = true) (hn : n ≤ 100000 ∧ m ≤ 100000) (w : World) (h : SlAt w a xs) (g : EvsAt w b es m)
    (HK : ∀ V, Below w.heap.size w V → ∀ x : Int, Calls Tryd.prog 29 #[.int .i64 x, .pointer (some ⟨q, 0, none⟩), .pointer (some ⟨q2, 0, none⟩)] V fun e w' => e = .returned (.bool (p x)) ∧ Hid (Below V.heap.size V w')) :
    Calls Tryd.prog 17 #[hv a n c b m d, .func (.func 29) #[] #[.pointer (some ⟨q, 0, none⟩), .pointer (some ⟨q2, 0, none⟩)]] w fun e w' => ∃ v1 v2, e = .returned (.agg #[v1, v2]) ∧ Hid (w'.ownsRow w.heap.size 31 2 v1 n xs ∧ w'.ownsRow w.heap.size 34 8 v2 (es.filter fun e => p e.tx).length (evs (es.filter fun e => p e.tx)) ∧ Below w.heap.size w w') := by
  obtain ⟨i0, hi, hz0, hz1, hz2⟩ := info_parts elem34
  obtain ⟨W1, hW1, Hb1, hs1, Hx1⟩ := cells_new w #[.slice a n c, .slice b m d] 25
  obtain ⟨W, hW, Hb2, hs2, Hy⟩ := cells_new W1 #[.slice none 0 0, .slice none 0 0] 25
  have HB : Hid (Below w.heap.size w W) := stepB Hb1.out Hb2.out
  have HX : Hid (∀ V, Below W.heap.size W V → V.cell? ⟨w.heap.size, 0, none⟩ = some (.slice a n c) ∧ V.cell? ⟨w.heap.size, 1, none⟩ = some (.slice b m d)) := fun V hV => row_two (keepB hV (keepB Hb2.out Hx1.out))
  have H1 := Lib.hid (clone_obs a n c xs hx h1 hn.1 W (h.below HB.out))
  have Hg := Lib.hid (g.below HB.out)
  have HK' := Lib.hid HK
  have Hm := Lib.hid hm
  have Hmm : Hid (m ≤ 100000) := hn.2
  have hmm : (m : Int) ≤ 100000 := by omega
  have Hws : Hid (w.heap.size ≤ W.heap.size) := HB.out.size
  have Hw1 : Hid (W1.heap.size < W.heap.size ∧ w.heap.size ≤ W1.heap.size) := ⟨hs2.out, Nat.le_of_lt hs1.out⟩
  clear h g hx hm h1 hn Hb1 Hb2 Hx1 HK hs1 hs2
  obtain ⟨x0, x1⟩ := HX.out W (Below.refl _ _)
  go_enter Tryd.func17, Tryd.ntmps17
  go_wp2_with (first
    | (go_at_call 39; (with_reducible refine H1.out.mono ?_); rintro e w2 ⟨v1, rfl, K2⟩; obtain ⟨a1, c1, rfl, -, -⟩ := row_sl K2.out.1
       obtain ⟨W3, hW3, Hb3, hs3, Hq⟩ := cells_new w2 #[.slice none 0 0, .slice none 0 0] 25
       obtain ⟨G1, G2, hG1, hG2, ⟨⟨g0, l0⟩, ⟨g1, l1⟩⟩, HG, HL, HCg, HOg⟩ := box_put2x (w := w2) (.slice a1 n c1) (.slice none 0 0) Hq.out (Nat.le_refl _)
       obtain ⟨y0, y1⟩ := HX.out G2 (stepB K2.out.2 (Hb3.out.trans HL.out))))
  have HD : Hid (OnAt W w2.heap.size (.slice a1 n c1) n xs (.slice none 0 0) ((es.take 0).filter fun e => p e.tx) G2) := ⟨stepB K2.out.2 (Hb3.out.trans HL.out), K2.out.2.size, HG.out, row_kept K2.out.1 (Hb3.out.trans HL.out), by simpa [evs] using World.ownsRow_nil _ _ _ _⟩
  obtain ⟨Q, hQ⟩ : ∃ Q, w2.heap.size = Q := ⟨_, rfl⟩
  rw [hQ] at HD ⊢
  clear hQ hG1 hG2 g0 l0 g1 l1 HG HL HCg HOg hW3 Hb3 hs3 Hq y0 y1 x0 x1 K2 H1
  go_wp2_with fail
  go_loopw [15] (fun i wr => ∃ k v, k ≤ m ∧ i = .int .i64 ((k : Nat) : Int) ∧ Hid (OnAt W Q (.slice a1 n c1) n xs v ((es.take k).filter fun e => p e.tx) wr)) (fun i _ => m - (intOf i).toNat)
  case atStart => exact ⟨0, _, Nat.zero_le _, rfl, HD.out⟩
  case round =>
    clear HD
    obtain ⟨k, v, hk, rfl, HD⟩ := hrel
    have z0 := (row_two HD.out.box)
    obtain ⟨z0, z1⟩ := z0
    by_cases hlt : k < m
    · obtain ⟨b1, o1, x, rfl, hx, hc⟩ := Hg.out k hlt
      obtain ⟨u0, u1, u2, u3, u4, u5, u6, u7⟩ := hc wr HD.out.below
      have hlt2 : (k : Int) < (m : Int) := by omega
      obtain ⟨W4, hW4, Hb4, hs4, Hr⟩ := cells_new wr #[.int .i64 x.kind, .int .i64 x.tx, .int .i64 x.thread, .int .i64 x.obj, .int .i64 x.op, .int .i64 x.key, .int .i64 x.val, .int .i64 x.ret] 34
      obtain ⟨r0, r1, r2, r3, r4, r5, r6, r7⟩ := row_eight Hr.out
      have HS := Lib.hid (HK'.out W4 (stepB (stepB HB.out HD.out.below) Hb4.out) x.tx)
      have Hf := Lib.hid (filter_next (fun e : Ev => p e.tx) hx)
      have HC := Lib.hid hc
      have HP := Lib.hid (show ∀ R, p x.tx = R → (es.take (k + 1)).filter (fun e => p e.tx) = (es.take k).filter (fun e => p e.tx) ++ (if R then [x] else []) from fun R e => by rw [Hf.out, e])
      have hlen : Hid (((es.take k).filter fun e => p e.tx).length ≤ 100000) := by
        have h1 := List.length_filter_le (fun e : Ev => p e.tx) (es.take k)
        have h2 := List.length_take_le k es
        show _ ≤ _
        have := Hmm.out
        omega
      generalize (es.take k).filter (fun e => p e.tx) = fs at HD HP hlen
      generalize p x.tx = R at HS HP
      clear Hf hc hx
      cases R
      · have HE : Hid ((es.take (k + 1)).filter (fun e => p e.tx) = fs) := by show _ = _; rw [HP.out _ rfl]; simp
        clear HP
        go_wp2_with (first | (go_at_call 29; (with_reducible refine HS.out.mono ?_); rintro e w8 ⟨rfl, h8⟩))
        go_roundw
        case rel => exact ⟨k + 1, v, by omega, by go_num, by show OnAt _ _ _ _ _ _ _ _; rw [HE.out]; exact HD.out.next (stepB Hb4.out h8.out)⟩
        case measure => simp [intOf]; omega
      · have HE : Hid ((es.take (k + 1)).filter (fun e => p e.tx) = fs ++ [x]) := by show _ = _; rw [HP.out _ rfl]; simp
        clear HP
        go_wp2_with (first
          | (go_at_call 29; (with_reducible refine HS.out.mono ?_); rintro e w8 ⟨rfl, h8⟩
             have HD8 : Hid (OnAt W Q (.slice a1 n c1) n xs v fs w8) := HD.out.next (stepB Hb4.out h8.out)
             obtain ⟨s0, s1⟩ := row_two HD8.out.box
             obtain ⟨t0, t1, t2, t3, t4, t5, t6, t7⟩ := row_eight (keepB h8.out Hr.out))
          | (at_builtin; refine wpList_append_own _ rfl _ _ 23 rfl W.heap.size 34 i0 Ev.zero.agg 8 64 Tryd.underlying23 hi hz0 hz1 hz2 rfl (by decide) v _ _ rfl (HD8.out.row.alloc _) ⟨w8.heap.size, 0, none⟩ 1 1 [.int .i64 x.kind, .int .i64 x.tx, .int .i64 x.thread, .int .i64 x.obj, .int .i64 x.op, .int .i64 x.key, .int .i64 x.val, .int .i64 x.ret] rfl rfl (eight_news _ _ _ _ _ _ _ _ _ _) (by intro u hu; simp only [List.mem_cons, List.not_mem_nil, or_false] at hu; rcases hu with rfl | rfl | rfl | rfl | rfl | rfl | rfl | rfl <;> rfl) (by unfold maxLen; have := hlen.out; omega) (by have := hlen.out; omega) (by show _ ≤ _; simp; exact Nat.le_trans HD8.out.below.size (Nat.le_succ _)) ?_))
        intro v' w9 hown9 hgrow9 hnil9
        obtain ⟨a9, c9, rfl, -, -⟩ := row_sl hown9
        obtain ⟨U1, hU1, ⟨m0, m1⟩, HU⟩ := (HD8.out.next ((Below.refl _ _).alloc (Nat.le_refl _) (.cells #[.int .i64 x.kind, .int .i64 x.tx, .int .i64 x.thread, .int .i64 x.obj, .int .i64 x.op, .int .i64 x.key, .int .i64 x.val, .int .i64 x.ret] 34))).put (e := x) hgrow9 hown9
        clear hown9 hgrow9 hnil9
        go_wp2_with fail
        go_roundw
        case rel => exact ⟨k + 1, _, by omega, by go_num, by show OnAt _ _ _ _ _ _ _ _; rw [HE.out]; exact HU.out⟩
        case measure => simp [intOf]; omega
    · have hkm : k = m := by omega
      have HE : Hid ((es.take k).filter (fun e => p e.tx) = es.filter fun e => p e.tx) := by show _ = _; rw [hkm, List.take_of_length_le (by have := Hm.out; omega)]
      rw [HE.out] at HD
      obtain ⟨a2, c2, rfl, -, -⟩ := row_sl HD.out.row
      obtain ⟨F1, F2, hF1, hF2, ⟨⟨f0, e0⟩, ⟨f1, e1⟩⟩, HF, HE2, HC, HO⟩ := box_put2x (w := w) (.slice a1 n c1) (.slice a2 (es.filter fun e => p e.tx).length c2) (keepB' HD.out.below Hw1.out.1 Hy.out) Hw1.out.2
      clear HE
      go_wp2_with fail
      refine bodyPost_ret (results_row1 rfl _ _ W1.heap.size 25 _ (0, 0) _ rfl HF.out Tryd.underlying25 rfl (by kernel_rfl)) rfl ?_
      refine ⟨_, _, rfl, ?_, ?_, (stepB HB.out HD.out.below).trans HE2.out⟩
      · exact row_base (HO.out _ _ _ _ _ _ Hw1.out.1 HD.out.row1) Hws.out
      · exact row_base (HO.out _ _ _ _ _ _ Hw1.out.1 HD.out.row) Hws.out

set_option maxHeartbeats 4000000 in
set_option maxRecDepth 100000 in
theorem only_30 (q : Nat) (p : Int → Bool) (a b : Option Addr) (n c m d : Nat) (xs : List Value) (es : List Ev) (hx : xs.length = n * 2) (hm : es.length = m) (h1 : ∀ u ∈ xs, u.oneCell' = true) (hn : n ≤ 100000 ∧ m ≤ 100000) (w : World) (h : SlAt w a xs) (g : EvsAt w b es m)
    (HK : ∀ V, Below w.heap.size w V → ∀ x : Int, Calls Tryd.prog 30 #[.int .i64 x, .pointer (some ⟨q, 0, none⟩)] V fun e w' => e = .returned (.bool (p x)) ∧ Hid (Below V.heap.size V w')) :
    Calls Tryd.prog 17 #[hv a n c b m d, .func (.func 30) #[] #[.pointer (some ⟨q, 0, none⟩)]] w fun e w' => ∃ v1 v2, e = .returned (.agg #[v1, v2]) ∧ Hid (w'.ownsRow w.heap.size 31 2 v1 n xs ∧ w'.ownsRow w.heap.size 34 8 v2 (es.filter fun e => p e.tx).length (evs (es.filter fun e => p e.tx)) ∧ Below w.heap.size w w') := by
  obtain ⟨i0, hi, hz0, hz1, hz2⟩ := info_parts elem34
  obtain ⟨W1, hW1, Hb1, hs1, Hx1⟩ := cells_new w #[.slice a n c, .slice b m d] 25
  obtain ⟨W, hW, Hb2, hs2, Hy⟩ := cells_new W1 #[.slice none 0 0, .slice none 0 0] 25
  have HB : Hid (Below w.heap.size w W) := stepB Hb1.out Hb2.out
  have HX : Hid (∀ V, Below W.heap.size W V → V.cell? ⟨w.heap.size, 0, none⟩ = some (.slice a n c) ∧ V.cell? ⟨w.heap.size, 1, none⟩ = some (.slice b m d)) := fun V hV => row_two (keepB hV (keepB Hb2.out Hx1.out))
  have H1 := Lib.hid (clone_obs a n c xs hx h1 hn.1 W (h.below HB.out))
  have Hg := Lib.hid (g.below HB.out)
  have HK' := Lib.hid HK
  have Hm := Lib.hid hm
  have Hmm : Hid (m ≤ 100000) := hn.2
  have hmm : (m : Int) ≤ 100000 := by omega
  have Hws : Hid (w.heap.size ≤ W.heap.size) := HB.out.size
  have Hw1 : Hid (W1.heap.size < W.heap.size ∧ w.heap.size ≤ W1.heap.size) := ⟨hs2.out, Nat.le_of_lt hs1.out⟩
  clear h g hx hm h1 hn Hb1 Hb2 Hx1 HK hs1 hs2
  obtain ⟨x0, x1⟩ := HX.out W (Below.refl _ _)
  go_enter Tryd.func17, Tryd.ntmps17
  go_wp2_with (first
    | (go_at_call 39; (with_reducible refine H1.out.mono ?_); rintro e w2 ⟨v1, rfl, K2⟩; obtain ⟨a1, c1, rfl, -, -⟩ := row_sl K2.out.1
       obtain ⟨W3, hW3, Hb3, hs3, Hq⟩ := cells_new w2 #[.slice none 0 0, .slice none 0 0] 25
       obtain ⟨G1, G2, hG1, hG2, ⟨⟨g0, l0⟩, ⟨g1, l1⟩⟩, HG, HL, HCg, HOg⟩ := box_put2x (w := w2) (.slice a1 n c1) (.slice none 0 0) Hq.out (Nat.le_refl _)
       obtain ⟨y0, y1⟩ := HX.out G2 (stepB K2.out.2 (Hb3.out.trans HL.out))))
  have HD : Hid (OnAt W w2.heap.size (.slice a1 n c1) n xs (.slice none 0 0) ((es.take 0).filter fun e => p e.tx) G2) := ⟨stepB K2.out.2 (Hb3.out.trans HL.out), K2.out.2.size, HG.out, row_kept K2.out.1 (Hb3.out.trans HL.out), by simpa [evs] using World.ownsRow_nil _ _ _ _⟩
  obtain ⟨Q, hQ⟩ : ∃ Q, w2.heap.size = Q := ⟨_, rfl⟩
  rw [hQ] at HD ⊢
  clear hQ hG1 hG2 g0 l0 g1 l1 HG HL HCg HOg hW3 Hb3 hs3 Hq y0 y1 x0 x1 K2 H1
  go_wp2_with fail
  go_loopw [15] (fun i wr => ∃ k v, k ≤ m ∧ i = .int .i64 ((k : Nat) : Int) ∧ Hid (OnAt W Q (.slice a1 n c1) n xs v ((es.take k).filter fun e => p e.tx) wr)) (fun i _ => m - (intOf i).toNat)
  case atStart => exact ⟨0, _, Nat.zero_le _, rfl, HD.out⟩
  case round =>
    clear HD
    obtain ⟨k, v, hk, rfl, HD⟩ := hrel
    have z0 := (row_two HD.out.box)
    obtain ⟨z0, z1⟩ := z0
    by_cases hlt : k < m
    · obtain ⟨b1, o1, x, rfl, hx, hc⟩ := Hg.out k hlt
      obtain ⟨u0, u1, u2, u3, u4, u5, u6, u7⟩ := hc wr HD.out.below
      have hlt2 : (k : Int) < (m : Int) := by omega
      obtain ⟨W4, hW4, Hb4, hs4, Hr⟩ := cells_new wr #[.int .i64 x.kind, .int .i64 x.tx, .int .i64 x.thread, .int .i64 x.obj, .int .i64 x.op, .int .i64 x.key, .int .i64 x.val, .int .i64 x.ret] 34
      obtain ⟨r0, r1, r2, r3, r4, r5, r6, r7⟩ := row_eight Hr.out
      have HS := Lib.hid (HK'.out W4 (stepB (stepB HB.out HD.out.below) Hb4.out) x.tx)
      have Hf := Lib.hid (filter_next (fun e : Ev => p e.tx) hx)
      have HC := Lib.hid hc
      have HP := Lib.hid (show ∀ R, p x.tx = R → (es.take (k + 1)).filter (fun e => p e.tx) = (es.take k).filter (fun e => p e.tx) ++ (if R then [x] else []) from fun R e => by rw [Hf.out, e])
      have hlen : Hid (((es.take k).filter fun e => p e.tx).length ≤ 100000) := by
        have h1 := List.length_filter_le (fun e : Ev => p e.tx) (es.take k)
        have h2 := List.length_take_le k es
        show _ ≤ _
        have := Hmm.out
        omega
      generalize (es.take k).filter (fun e => p e.tx) = fs at HD HP hlen
      generalize p x.tx = R at HS HP
      clear Hf hc hx
      cases R
      · have HE : Hid ((es.take (k + 1)).filter (fun e => p e.tx) = fs) := by show _ = _; rw [HP.out _ rfl]; simp
        clear HP
        go_wp2_with (first | (go_at_call 30; (with_reducible refine HS.out.mono ?_); rintro e w8 ⟨rfl, h8⟩))
        go_roundw
        case rel => exact ⟨k + 1, v, by omega, by go_num, by show OnAt _ _ _ _ _ _ _ _; rw [HE.out]; exact HD.out.next (stepB Hb4.out h8.out)⟩
        case measure => simp [intOf]; omega
      · have HE : Hid ((es.take (k + 1)).filter (fun e => p e.tx) = fs ++ [x]) := by show _ = _; rw [HP.out _ rfl]; simp
        clear HP
        go_wp2_with (first
          | (go_at_call 30; (with_reducible refine HS.out.mono ?_); rintro e w8 ⟨rfl, h8⟩
             have HD8 : Hid (OnAt W Q (.slice a1 n c1) n xs v fs w8) := HD.out.next (stepB Hb4.out h8.out)
             obtain ⟨s0, s1⟩ := row_two HD8.out.box
             obtain ⟨t0, t1, t2, t3, t4, t5, t6, t7⟩ := row_eight (keepB h8.out Hr.out))
          | (at_builtin; refine wpList_append_own _ rfl _ _ 23 rfl W.heap.size 34 i0 Ev.zero.agg 8 64 Tryd.underlying23 hi hz0 hz1 hz2 rfl (by decide) v _ _ rfl (HD8.out.row.alloc _) ⟨w8.heap.size, 0, none⟩ 1 1 [.int .i64 x.kind, .int .i64 x.tx, .int .i64 x.thread, .int .i64 x.obj, .int .i64 x.op, .int .i64 x.key, .int .i64 x.val, .int .i64 x.ret] rfl rfl (eight_news _ _ _ _ _ _ _ _ _ _) (by intro u hu; simp only [List.mem_cons, List.not_mem_nil, or_false] at hu; rcases hu with rfl | rfl | rfl | rfl | rfl | rfl | rfl | rfl <;> rfl) (by unfold maxLen; have := hlen.out; omega) (by have := hlen.out; omega) (by show _ ≤ _; simp; exact Nat.le_trans HD8.out.below.size (Nat.le_succ _)) ?_))
        intro v' w9 hown9 hgrow9 hnil9
        obtain ⟨a9, c9, rfl, -, -⟩ := row_sl hown9
        obtain ⟨U1, hU1, ⟨m0, m1⟩, HU⟩ := (HD8.out.next ((Below.refl _ _).alloc (Nat.le_refl _) (.cells #[.int .i64 x.kind, .int .i64 x.tx, .int .i64 x.thread, .int .i64 x.obj, .int .i64 x.op, .int .i64 x.key, .int .i64 x.val, .int .i64 x.ret] 34))).put (e := x) hgrow9 hown9
        clear hown9 hgrow9 hnil9
        go_wp2_with fail
        go_roundw
        case rel => exact ⟨k + 1, _, by omega, by go_num, by show OnAt _ _ _ _ _ _ _ _; rw [HE.out]; exact HU.out⟩
        case measure => simp [intOf]; omega
    · have hkm : k = m := by omega
      have HE : Hid ((es.take k).filter (fun e => p e.tx) = es.filter fun e => p e.tx) := by show _ = _; rw [hkm, List.take_of_length_le (by have := Hm.out; omega)]
      rw [HE.out] at HD
      obtain ⟨a2, c2, rfl, -, -⟩ := row_sl HD.out.row
      obtain ⟨F1, F2, hF1, hF2, ⟨⟨f0, e0⟩, ⟨f1, e1⟩⟩, HF, HE2, HC, HO⟩ := box_put2x (w := w) (.slice a1 n c1) (.slice a2 (es.filter fun e => p e.tx).length c2) (keepB' HD.out.below Hw1.out.1 Hy.out) Hw1.out.2
      clear HE
      go_wp2_with fail
      refine bodyPost_ret (results_row1 rfl _ _ W1.heap.size 25 _ (0, 0) _ rfl HF.out Tryd.underlying25 rfl (by kernel_rfl)) rfl ?_
      refine ⟨_, _, rfl, ?_, ?_, (stepB HB.out HD.out.below).trans HE2.out⟩
      · exact row_base (HO.out _ _ _ _ _ _ Hw1.out.1 HD.out.row1) Hws.out
      · exact row_base (HO.out _ _ _ _ _ _ Hw1.out.1 HD.out.row) Hws.out

set_option maxHeartbeats 4000000 in
set_option maxRecDepth 100000 in
theorem only_31 (q : Nat) (p : Int → Bool) (a b : Option Addr) (n c m d : Nat) (xs : List Value) (es : List Ev) (hx : xs.length = n * 2) (hm : es.length = m) (h1 : ∀ u ∈ xs, u.oneCell' = true) (hn : n ≤ 100000 ∧ m ≤ 100000) (w : World) (h : SlAt w a xs) (g : EvsAt w b es m)
    (HK : ∀ V, Below w.heap.size w V → ∀ x : Int, Calls Tryd.prog 31 #[.int .i64 x, .pointer (some ⟨q, 0, none⟩)] V fun e w' => e = .returned (.bool (p x)) ∧ Hid (Below V.heap.size V w')) :
    Calls Tryd.prog 17 #[hv a n c b m d, .func (.func 31) #[] #[.pointer (some ⟨q, 0, none⟩)]] w fun e w' => ∃ v1 v2, e = .returned (.agg #[v1, v2]) ∧ Hid (w'.ownsRow w.heap.size 31 2 v1 n xs ∧ w'.ownsRow w.heap.size 34 8 v2 (es.filter fun e => p e.tx).length (evs (es.filter fun e => p e.tx)) ∧ Below w.heap.size w w') := by
  obtain ⟨i0, hi, hz0, hz1, hz2⟩ := info_parts elem34
  obtain ⟨W1, hW1, Hb1, hs1, Hx1⟩ := cells_new w #[.slice a n c, .slice b m d] 25
  obtain ⟨W, hW, Hb2, hs2, Hy⟩ := cells_new W1 #[.slice none 0 0, .slice none 0 0] 25
  have HB : Hid (Below w.heap.size w W) := stepB Hb1.out Hb2.out
  have HX : Hid (∀ V, Below W.heap.size W V → V.cell? ⟨w.heap.size, 0, none⟩ = some (.slice a n c) ∧ V.cell? ⟨w.heap.size, 1, none⟩ = some (.slice b m d)) := fun V hV => row_two (keepB hV (keepB Hb2.out Hx1.out))
  have H1 := Lib.hid (clone_obs a n c xs hx h1 hn.1 W (h.below HB.out))
  have Hg := Lib.hid (g.below HB.out)
  have HK' := Lib.hid HK
  have Hm := Lib.hid hm
  have Hmm : Hid (m ≤ 100000) := hn.2
  have hmm : (m : Int) ≤ 100000 := by omega
  have Hws : Hid (w.heap.size ≤ W.heap.size) := HB.out.size
  have Hw1 : Hid (W1.heap.size < W.heap.size ∧ w.heap.size ≤ W1.heap.size) := ⟨hs2.out, Nat.le_of_lt hs1.out⟩
  clear h g hx hm h1 hn Hb1 Hb2 Hx1 HK hs1 hs2
  obtain ⟨x0, x1⟩ := HX.out W (Below.refl _ _)
  go_enter Tryd.func17, Tryd.ntmps17
  go_wp2_with (first
    | (go_at_call 39; (with_reducible refine H1.out.mono ?_); rintro e w2 ⟨v1, rfl, K2⟩; obtain ⟨a1, c1, rfl, -, -⟩ := row_sl K2.out.1
       obtain ⟨W3, hW3, Hb3, hs3, Hq⟩ := cells_new w2 #[.slice none 0 0, .slice none 0 0] 25
       obtain ⟨G1, G2, hG1, hG2, ⟨⟨g0, l0⟩, ⟨g1, l1⟩⟩, HG, HL, HCg, HOg⟩ := box_put2x (w := w2) (.slice a1 n c1) (.slice none 0 0) Hq.out (Nat.le_refl _)
       obtain ⟨y0, y1⟩ := HX.out G2 (stepB K2.out.2 (Hb3.out.trans HL.out))))
  have HD : Hid (OnAt W w2.heap.size (.slice a1 n c1) n xs (.slice none 0 0) ((es.take 0).filter fun e => p e.tx) G2) := ⟨stepB K2.out.2 (Hb3.out.trans HL.out), K2.out.2.size, HG.out, row_kept K2.out.1 (Hb3.out.trans HL.out), by simpa [evs] using World.ownsRow_nil _ _ _ _⟩
  obtain ⟨Q, hQ⟩ : ∃ Q, w2.heap.size = Q := ⟨_, rfl⟩
  rw [hQ] at HD ⊢
  clear hQ hG1 hG2 g0 l0 g1 l1 HG HL HCg HOg hW3 Hb3 hs3 Hq y0 y1 x0 x1 K2 H1
  go_wp2_with fail
  go_loopw [15] (fun i wr => ∃ k v, k ≤ m ∧ i = .int .i64 ((k : Nat) : Int) ∧ Hid (OnAt W Q (.slice a1 n c1) n xs v ((es.take k).filter fun e => p e.tx) wr)) (fun i _ => m - (intOf i).toNat)
  case atStart => exact ⟨0, _, Nat.zero_le _, rfl, HD.out⟩
  case round =>
    clear HD
    obtain ⟨k, v, hk, rfl, HD⟩ := hrel
    have z0 := (row_two HD.out.box)
    obtain ⟨z0, z1⟩ := z0
    by_cases hlt : k < m
    · obtain ⟨b1, o1, x, rfl, hx, hc⟩ := Hg.out k hlt
      obtain ⟨u0, u1, u2, u3, u4, u5, u6, u7⟩ := hc wr HD.out.below
      have hlt2 : (k : Int) < (m : Int) := by omega
      obtain ⟨W4, hW4, Hb4, hs4, Hr⟩ := cells_new wr #[.int .i64 x.kind, .int .i64 x.tx, .int .i64 x.thread, .int .i64 x.obj, .int .i64 x.op, .int .i64 x.key, .int .i64 x.val, .int .i64 x.ret] 34
      obtain ⟨r0, r1, r2, r3, r4, r5, r6, r7⟩ := row_eight Hr.out
      have HS := Lib.hid (HK'.out W4 (stepB (stepB HB.out HD.out.below) Hb4.out) x.tx)
      have Hf := Lib.hid (filter_next (fun e : Ev => p e.tx) hx)
      have HC := Lib.hid hc
      have HP := Lib.hid (show ∀ R, p x.tx = R → (es.take (k + 1)).filter (fun e => p e.tx) = (es.take k).filter (fun e => p e.tx) ++ (if R then [x] else []) from fun R e => by rw [Hf.out, e])
      have hlen : Hid (((es.take k).filter fun e => p e.tx).length ≤ 100000) := by
        have h1 := List.length_filter_le (fun e : Ev => p e.tx) (es.take k)
        have h2 := List.length_take_le k es
        show _ ≤ _
        have := Hmm.out
        omega
      generalize (es.take k).filter (fun e => p e.tx) = fs at HD HP hlen
      generalize p x.tx = R at HS HP
      clear Hf hc hx
      cases R
      · have HE : Hid ((es.take (k + 1)).filter (fun e => p e.tx) = fs) := by show _ = _; rw [HP.out _ rfl]; simp
        clear HP
        go_wp2_with (first | (go_at_call 31; (with_reducible refine HS.out.mono ?_); rintro e w8 ⟨rfl, h8⟩))
        go_roundw
        case rel => exact ⟨k + 1, v, by omega, by go_num, by show OnAt _ _ _ _ _ _ _ _; rw [HE.out]; exact HD.out.next (stepB Hb4.out h8.out)⟩
        case measure => simp [intOf]; omega
      · have HE : Hid ((es.take (k + 1)).filter (fun e => p e.tx) = fs ++ [x]) := by show _ = _; rw [HP.out _ rfl]; simp
        clear HP
        go_wp2_with (first
          | (go_at_call 31; (with_reducible refine HS.out.mono ?_); rintro e w8 ⟨rfl, h8⟩
             have HD8 : Hid (OnAt W Q (.slice a1 n c1) n xs v fs w8) := HD.out.next (stepB Hb4.out h8.out)
             obtain ⟨s0, s1⟩ := row_two HD8.out.box
             obtain ⟨t0, t1, t2, t3, t4, t5, t6, t7⟩ := row_eight (keepB h8.out Hr.out))
          | (at_builtin; refine wpList_append_own _ rfl _ _ 23 rfl W.heap.size 34 i0 Ev.zero.agg 8 64 Tryd.underlying23 hi hz0 hz1 hz2 rfl (by decide) v _ _ rfl (HD8.out.row.alloc _) ⟨w8.heap.size, 0, none⟩ 1 1 [.int .i64 x.kind, .int .i64 x.tx, .int .i64 x.thread, .int .i64 x.obj, .int .i64 x.op, .int .i64 x.key, .int .i64 x.val, .int .i64 x.ret] rfl rfl (eight_news _ _ _ _ _ _ _ _ _ _) (by intro u hu; simp only [List.mem_cons, List.not_mem_nil, or_false] at hu; rcases hu with rfl | rfl | rfl | rfl | rfl | rfl | rfl | rfl <;> rfl) (by unfold maxLen; have := hlen.out; omega) (by have := hlen.out; omega) (by show _ ≤ _; simp; exact Nat.le_trans HD8.out.below.size (Nat.le_succ _)) ?_))
        intro v' w9 hown9 hgrow9 hnil9
        obtain ⟨a9, c9, rfl, -, -⟩ := row_sl hown9
        obtain ⟨U1, hU1, ⟨m0, m1⟩, HU⟩ := (HD8.out.next ((Below.refl _ _).alloc (Nat.le_refl _) (.cells #[.int .i64 x.kind, .int .i64 x.tx, .int .i64 x.thread, .int .i64 x.obj, .int .i64 x.op, .int .i64 x.key, .int .i64 x.val, .int .i64 x.ret] 34))).put (e := x) hgrow9 hown9
        clear hown9 hgrow9 hnil9
        go_wp2_with fail
        go_roundw
        case rel => exact ⟨k + 1, _, by omega, by go_num, by show OnAt _ _ _ _ _ _ _ _; rw [HE.out]; exact HU.out⟩
        case measure => simp [intOf]; omega
    · have hkm : k = m := by omega
      have HE : Hid ((es.take k).filter (fun e => p e.tx) = es.filter fun e => p e.tx) := by show _ = _; rw [hkm, List.take_of_length_le (by have := Hm.out; omega)]
      rw [HE.out] at HD
      obtain ⟨a2, c2, rfl, -, -⟩ := row_sl HD.out.row
      obtain ⟨F1, F2, hF1, hF2, ⟨⟨f0, e0⟩, ⟨f1, e1⟩⟩, HF, HE2, HC, HO⟩ := box_put2x (w := w) (.slice a1 n c1) (.slice a2 (es.filter fun e => p e.tx).length c2) (keepB' HD.out.below Hw1.out.1 Hy.out) Hw1.out.2
      clear HE
      go_wp2_with fail
      refine bodyPost_ret (results_row1 rfl _ _ W1.heap.size 25 _ (0, 0) _ rfl HF.out Tryd.underlying25 rfl (by kernel_rfl)) rfl ?_
      refine ⟨_, _, rfl, ?_, ?_, (stepB HB.out HD.out.below).trans HE2.out⟩
      · exact row_base (HO.out _ _ _ _ _ _ Hw1.out.1 HD.out.row1) Hws.out
      · exact row_base (HO.out _ _ _ _ _ _ Hw1.out.1 HD.out.row) Hws.out

set_option maxHeartbeats 4000000 in
set_option maxRecDepth 100000 in
theorem only_33 (p : Int → Bool) (a b : Option Addr) (n c m d : Nat) (xs : List Value) (es : List Ev) (hx : xs.length = n * 2) (hm : es.length = m) (h1 : ∀ u ∈ xs, u.oneCell' = true) (hn : n ≤ 100000 ∧ m ≤ 100000) (w : World) (h : SlAt w a xs) (g : EvsAt w b es m)
    (HK : ∀ V, Below w.heap.size w V → ∀ x : Int, Calls Tryd.prog 33 #[.int .i64 x] V fun e w' => e = .returned (.bool (p x)) ∧ Hid (Below V.heap.size V w')) :
    Calls Tryd.prog 17 #[hv a n c b m d, .func (.func 33) #[] #[]] w fun e w' => ∃ v1 v2, e = .returned (.agg #[v1, v2]) ∧ Hid (w'.ownsRow w.heap.size 31 2 v1 n xs ∧ w'.ownsRow w.heap.size 34 8 v2 (es.filter fun e => p e.tx).length (evs (es.filter fun e => p e.tx)) ∧ Below w.heap.size w w') := by
  obtain ⟨i0, hi, hz0, hz1, hz2⟩ := info_parts elem34
  obtain ⟨W1, hW1, Hb1, hs1, Hx1⟩ := cells_new w #[.slice a n c, .slice b m d] 25
  obtain ⟨W, hW, Hb2, hs2, Hy⟩ := cells_new W1 #[.slice none 0 0, .slice none 0 0] 25
  have HB : Hid (Below w.heap.size w W) := stepB Hb1.out Hb2.out
  have HX : Hid (∀ V, Below W.heap.size W V → V.cell? ⟨w.heap.size, 0, none⟩ = some (.slice a n c) ∧ V.cell? ⟨w.heap.size, 1, none⟩ = some (.slice b m d)) := fun V hV => row_two (keepB hV (keepB Hb2.out Hx1.out))
  have H1 := Lib.hid (clone_obs a n c xs hx h1 hn.1 W (h.below HB.out))
  have Hg := Lib.hid (g.below HB.out)
  have HK' := Lib.hid HK
  have Hm := Lib.hid hm
  have Hmm : Hid (m ≤ 100000) := hn.2
  have hmm : (m : Int) ≤ 100000 := by omega
  have Hws : Hid (w.heap.size ≤ W.heap.size) := HB.out.size
  have Hw1 : Hid (W1.heap.size < W.heap.size ∧ w.heap.size ≤ W1.heap.size) := ⟨hs2.out, Nat.le_of_lt hs1.out⟩
  clear h g hx hm h1 hn Hb1 Hb2 Hx1 HK hs1 hs2
  obtain ⟨x0, x1⟩ := HX.out W (Below.refl _ _)
  go_enter Tryd.func17, Tryd.ntmps17
  go_wp2_with (first
    | (go_at_call 39; (with_reducible refine H1.out.mono ?_); rintro e w2 ⟨v1, rfl, K2⟩; obtain ⟨a1, c1, rfl, -, -⟩ := row_sl K2.out.1
       obtain ⟨W3, hW3, Hb3, hs3, Hq⟩ := cells_new w2 #[.slice none 0 0, .slice none 0 0] 25
       obtain ⟨G1, G2, hG1, hG2, ⟨⟨g0, l0⟩, ⟨g1, l1⟩⟩, HG, HL, HCg, HOg⟩ := box_put2x (w := w2) (.slice a1 n c1) (.slice none 0 0) Hq.out (Nat.le_refl _)
       obtain ⟨y0, y1⟩ := HX.out G2 (stepB K2.out.2 (Hb3.out.trans HL.out))))
  have HD : Hid (OnAt W w2.heap.size (.slice a1 n c1) n xs (.slice none 0 0) ((es.take 0).filter fun e => p e.tx) G2) := ⟨stepB K2.out.2 (Hb3.out.trans HL.out), K2.out.2.size, HG.out, row_kept K2.out.1 (Hb3.out.trans HL.out), by simpa [evs] using World.ownsRow_nil _ _ _ _⟩
  obtain ⟨Q, hQ⟩ : ∃ Q, w2.heap.size = Q := ⟨_, rfl⟩
  rw [hQ] at HD ⊢
  clear hQ hG1 hG2 g0 l0 g1 l1 HG HL HCg HOg hW3 Hb3 hs3 Hq y0 y1 x0 x1 K2 H1
  go_wp2_with fail
  go_loopw [15] (fun i wr => ∃ k v, k ≤ m ∧ i = .int .i64 ((k : Nat) : Int) ∧ Hid (OnAt W Q (.slice a1 n c1) n xs v ((es.take k).filter fun e => p e.tx) wr)) (fun i _ => m - (intOf i).toNat)
  case atStart => exact ⟨0, _, Nat.zero_le _, rfl, HD.out⟩
  case round =>
    clear HD
    obtain ⟨k, v, hk, rfl, HD⟩ := hrel
    have z0 := (row_two HD.out.box)
    obtain ⟨z0, z1⟩ := z0
    by_cases hlt : k < m
    · obtain ⟨b1, o1, x, rfl, hx, hc⟩ := Hg.out k hlt
      obtain ⟨u0, u1, u2, u3, u4, u5, u6, u7⟩ := hc wr HD.out.below
      have hlt2 : (k : Int) < (m : Int) := by omega
      obtain ⟨W4, hW4, Hb4, hs4, Hr⟩ := cells_new wr #[.int .i64 x.kind, .int .i64 x.tx, .int .i64 x.thread, .int .i64 x.obj, .int .i64 x.op, .int .i64 x.key, .int .i64 x.val, .int .i64 x.ret] 34
      obtain ⟨r0, r1, r2, r3, r4, r5, r6, r7⟩ := row_eight Hr.out
      have HS := Lib.hid (HK'.out W4 (stepB (stepB HB.out HD.out.below) Hb4.out) x.tx)
      have Hf := Lib.hid (filter_next (fun e : Ev => p e.tx) hx)
      have HC := Lib.hid hc
      have HP := Lib.hid (show ∀ R, p x.tx = R → (es.take (k + 1)).filter (fun e => p e.tx) = (es.take k).filter (fun e => p e.tx) ++ (if R then [x] else []) from fun R e => by rw [Hf.out, e])
      have hlen : Hid (((es.take k).filter fun e => p e.tx).length ≤ 100000) := by
        have h1 := List.length_filter_le (fun e : Ev => p e.tx) (es.take k)
        have h2 := List.length_take_le k es
        show _ ≤ _
        have := Hmm.out
        omega
      generalize (es.take k).filter (fun e => p e.tx) = fs at HD HP hlen
      generalize p x.tx = R at HS HP
      clear Hf hc hx
      cases R
      · have HE : Hid ((es.take (k + 1)).filter (fun e => p e.tx) = fs) := by show _ = _; rw [HP.out _ rfl]; simp
        clear HP
        go_wp2_with (first | (go_at_call 33; (with_reducible refine HS.out.mono ?_); rintro e w8 ⟨rfl, h8⟩))
        go_roundw
        case rel => exact ⟨k + 1, v, by omega, by go_num, by show OnAt _ _ _ _ _ _ _ _; rw [HE.out]; exact HD.out.next (stepB Hb4.out h8.out)⟩
        case measure => simp [intOf]; omega
      · have HE : Hid ((es.take (k + 1)).filter (fun e => p e.tx) = fs ++ [x]) := by show _ = _; rw [HP.out _ rfl]; simp
        clear HP
        go_wp2_with (first
          | (go_at_call 33; (with_reducible refine HS.out.mono ?_); rintro e w8 ⟨rfl, h8⟩
             have HD8 : Hid (OnAt W Q (.slice a1 n c1) n xs v fs w8) := HD.out.next (stepB Hb4.out h8.out)
             obtain ⟨s0, s1⟩ := row_two HD8.out.box
             obtain ⟨t0, t1, t2, t3, t4, t5, t6, t7⟩ := row_eight (keepB h8.out Hr.out))
          | (at_builtin; refine wpList_append_own _ rfl _ _ 23 rfl W.heap.size 34 i0 Ev.zero.agg 8 64 Tryd.underlying23 hi hz0 hz1 hz2 rfl (by decide) v _ _ rfl (HD8.out.row.alloc _) ⟨w8.heap.size, 0, none⟩ 1 1 [.int .i64 x.kind, .int .i64 x.tx, .int .i64 x.thread, .int .i64 x.obj, .int .i64 x.op, .int .i64 x.key, .int .i64 x.val, .int .i64 x.ret] rfl rfl (eight_news _ _ _ _ _ _ _ _ _ _) (by intro u hu; simp only [List.mem_cons, List.not_mem_nil, or_false] at hu; rcases hu with rfl | rfl | rfl | rfl | rfl | rfl | rfl | rfl <;> rfl) (by unfold maxLen; have := hlen.out; omega) (by have := hlen.out; omega) (by show _ ≤ _; simp; exact Nat.le_trans HD8.out.below.size (Nat.le_succ _)) ?_))
        intro v' w9 hown9 hgrow9 hnil9
        obtain ⟨a9, c9, rfl, -, -⟩ := row_sl hown9
        obtain ⟨U1, hU1, ⟨m0, m1⟩, HU⟩ := (HD8.out.next ((Below.refl _ _).alloc (Nat.le_refl _) (.cells #[.int .i64 x.kind, .int .i64 x.tx, .int .i64 x.thread, .int .i64 x.obj, .int .i64 x.op, .int .i64 x.key, .int .i64 x.val, .int .i64 x.ret] 34))).put (e := x) hgrow9 hown9
        clear hown9 hgrow9 hnil9
        go_wp2_with fail
        go_roundw
        case rel => exact ⟨k + 1, _, by omega, by go_num, by show OnAt _ _ _ _ _ _ _ _; rw [HE.out]; exact HU.out⟩
        case measure => simp [intOf]; omega
    · have hkm : k = m := by omega
      have HE : Hid ((es.take k).filter (fun e => p e.tx) = es.filter fun e => p e.tx) := by show _ = _; rw [hkm, List.take_of_length_le (by have := Hm.out; omega)]
      rw [HE.out] at HD
      obtain ⟨a2, c2, rfl, -, -⟩ := row_sl HD.out.row
      obtain ⟨F1, F2, hF1, hF2, ⟨⟨f0, e0⟩, ⟨f1, e1⟩⟩, HF, HE2, HC, HO⟩ := box_put2x (w := w) (.slice a1 n c1) (.slice a2 (es.filter fun e => p e.tx).length c2) (keepB' HD.out.below Hw1.out.1 Hy.out) Hw1.out.2
      clear HE
      go_wp2_with fail
      refine bodyPost_ret (results_row1 rfl _ _ W1.heap.size 25 _ (0, 0) _ rfl HF.out Tryd.underlying25 rfl (by kernel_rfl)) rfl ?_
      refine ⟨_, _, rfl, ?_, ?_, (stepB HB.out HD.out.below).trans HE2.out⟩
      · exact row_base (HO.out _ _ _ _ _ _ Hw1.out.1 HD.out.row1) Hws.out
      · exact row_base (HO.out _ _ _ _ _ _ Hw1.out.1 HD.out.row) Hws.out

set_option maxRecDepth 100000 in
theorem less29 (q q2 : Nat) (x a b : Int) (w : World) (hq : w.heap[q]? = some (.cells #[.int .i64 a] 3)) (hq2 : w.heap[q2]? = some (.cells #[.int .i64 b] 3)) : Calls Tryd.prog 29 #[.int .i64 x, .pointer (some ⟨q, 0, none⟩), .pointer (some ⟨q2, 0, none⟩)] w fun e w' => e = .returned (.bool (!(x == a) && !(x == b))) ∧ Hid (Below w.heap.size w w') := by
  have h0 : w.cell? ⟨q, 0, none⟩ = some (.int .i64 a) := (cell_of_row _ _ 0 _ _ _ hq).trans rfl
  have h1 : w.cell? ⟨q2, 0, none⟩ = some (.int .i64 b) := (cell_of_row _ _ 0 _ _ _ hq2).trans rfl
  clear hq hq2
  cases ha : (x == a)
  · have ha2 : (x != a) = true := by simp [bne, ha]
    cases hb : (x == b)
    · have hb2 : (x != b) = true := by simp [bne, hb]
      go_enter Tryd.func29, Tryd.ntmps29
      go_wp2
      go_ret
      exact ⟨rfl, Below.refl _ _⟩
    · have hb2 : (x != b) = false := by simp [bne, hb]
      go_enter Tryd.func29, Tryd.ntmps29
      go_wp2
      go_ret
      exact ⟨rfl, Below.refl _ _⟩
  · have ha2 : (x != a) = false := by simp [bne, ha]
    go_enter Tryd.func29, Tryd.ntmps29
    go_wp2
    go_ret
    exact ⟨rfl, Below.refl _ _⟩
set_option maxRecDepth 100000 in
theorem less30 (q : Nat) (x a : Int) (w : World) (hq : w.heap[q]? = some (.cells #[.int .i64 a] 3)) : Calls Tryd.prog 30 #[.int .i64 x, .pointer (some ⟨q, 0, none⟩)] w fun e w' => e = .returned (.bool (x == a)) ∧ Hid (Below w.heap.size w w') := by
  have h0 : w.cell? ⟨q, 0, none⟩ = some (.int .i64 a) := (cell_of_row _ _ 0 _ _ _ hq).trans rfl
  clear hq
  go_enter Tryd.func30, Tryd.ntmps30
  go_wp2
  go_ret
  exact ⟨rfl, Below.refl _ _⟩
set_option maxRecDepth 100000 in
theorem less31 (q : Nat) (x a : Int) (w : World) (hq : w.heap[q]? = some (.cells #[.int .i64 a] 3)) : Calls Tryd.prog 31 #[.int .i64 x, .pointer (some ⟨q, 0, none⟩)] w fun e w' => e = .returned (.bool (x == a)) ∧ Hid (Below w.heap.size w w') := by
  have h0 : w.cell? ⟨q, 0, none⟩ = some (.int .i64 a) := (cell_of_row _ _ 0 _ _ _ hq).trans rfl
  clear hq
  go_enter Tryd.func31, Tryd.ntmps31
  go_wp2
  go_ret
  exact ⟨rfl, Below.refl _ _⟩
set_option maxRecDepth 100000 in
theorem own33 (x : Int) (w : World) : Calls Tryd.prog 33 #[.int .i64 x] w fun e w' => e = .returned (.bool true) ∧ Hid (Below w.heap.size w w') := by
  go_enter Tryd.func33, Tryd.ntmps33
  go_wp2
  go_ret
  exact ⟨rfl, Below.refl _ _⟩
/-- Is a history small enough? -/
def smallB (n m : Nat) : Bool := decide (n ≤ 100) && decide (m ≤ 600)
set_option maxRecDepth 100000 in
theorem small_any (a b : Option Addr) (n c m d : Nat) (w : World) : Calls Tryd.prog 9 #[hv a n c b m d] w fun e w' => e = .returned (.bool (smallB n m)) ∧ Hid (Below w.heap.size w w') := by
  obtain ⟨W, hW, Hb, hs, Hx⟩ := cells_new w #[.slice a n c, .slice b m d] 25
  obtain ⟨x0, x1⟩ := row_two Hx.out
  clear Hx hs
  obtain ⟨R, hR⟩ : ∃ R, smallB n m = R := ⟨_, rfl⟩
  rw [hR]
  unfold smallB at hR
  have HR := Lib.hid hR
  clear hR
  by_cases hn : n ≤ 100
  · have hnI : (n : Int) ≤ 100 := by omega
    by_cases hm : m ≤ 600
    · have hmI : (m : Int) ≤ 600 := by omega
      have HF : Hid (R = true) := by show _ = _; rw [← HR.out, decide_eq_true hn, decide_eq_true hm]; rfl
      clear hn hm
      go_enter Tryd.func9, Tryd.ntmps9
      go_wp2_with fail
      go_ret
      exact ⟨by rw [HF.out]; rfl, Hb.out⟩
    · have hmI : ¬ (m : Int) ≤ 600 := by omega
      have hmI2 : (600 : Int) < (m : Int) := by omega
      have HF : Hid (R = false) := by show _ = _; rw [← HR.out, decide_eq_true hn, decide_eq_false hm]; rfl
      clear hn hm
      go_enter Tryd.func9, Tryd.ntmps9
      go_wp2_with fail
      go_ret
      exact ⟨by rw [HF.out]; rfl, Hb.out⟩
  · have hnI : ¬ (n : Int) ≤ 100 := by omega
    have hnI2 : (100 : Int) < (n : Int) := by omega
    have HF : Hid (R = false) := by show _ = _; rw [← HR.out, decide_eq_false hn]; rfl
    clear hn
    go_enter Tryd.func9, Tryd.ntmps9
    go_wp2_with fail
    go_ret
    exact ⟨by rw [HF.out]; rfl, Hb.out⟩

/-- What Sub answers; what SameHistory answers. -/
def subB (os os' : List (Int × Int)) (es es' : List Ev) (m : Nat) : Bool := decide (os = os') && decide (subN es es' = m)
def sameB (os os' : List (Int × Int)) (es es' : List Ev) : Bool := decide (os = os') && decide (es = es')
theorem subB_of {os : List (Int × Int)} {es es' : List Ev} {m : Nat} {R : Bool} (h : decide (subN es es' = m) = R) : subB os os es es' m = R := by
  unfold subB
  rw [decide_eq_true (rfl : os = os), h]
  rfl
theorem sameB_of {os : List (Int × Int)} {es es' : List Ev} (h : es = es') : sameB os os es es' = true := by
  unfold sameB
  rw [decide_eq_true (rfl : os = os), decide_eq_true h]
  rfl
/-- A history that lies there. -/
structure InH (V : World) (a : Option Addr) (n c : Nat) (b : Option Addr) (m d : Nat) (os : List (Int × Int)) (es : List Ev) : Prop where
  hn : os.length = n
  hm : es.length = m
  hc : n ≤ c
  hd : m ≤ d
  so : SlAt V a (obs os)
  se : SlAt V b (evs es)
  few : n ≤ 100000 ∧ m ≤ 100000
theorem InH.below {V W : World} {a b : Option Addr} {n c m d : Nat} {os : List (Int × Int)} {es : List Ev} (h : InH V a n c b m d os es) (hb : Below V.heap.size V W) : InH W a n c b m d os es :=
  ⟨h.hn, h.hm, h.hc, h.hd, h.so.below hb, h.se.below hb, h.few⟩
/-- A history that is answered. -/
def OutH (V : World) (n m : Nat) (os : List (Int × Int)) (es : List Ev) (e : Ending) (w' : World) : Prop := ∃ a c b d, e = .returned (.agg #[.slice a n c, .slice b m d]) ∧ Hid (InH w' a n c b m d os es ∧ Below V.heap.size V w')
theorem outH {V w' : World} {B n m : Nat} {v1 v2 : Value} {os : List (Int × Int)} {es : List Ev} {e : Ending} (hn : os.length = n) (hm : es.length = m) (hf : n ≤ 100000 ∧ m ≤ 100000) (he : e = .returned (.agg #[v1, v2])) (h1 : w'.ownsRow B 31 2 v1 n (obs os)) (h2 : w'.ownsRow B 34 8 v2 m (evs es)) (hb : Below V.heap.size V w') : OutH V n m os es e w' := by
  obtain ⟨a, c, rfl, s1, l1⟩ := row_sl h1
  obtain ⟨b, d, rfl, s2, l2⟩ := row_sl h2
  exact ⟨a, c, b, d, he, ⟨hn, hm, l1, l2, s1, s2, hf⟩, hb⟩
/-- A history that is answered beside no error. -/
def OutE (V : World) (n m : Nat) (os : List (Int × Int)) (es : List Ev) (e : Ending) (w' : World) : Prop := ∃ a c b d, e = .returned (.tuple #[.agg #[.slice a n c, .slice b m d], .nilIface]) ∧ Hid (InH w' a n c b m d os es ∧ Below V.heap.size V w')
theorem outE {V w' : World} {B n m : Nat} {v1 v2 : Value} {os : List (Int × Int)} {es : List Ev} {e : Ending} (hn : os.length = n) (hm : es.length = m) (hf : n ≤ 100000 ∧ m ≤ 100000) (he : e = .returned (.tuple #[.agg #[v1, v2], .nilIface])) (h1 : w'.ownsRow B 31 2 v1 n (obs os)) (h2 : w'.ownsRow B 34 8 v2 m (evs es)) (hb : Below V.heap.size V w') : OutE V n m os es e w' := by
  obtain ⟨a, c, rfl, s1, l1⟩ := row_sl h1
  obtain ⟨b, d, rfl, s2, l2⟩ := row_sl h2
  exact ⟨a, c, b, d, he, ⟨hn, hm, l1, l2, s1, s2, hf⟩, hb⟩
/-- An error, beside no history. -/
def OutX (V : World) (e : Ending) (w' : World) : Prop := ∃ t p, e = .returned (.tuple #[.agg #[.slice none 0 0, .slice none 0 0], .iface t (.pointer (some p))]) ∧ Hid (Below V.heap.size V w')
section
variable {V : World} {a b : Option Addr} {n c m d : Nat} {os : List (Int × Int)} {es : List Ev} (h : InH V a n c b m d os es)
include h
theorem prefix_h (z : Int) {es' : List Ev} {m' : Nat} (he : es.take (preN z m) = es') (hm' : es'.length = m') : Calls Tryd.prog 13 #[hv a n c b m d, .int .i64 z] V (OutH V n m' os es') := by
  refine (prefix_any a b n c m d z (obs os) (evs es) (by rw [obs_len, h.hn]) (by rw [evs_len, h.hm]) (obs_one _) (evs_one _) h.few h.hd V h.so h.se).mono ?_
  rintro e w' ⟨v1, v2, h1, H⟩
  have hl : preN z m = m' := by rw [← hm', ← he, List.length_take, h.hm]; have := preN_le z m; omega
  rw [← evs_take, he, hl] at H
  exact outH h.hn hm' ⟨h.few.1, by have := preN_le z m; have := h.few.2; omega⟩ h1 H.out.1 H.out.2.1 H.out.2.2
theorem rprefix_h (z : Int) {es' : List Ev} {m' : Nat} (he : es.take (preN z m) = es') (hm' : es'.length = m') : Calls Tryd.prog 14 #[hv a n c b m d, .int .i64 z] V (OutH V n m' os es') := by
  refine (rprefix_any a b n c m d z (obs os) (evs es) (by rw [obs_len, h.hn]) (by rw [evs_len, h.hm]) (obs_one _) (evs_one _) h.few h.hd V h.so h.se).mono ?_
  rintro e w' ⟨v1, v2, h1, H⟩
  have hl : preN z m = m' := by rw [← hm', ← he, List.length_take, h.hm]; have := preN_le z m; omega
  rw [← evs_take, he, hl] at H
  exact outH h.hn hm' ⟨h.few.1, by have := preN_le z m; have := h.few.2; omega⟩ h1 H.out.1 H.out.2.1 H.out.2.2
theorem filter_few (p : Ev → Bool) {es' : List Ev} {m' : Nat} (he : es.filter p = es') (hm' : es'.length = m') : n ≤ 100000 ∧ m' ≤ 100000 := by
  have := List.length_filter_le p es
  rw [he, hm', h.hm] at this
  exact ⟨h.few.1, by have := h.few.2; omega⟩
theorem without_h (tx : Int) {es' : List Ev} {m' : Nat} (he : (es.filter fun e => !(e.tx == tx)) = es') (hm' : es'.length = m') : Calls Tryd.prog 15 #[hv a n c b m d, .int .i64 tx] V (OutH V n m' os es') := by
  refine (without_any a b n c m d tx (obs os) es (by rw [obs_len, h.hn]) h.hm (obs_one _) h.few V h.so (EvsAt.of h.se h.hm)).mono ?_
  rintro e w' ⟨v1, v2, h1, H⟩
  rw [he, hm'] at H
  exact outH h.hn hm' (filter_few h _ he hm') h1 H.out.1 H.out.2.1 H.out.2.2
theorem rwithout_h (tx : Int) {es' : List Ev} {m' : Nat} (he : (es.filter fun e => !(e.tx == tx)) = es') (hm' : es'.length = m') : Calls Tryd.prog 16 #[hv a n c b m d, .int .i64 tx] V (OutH V n m' os es') := by
  refine (rwithout_any a b n c m d tx (obs os) es (by rw [obs_len, h.hn]) h.hm (obs_one _) h.few V h.so (EvsAt.of h.se h.hm)).mono ?_
  rintro e w' ⟨v1, v2, h1, H⟩
  rw [he, hm'] at H
  exact outH h.hn hm' (filter_few h _ he hm') h1 H.out.1 H.out.2.1 H.out.2.2
theorem keep_h {ta : Option Addr} {tn tc : Nat} {some : List Int} (kp : Bool) (ht : IsAt V ta some tn) (hl : some.length = tn) (h50 : tn ≤ 100000) {es' : List Ev} {m' : Nat} (he : (es.filter (keeps some kp)) = es') (hm' : es'.length = m') : Calls Tryd.prog 19 #[hv a n c b m d, .slice ta tn tc, .bool kp] V (OutH V n m' os es') := by
  refine (keep_any kp a b ta n c m d tn tc (obs os) es some (by rw [obs_len, h.hn]) h.hm hl (obs_one _) ⟨h.few.1, h.few.2, h50⟩ V h.so (EvsAt.of h.se h.hm) ht).mono ?_
  rintro e w' ⟨v1, v2, h1, H⟩
  rw [he, hm'] at H
  exact outH h.hn hm' (filter_few h _ he hm') h1 H.out.1 H.out.2.1 H.out.2.2
theorem only29_h {q q2 : Nat} {x y : Int} (hq : V.heap[q]? = some (.cells #[.int .i64 x] 3)) (hq2 : V.heap[q2]? = some (.cells #[.int .i64 y] 3)) {es' : List Ev} {m' : Nat} (he : (es.filter fun e => !(e.tx == x) && !(e.tx == y)) = es') (hm' : es'.length = m') : Calls Tryd.prog 17 #[hv a n c b m d, .func (.func 29) #[] #[.pointer (some ⟨q, 0, none⟩), .pointer (some ⟨q2, 0, none⟩)]] V (OutH V n m' os es') := by
  refine (only_29 q q2 (fun t => !(t == x) && !(t == y)) a b n c m d (obs os) es (by rw [obs_len, h.hn]) h.hm (obs_one _) h.few V h.so (EvsAt.of h.se h.hm) (fun U hU t => less29 q q2 t x y U (keepB hU hq) (keepB hU hq2))).mono ?_
  rintro e w' ⟨v1, v2, h1, H⟩
  rw [he, hm'] at H
  exact outH h.hn hm' (filter_few h _ he hm') h1 H.out.1 H.out.2.1 H.out.2.2
theorem only30_h {q : Nat} {x : Int} (hq : V.heap[q]? = some (.cells #[.int .i64 x] 3)) {es' : List Ev} {m' : Nat} (he : (es.filter fun e => e.tx == x) = es') (hm' : es'.length = m') : Calls Tryd.prog 17 #[hv a n c b m d, .func (.func 30) #[] #[.pointer (some ⟨q, 0, none⟩)]] V (OutH V n m' os es') := by
  refine (only_30 q (fun t => t == x) a b n c m d (obs os) es (by rw [obs_len, h.hn]) h.hm (obs_one _) h.few V h.so (EvsAt.of h.se h.hm) (fun U hU t => less30 q t x U (keepB hU hq))).mono ?_
  rintro e w' ⟨v1, v2, h1, H⟩
  rw [he, hm'] at H
  exact outH h.hn hm' (filter_few h _ he hm') h1 H.out.1 H.out.2.1 H.out.2.2
theorem only31_h {q : Nat} {x : Int} (hq : V.heap[q]? = some (.cells #[.int .i64 x] 3)) {es' : List Ev} {m' : Nat} (he : (es.filter fun e => e.tx == x) = es') (hm' : es'.length = m') : Calls Tryd.prog 17 #[hv a n c b m d, .func (.func 31) #[] #[.pointer (some ⟨q, 0, none⟩)]] V (OutH V n m' os es') := by
  refine (only_31 q (fun t => t == x) a b n c m d (obs os) es (by rw [obs_len, h.hn]) h.hm (obs_one _) h.few V h.so (EvsAt.of h.se h.hm) (fun U hU t => less31 q t x U (keepB hU hq))).mono ?_
  rintro e w' ⟨v1, v2, h1, H⟩
  rw [he, hm'] at H
  exact outH h.hn hm' (filter_few h _ he hm') h1 H.out.1 H.out.2.1 H.out.2.2
/-- Drop, where it answers a history. -/
theorem drop_h (tx k : Int) (hG : Glob T er V) : (∃ p q, Calls Tryd.prog 25 #[hv a n c b m d, .int .i64 tx, .int .i64 k] V (OutE V n (skipZ p q es 0).length os (skipZ p q es 0))) ∨ Calls Tryd.prog 25 #[hv a n c b m d, .int .i64 tx, .int .i64 k] V (OutX V) := by
  have key : ∀ r, dropZ os es tx k = r → (n ≤ 64 ∧ m ≤ 400 ∨ r = .shape) → Calls Tryd.prog 25 #[hv a n c b m d, .int .i64 tx, .int .i64 k] V (DropIs T er n (obs os) r V) := by
    intro r hr h64
    rcases h64 with h64 | h64
    · rw [← hr]
      exact drop_any a b n c m d tx k os es h.hn h.hm V h.so (EvsAt.of h.se h.hm) hG h64
    · subst h64
      have hz : tabZ os es = none := by
        unfold dropZ at hr
        cases hz : tabZ os es with
        | none => rfl
        | some s =>
          rw [hz] at hr
          simp only [] at hr
          split at hr
          · cases hr
          · split at hr
            · cases hr
            · split at hr <;> cases hr
      exact drop_shape a b n c m d tx k os es h.hn h.hm V h.so (EvsAt.of h.se h.hm) hG hz
  have h64 : n ≤ 64 ∧ m ≤ 400 ∨ dropZ os es tx k = .shape := by
    cases hz : tabZ os es with
    | none => exact .inr (by unfold dropZ; rw [hz])
    | some s =>
      have := hisOk_len (tabZ_his hz)
      rw [h.hn, h.hm] at this
      exact .inl (by omega)
  have hc := key _ rfl h64
  cases hr : dropZ os es tx k with
  | shape =>
    rw [hr] at hc
    exact .inr (hc.mono fun e w' ⟨t, p, h1, h2⟩ => ⟨t, p, h1, h2⟩)
  | tx =>
    rw [hr] at hc
    exact .inr (hc.mono fun e w' ⟨h1, h2⟩ => ⟨_, _, h1, h2⟩)
  | index =>
    rw [hr] at hc
    exact .inr (hc.mono fun e w' ⟨h1, h2⟩ => ⟨_, _, h1, h2⟩)
  | out l =>
    rw [hr] at hc
    have hl : ∃ p q, l = skipZ p q es 0 := by
      unfold dropZ at hr
      split at hr
      · cases hr
      · split at hr
        · cases hr
        · simp only [] at hr
          split at hr
          · cases hr
          · split at hr
            · cases hr
            · injection hr with hr
              exact ⟨_, _, hr.symm⟩
    obtain ⟨p, q, rfl⟩ := hl
    refine .inl ⟨p, q, hc.mono ?_⟩
    rintro e w' ⟨v1, v2, h1, H⟩
    exact outE h.hn rfl ⟨h.few.1, by have := skipZ_len p q es 0; have := h.hm; have := h.few.2; omega⟩ h1 H.out.1 H.out.2.1 H.out.2.2
section
variable {a' b' : Option Addr} {n' c' m' d' : Nat} {os' : List (Int × Int)} {es' : List Ev} (h' : InH V a' n' c' b' m' d' os' es')
include h'
theorem sub_h {R : Bool} (hR : subB os os' es es' m = R) : Calls Tryd.prog 21 #[hv a n c b m d, hv a' n' c' b' m' d'] V fun e w' => e = .returned (.bool R) ∧ Hid (Below V.heap.size V w') := by
  rw [← hR]
  exact sub_any a a' b b' c c' d d' n n' m m' os os' es es' h.hn h'.hn h.hm h'.hm h.hd ⟨h.few.1, h'.few.1, h.few.2, h'.few.2⟩ V (ObAt.of h.so h.hn) (ObAt.of h'.so h'.hn) (EvsAt.of h.se h.hm) (EvsAt.of h'.se h'.hm)
theorem rsub_h {R : Bool} (hR : subB os os' es es' m = R) : Calls Tryd.prog 22 #[hv a n c b m d, hv a' n' c' b' m' d'] V fun e w' => e = .returned (.bool R) ∧ Hid (Below V.heap.size V w') := by
  rw [← hR]
  exact rsub_any a a' b b' c c' d d' n n' m m' os os' es es' h.hn h'.hn h.hm h'.hm ⟨h.few.1, h'.few.1, h.few.2, h'.few.2⟩ V (ObAt.of h.so h.hn) (ObAt.of h'.so h'.hn) (EvsAt.of h.se h.hm) (EvsAt.of h'.se h'.hm)
theorem same_h {R : Bool} (hR : sameB os os' es es' = R) : Calls Tryd.prog 12 #[hv a n c b m d, hv a' n' c' b' m' d'] V fun e w' => e = .returned (.bool R) ∧ Hid (Below V.heap.size V w') := by
  rw [← hR]
  exact rhis_same a a' b b' c c' d d' n n' m m' os os' es es' h.hn h'.hn h.hm h'.hm ⟨h.few.1, h'.few.1, h.few.2, h'.few.2⟩ V (ObAt.of h.so h.hn) (ObAt.of h'.so h'.hn) (EvsAt.of h.se h.hm) (EvsAt.of h'.se h'.hm)
end
end
/-- What is left out leaves a Sub. -/
theorem subFold_sub : ∀ (es l : List Ev) (a : List Ev) (k : Nat), l = a.drop k → l.Sublist es → es.foldl (subStep a) k = a.length ∨ a.length < k
  | [], l, a, k, hl, h => by
    have := List.sublist_nil.1 h
    subst this
    have hd : a.length ≤ k := List.drop_eq_nil_iff.1 hl.symm
    rw [List.foldl_nil]
    omega
  | e :: es, l, a, k, hl, h => by
    rw [List.foldl_cons]
    by_cases hk : k < a.length
    · have hd : l = a[k] :: a.drop (k + 1) := by rw [hl]; exact List.drop_eq_getElem_cons hk
      unfold subStep
      by_cases he : a[k]? = some e
      · rw [if_pos he]
        have hx : a[k] = e := by rw [List.getElem?_eq_getElem hk] at he; exact Option.some.inj he
        rw [hx] at hd
        rw [hd] at h
        have h2 : (a.drop (k + 1)).Sublist es := by
          cases h with
          | cons _ h => exact List.Sublist.trans (List.sublist_cons_self _ _) h
          | cons_cons _ h => exact h
        exact subFold_sub es _ a (k + 1) rfl h2 |>.imp id (fun h => by omega)
      · rw [if_neg he]
        have h2 : l.Sublist es := by
          rw [hd] at h
          cases h with
          | cons _ h => rw [hd]; exact h
          | cons_cons _ h => exact absurd (List.getElem?_eq_getElem hk) he
        exact subFold_sub es l a k hl h2
    · have hs : subStep a k e = k := by
        unfold subStep
        rw [if_neg]
        rw [List.getElem?_eq_none (by omega)]
        simp
      rw [hs]
      have hn : l = [] := by rw [hl]; exact List.drop_of_length_le (by omega)
      exact subFold_sub es l a k hl (by rw [hn]; exact List.nil_sublist _)
theorem subN_sub {a es : List Ev} (h : a.Sublist es) : subN a es = a.length := (subFold_sub es a a 0 (by simp) h).resolve_right (by omega)
theorem sub_subFold {a : List Ev} : ∀ (es : List Ev) (k : Nat), k ≤ a.length → es.foldl (subStep a) k = a.length → (a.drop k).Sublist es
  | [], k, hk, h => by
    rw [List.foldl_nil] at h
    rw [h]
    simp
  | e :: es, k, hk, h => by
    rw [List.foldl_cons] at h
    have ih := sub_subFold es _ (subStep_le e hk) h
    by_cases he : a[k]? = some e
    · have hs : subStep a k e = k + 1 := by unfold subStep; rw [if_pos he]
      rw [hs] at ih
      obtain ⟨hl, hx⟩ := List.getElem?_eq_some_iff.1 he
      rw [List.drop_eq_getElem_cons hl, hx]
      exact ih.cons_cons e
    · have hs : subStep a k e = k := by unfold subStep; rw [if_neg he]
      rw [hs] at ih
      exact ih.cons e
theorem sub_subN {a es : List Ev} (h : subN a es = a.length) : a.Sublist es := by
  have := sub_subFold es 0 (Nat.zero_le _) h
  simpa using this
theorem skipZ_sub (p q : Int) : ∀ (es : List Ev) (i : Nat), (skipZ p q es i).Sublist es
  | [], _ => by simp [skipZ]
  | e :: es, i => by
    have ih := skipZ_sub p q es (i + 1)
    unfold skipZ
    split
    · exact ih.cons e
    · exact ih.cons_cons e
end Go.Proofs.YtfjjhjojcgacbaaDoor

/- Drop, Spare and copies, in one form; plain facts for the statement on less. -/
namespace Go.Proofs.YtfjjhjojcgacbaaDoor
open Go.RowKit Go.Maps Go.WideMaps Go.WideElems Go.ChangeShapes Go.WideShapes
variable {T : TypeId} {er : Nat → Addr}

theorem dropZ_out {os : List (Int × Int)} {es l : List Ev} {tx k : Int} (hr : dropZ os es tx k = .out l) : ∃ p q, l = skipZ p q es 0 := by
  unfold dropZ at hr
  split at hr
  · cases hr
  · split at hr
    · cases hr
    · simp only [] at hr
      split at hr
      · cases hr
      · split at hr
        · cases hr
        · injection hr with hr
          exact ⟨_, _, hr.symm⟩
section
variable {V : World} {a b : Option Addr} {n c m d : Nat} {os : List (Int × Int)} {es : List Ev} (h : InH V a n c b m d os es)
include h
theorem dropC_h (tx k : Int) (hG : Glob T er V) : Calls Tryd.prog 25 #[hv a n c b m d, .int .i64 tx, .int .i64 k] V (DropIs T er n (obs os) (dropZ os es tx k) V) := by
  cases hz : tabZ os es with
  | none =>
    have : dropZ os es tx k = .shape := by unfold dropZ; rw [hz]
    rw [this]
    exact drop_shape a b n c m d tx k os es h.hn h.hm V h.so (EvsAt.of h.se h.hm) hG hz
  | some s =>
    have := hisOk_len (tabZ_his hz)
    rw [h.hn, h.hm] at this
    exact drop_any a b n c m d tx k os es h.hn h.hm V h.so (EvsAt.of h.se h.hm) hG (by omega)
theorem dropOut_h (tx k : Int) (hG : Glob T er V) {l : List Ev} {m' : Nat} (hr : dropZ os es tx k = .out l) (hm' : l.length = m') : Calls Tryd.prog 25 #[hv a n c b m d, .int .i64 tx, .int .i64 k] V (OutE V n m' os l) := by
  have hc := dropC_h h tx k hG
  rw [hr] at hc
  obtain ⟨p, q, hl⟩ := dropZ_out hr
  refine hc.mono ?_
  rintro e w' ⟨v1, v2, h1, H⟩
  rw [hm'] at H
  have hlen : m' ≤ 100000 := by have := skipZ_len p q es 0; rw [← hl, hm', h.hm] at this; have := h.few.2; omega
  exact outE h.hn hm' ⟨h.few.1, hlen⟩ h1 H.out.1 H.out.2.1 H.out.2.2
theorem dropErr_h (tx k : Int) (hG : Glob T er V) (hr : ∀ l, dropZ os es tx k ≠ .out l) : Calls Tryd.prog 25 #[hv a n c b m d, .int .i64 tx, .int .i64 k] V (OutX V) := by
  have hc := dropC_h h tx k hG
  cases hz : dropZ os es tx k with
  | shape => rw [hz] at hc; exact hc.mono fun e w' ⟨t, p, h1, h2⟩ => ⟨t, p, h1, h2⟩
  | tx => rw [hz] at hc; exact hc.mono fun e w' ⟨h1, h2⟩ => ⟨_, _, h1, h2⟩
  | index => rw [hz] at hc; exact hc.mono fun e w' ⟨h1, h2⟩ => ⟨_, _, h1, h2⟩
  | out l => exact absurd hz (hr l)
/-- Spare answers a history, or an error. -/
theorem spareOut_h (hG : Glob T er V) {s : St} (hr : tabZ os es = some s) {os' : List (Int × Int)} {n' : Nat} (ho : os.take (namedZ es) = os') (hn' : os'.length = n') : Calls Tryd.prog 27 #[hv a n c b m d] V (OutE V n' m os' es) := by
  have hc := spare_any a b n c m d os es h.hn h.hm V h.so h.se hG h.hc
  rw [hr] at hc
  have hle : namedZ es ≤ n := named_le es 0 (Nat.zero_le _) (by rw [← h.hn]; exact hisOk_obj (tabZ_his hr))
  have hl : namedZ es = n' := by rw [← hn', ← ho, List.length_take, h.hn]; omega
  refine hc.mono ?_
  rintro e w' ⟨v1, v2, h1, H⟩
  rw [ho, hl, h.hm] at H
  exact outE hn' h.hm ⟨by have := h.few.1; omega, h.few.2⟩ h1 H.out.1 H.out.2.1 H.out.2.2
theorem spareErr_h (hG : Glob T er V) (hr : tabZ os es = none) : Calls Tryd.prog 27 #[hv a n c b m d] V (OutX V) := by
  have hc := spare_any a b n c m d os es h.hn h.hm V h.so h.se hG h.hc
  rw [hr] at hc
  exact hc.mono fun e w' ⟨t, p, h1, h2⟩ => ⟨t, p, h1, h2⟩
theorem copy_h : Calls Tryd.prog 32 #[hv a n c b m d] V (OutH V n m os es) := by
  refine (rhis a b n c m d (obs os) (evs es) (by rw [obs_len, h.hn]) (by rw [evs_len, h.hm]) (obs_one _) (evs_one _) h.few V h.so h.se).mono ?_
  rintro e w' ⟨v1, v2, h1, H⟩
  exact outH h.hn h.hm h.few h1 H.out.1 H.out.2.1 H.out.2.2
theorem clone_h : Calls Tryd.prog 37 #[hv a n c b m d] V (OutH V n m os es) := by
  refine (clone_his a b n c m d (obs os) (evs es) (by rw [obs_len, h.hn]) (by rw [evs_len, h.hm]) (obs_one _) (evs_one _) h.few V h.so h.se).mono ?_
  rintro e w' ⟨v1, v2, h1, H⟩
  exact outH h.hn h.hm h.few h1 H.out.1 H.out.2.1 H.out.2.2
theorem only33_h : Calls Tryd.prog 17 #[hv a n c b m d, .func (.func 33) #[] #[]] V (OutH V n m os es) := by
  have he : (es.filter fun e => (fun _ => true) e.tx) = es := by simp
  refine (only_33 (fun _ => true) a b n c m d (obs os) es (by rw [obs_len, h.hn]) h.hm (obs_one _) h.few V h.so (EvsAt.of h.se h.hm) (fun U _ t => own33 t U)).mono ?_
  rintro e w' ⟨v1, v2, h1, H⟩
  rw [he, h.hm] at H
  exact outH h.hn h.hm h.few h1 H.out.1 H.out.2.1 H.out.2.2
theorem inEv {k : Nat} (hk : k < m) : ∃ bb o e, b = some ⟨bb, o, none⟩ ∧ es[k]? = some e ∧ ∀ U, Below V.heap.size V U → U.cell? ⟨bb, o + k * 8 + 1, none⟩ = some (.int .i64 e.tx) := by
  obtain ⟨bb, o, e, h1, h2, h3⟩ := EvsAt.of h.se h.hm k hk
  exact ⟨bb, o, e, h1, h2, fun U hU => (h3 U hU).2.1⟩
end
/-- A box that holds a history. -/
structure BoxH (V0 : World) (Q : Nat) (a : Option Addr) (n c : Nat) (b : Option Addr) (m d : Nat) (os : List (Int × Int)) (es : List Ev) (V : World) : Prop where
  below : Below V0.heap.size V0 V
  box : V.heap[Q]? = some (.cells #[.slice a n c, .slice b m d] 25)
  inn : InH V a n c b m d os es
theorem SlAt.put2 {V F1 F2 : World} {a : Option Addr} {xs : List Value} {q : Nat} {p r : Value} (hx : ∀ u ∈ xs, ∃ k z, u = .int k z) (h : SlAt V a xs) (hq : V.heap[q]? = some (.cells #[.slice none 0 0, .slice none 0 0] 25)) (h1 : V.setCell ⟨q, 0, none⟩ p = F1) (h2 : F1.setCell ⟨q, 1, none⟩ r = F2) : SlAt F2 a xs := by
  subst h1 h2
  rcases h with h | ⟨b, off, rfl, hl, hc⟩
  · exact .inl h
  · have hne : ∀ (j : Nat) (u : Value), xs[j]? = some u → b ≠ q := by
      rintro j u hj rfl
      have h3 := hc j u hj
      rw [cell_of_row _ b (off + j) _ 25 _ hq] at h3
      obtain ⟨k, z, rfl⟩ := hx u (List.mem_of_getElem? hj)
      obtain ⟨i, hi⟩ : ∃ i, off + j = i := ⟨_, rfl⟩
      rw [hi] at h3
      rcases i with _ | _ | i <;> simp at h3
    refine .inr ⟨b, off, rfl, fun e => by simpa using hl e, fun j v hj => ?_⟩
    exact cellS (hne j v hj) (cellS (hne j v hj) (hc j v hj))
theorem obs_ints (os : List (Int × Int)) : ∀ u ∈ obs os, ∃ k z, u = .int k z := by
  intro u hu; simp [obs] at hu; rcases hu with ⟨a, b, _, rfl | rfl⟩ <;> exact ⟨_, _, rfl⟩
theorem evs_ints (es : List Ev) : ∀ u ∈ evs es, ∃ k z, u = .int k z := by
  intro u hu; simp [evs, Ev.row] at hu; rcases hu with ⟨e, _, rfl | rfl | rfl | rfl | rfl | rfl | rfl | rfl⟩ <;> exact ⟨_, _, rfl⟩
theorem InH.put2 {V F1 F2 : World} {a b : Option Addr} {n c m d : Nat} {os : List (Int × Int)} {es : List Ev} {q : Nat} {p r : Value} (h : InH V a n c b m d os es) (hq : V.heap[q]? = some (.cells #[.slice none 0 0, .slice none 0 0] 25)) (h1 : V.setCell ⟨q, 0, none⟩ p = F1) (h2 : F1.setCell ⟨q, 1, none⟩ r = F2) : InH F2 a n c b m d os es :=
  ⟨h.hn, h.hm, h.hc, h.hd, h.so.put2 (obs_ints os) hq h1 h2, h.se.put2 (evs_ints es) hq h1 h2, h.few⟩
theorem filter_take (p : Ev → Bool) (l : List Ev) (N : Nat) : (l.filter p).take ((l.take N).filter p).length = (l.take N).filter p := by
  have h : l.filter p = (l.take N).filter p ++ (l.drop N).filter p := by rw [← List.filter_append, List.take_append_drop]
  conv => lhs; arg 2; rw [h]
  rw [List.take_left']
  rfl
theorem preN_of {z : Nat} {m : Nat} (h : z ≤ m) : preN (z : Int) m = z := by unfold preN; omega
theorem cnt_next (x : Int) {l : List Ev} {k : Nat} {e : Ev} (h : l[k]? = some e) : ((l.take (k + 1)).filter fun e => e.tx == x).length = ((l.take k).filter fun e => e.tx == x).length + (if e.tx = x then 1 else 0) := by
  rw [filter_next (fun e : Ev => e.tx == x) h, List.length_append]
  by_cases hx : e.tx = x
  · rw [if_pos hx, if_pos (beq_yes hx)]; rfl
  · rw [if_neg hx, if_neg (by simp [hx])]; rfl
theorem row_uno {W : World} {B : Nat} {x : Value} {t : TypeId} (h : W.heap[B]? = some (.cells #[x] t)) : W.cell? ⟨B, 0, none⟩ = some x := by simp [World.cell?, h]
end Go.Proofs.YtfjjhjojcgacbaaDoor

/- What the listed variables give a walk: each error lies in its cell, a pointer; the tables lie whole; a world that meets the list. -/
namespace Go.Proofs.YtfjjhjojcgacbaaDoor
open Go.ChangeShapes Go.WideShapes Go.ChangeAt Go.RowKit

theorem own : ownKnob Tryd.prog.godebug = none := by kernel_rfl
theorem laidOut : laidOutB Tryd.prog = true := by kernel_rfl
theorem cellsE : Tryd.prog.cellsOf 143 = 1 := by kernel_rfl
theorem cells9 : Tryd.prog.cellsOf 9 = 1 := by kernel_rfl
theorem star : "*" ++ "errors.errorString" = "*errors.errorString" := by decide
theorem rowE (u : TypeId) (h : Tryd.prog.typeName? 3 u = some "*errors.errorString") : u = 126 :=
  typeName_ptr_named (nm := "errors.errorString") (by rw [star]; kernel_rfl) (by kernel_rfl) (by decide) u (by rw [star]; exact h)

set_option maxRecDepth 100000 in
theorem err_of_one {W : World} {name : String} {g : Nat} {text : List UInt8} (hg : Tryd.prog.globalNamed name = some g) (hty : (Tryd.prog.globals[g]?).map (·.type) = some 48)
    (h : laidMet Tryd.prog [(name, .iface "*errors.errorString" (.ptr (.agg [.lit (.string text)])))] W) : ∃ ea : Addr, W.cell? ⟨g, 0, none⟩ = some (.iface 126 (.pointer (some ea))) := by
  obtain ⟨ps, ⟨g0, t0, cs0, f0, p0, q0, hg0, ht0, hv0, hd0, hq0, e0⟩, hnd, hrows⟩ := h
  obtain rfl := Option.some.inj (hg.symm.trans hg0)
  obtain rfl := Option.some.inj (hty.symm.trans ht0)
  have hq0' : q0 = [] := hq0
  subst hq0'
  subst e0
  obtain ⟨l0⟩ := cs0
  have ok0 : ∀ u v, l0 = [.iface u v] → Value.okWide Tryd.prog W .any 0 u v := fun u v e => by
    subst e
    exact (hrows g 0 (by simp [MemPlace.row])).2 u v (by simpa using World.var?_cell hg hv0 0)
  obtain ⟨a0, s0, rfl, hc0, hs0, hz0, rfl⟩ := errorString_of_trod Tryd.underlying48 rowE Tryd.underlying126 Tryd.underlying143 rfl rfl Tryd.underlying9 cellsE cells9 hd0 ok0
  exact ⟨a0, by simpa using World.var?_cell hg hv0 0⟩

theorem one_of_list {L : List (String × DataW Unit)} {W : World} (hH : laidMetH Tryd.prog L W) (name : String) {one : List (String × DataW Unit)} (h1 : (L.filter fun x => x.1 == name) = one) (h2 : (one.all fun x => x.2.handleName?.isNone) = true) : laidMet Tryd.prog one W := by
  have h := hH.filter (fun x => x.1 == name)
  rw [h1, MakeChecks.laidMetH_plain Tryd.prog one W h2] at h
  exact h

/-- An array's parts, read. -/
theorem trod_arr {H : Type} {enc : TypeId × Value → H} {P : Program} {w : World} {base : Nat} {sp : Nat → Bool} {held : Bool} {fuel : Nat} {t e : TypeId} {n m : Nat} {cs : List Value} {ds : List (DataW H)} {p : List MemPlace}
    (ht : P.underlying t = some (.array n e)) (hm : P.cellsOf e = m) (h : DataW.trod enc P w base sp held fuel t cs = some (.agg ds, p)) :
    ∃ f, ∀ i, i < n → ∃ y, DataW.trod enc P w base sp held f e ((cs.drop (i * m)).take m) = some y ∧ ds[i]? = some y.1 := by
  cases fuel with
  | zero => simp [DataW.trod] at h
  | succ fuel =>
    simp only [DataW.trod, ht, hm] at h
    split at h
    · obtain ⟨xs, hx, he⟩ := Option.map_eq_some_iff.1 h
      refine ⟨fuel, fun i hi => ?_⟩
      obtain ⟨b, hb, hf⟩ := Lib.mapM_at hx i i (by simp [hi])
      refine ⟨b, hf, ?_⟩
      have := congrArg Prod.fst he
      have e2 : xs.map (·.1) = ds := by simpa using this
      rw [← e2]; simp [hb]
    · cases h

theorem take_one_at {cs : List Value} {i j m : Nat} {v : Value} (hj : j < m) (h : (((cs.drop i).take m).drop j).take 1 = [v]) : cs[i + j]? = some v := by
  have := congrArg (·[0]?) h
  simp only [List.getElem?_take, List.getElem?_drop] at this
  simpa [hj] using this

/-- The tables of words, as they are listed. -/
def wordsData {H : Type} : DataW H := .agg ((List.range 7).map fun a => .agg ((List.range 10).map fun b => .lit (.string (wflat.getD (a * 10 + b) []))))
theorem words_cells {H : Type} {enc : TypeId × Value → H} {W : World} {base : Nat} {sp : Nat → Bool} {held : Bool} {fuel : Nat} {cs : List Value} {p : List MemPlace}
    (h : DataW.trod enc Tryd.prog W base sp held fuel 115 cs = some (wordsData, p)) : ∀ i, i < 70 → cs[i]? = some (.string ⟨(wflat.getD i []).toArray⟩) := by
  obtain ⟨f, h1⟩ := trod_arr (n := 7) (e := 114) (m := 10) Tryd.underlying115 (by kernel_rfl) h
  intro i hi
  obtain ⟨a, b, ha, hb, rfl⟩ : ∃ a b, a < 7 ∧ b < 10 ∧ i = a * 10 + b := ⟨i / 10, i % 10, by omega, by omega, by omega⟩
  obtain ⟨y, hy, hd⟩ := h1 a ha
  have e1 : y.1 = .agg ((List.range 10).map fun b => .lit (.string (wflat.getD (a * 10 + b) []))) := by
    simp [ha] at hd
    exact hd.symm
  obtain ⟨y1, y2⟩ := y
  cases e1
  obtain ⟨f2, h2⟩ := trod_arr (n := 10) (e := 9) (m := 1) Tryd.underlying114 (by kernel_rfl) hy
  obtain ⟨z, hz, hd2⟩ := h2 b hb
  obtain ⟨s, hs, rfl, _⟩ := DataW.trod_string Tryd.underlying9 hz
  have e2 : s.data.toList = wflat.getD (a * 10 + b) [] := by
    simp [hb] at hd2
    exact hd2.symm
  rw [Nat.mul_one] at hs
  rw [take_one_at hb hs, ← e2, Array.toArray_toList]

/-- The bounds of the fields, as they are listed. -/
def boundsData {H : Type} : DataW H := .agg ((List.range 7).map fun a => .agg [.lit (.int .i64 (bndL.getD (2 * a) 0)), .lit (.int .i64 (bndL.getD (2 * a + 1) 0))])
theorem bounds_cells {H : Type} {enc : TypeId × Value → H} {W : World} {base : Nat} {sp : Nat → Bool} {held : Bool} {fuel : Nat} {cs : List Value} {p : List MemPlace}
    (h : DataW.trod enc Tryd.prog W base sp held fuel 117 cs = some (boundsData, p)) : ∀ i, i < 14 → cs[i]? = some (.int .i64 (bndL.getD i 0)) := by
  obtain ⟨f, h1⟩ := trod_arr (n := 7) (e := 116) (m := 2) Tryd.underlying117 (by kernel_rfl) h
  intro i hi
  obtain ⟨a, b, ha, hb, rfl⟩ : ∃ a b, a < 7 ∧ b < 2 ∧ i = a * 2 + b := ⟨i / 2, i % 2, by omega, by omega, by omega⟩
  obtain ⟨y, hy, hd⟩ := h1 a ha
  have e1 : y.1 = .agg [.lit (.int .i64 (bndL.getD (2 * a) 0)), .lit (.int .i64 (bndL.getD (2 * a + 1) 0))] := by
    simp [ha] at hd
    exact hd.symm
  obtain ⟨y1, y2⟩ := y
  cases e1
  obtain ⟨xs, n, _, hx, _, hxl, hxs⟩ := DataW.trod_struct Tryd.underlying116 hy
  have hx1 := congrArg Prod.fst hx
  have c3 : Tryd.prog.cellsOf 3 = 1 := by kernel_rfl
  have q : ∀ j, j < 2 → DataW.trod enc Tryd.prog W base sp held n 3 (((((cs.drop (a * 2)).take 2)).drop j).take 1) = xs[j]? := by
    intro j hj
    rcases (show j = 0 ∨ j = 1 by omega) with rfl | rfl
    · have : DataW.trod enc Tryd.prog W base sp held n 3 (((((cs.drop (a * 2)).take 2)).drop 0).take (Tryd.prog.cellsOf 3)) = xs[0]? := hxs 0 _ rfl
      rw [c3] at this; exact this
    · have : DataW.trod enc Tryd.prog W base sp held n 3 (((((cs.drop (a * 2)).take 2)).drop 1).take (Tryd.prog.cellsOf 3)) = xs[1]? := hxs 1 _ rfl
      rw [c3] at this; exact this
  have hq := q b hb
  have hm : xs.map (·.1) = [DataW.lit (.int .i64 (bndL.getD (2 * a) 0)), .lit (.int .i64 (bndL.getD (2 * a + 1) 0))] := by
    have := hx1
    simp only [DataW.agg.injEq] at this
    exact this.symm
  have hmb : (xs.map (·.1))[b]? = some (.lit (.int .i64 (bndL.getD (a * 2 + b) 0))) := by
    rw [hm]
    rcases (show b = 0 ∨ b = 1 by omega) with rfl | rfl
    · simp [Nat.mul_comm]
    · simp [Nat.mul_comm]
  rw [List.getElem?_map, Option.map_eq_some_iff] at hmb
  obtain ⟨z, hz1, hz2⟩ := hmb
  rw [hz1] at hq
  obtain ⟨k, hk1, rfl, _⟩ := DataW.trod_int Tryd.underlying3 hq
  rw [take_one_at hb hk1]
  simp only [DataW.lit.injEq, Lit.int.injEq, true_and] at hz2
  rw [hz2]

theorem var_lt {P : Program} {w : World} {n : String} {g : Nat} {cs : Array Value} (hg : P.globalNamed n = some g) (h : w.var? P n = some cs) : g < w.heap.size := by
  simp only [World.var?, hg, Option.bind_some] at h
  by_cases hl : g < w.heap.size
  · exact hl
  · have : w.heap[g]? = none := Array.getElem?_eq_none (by omega)
    rw [this] at h
    cases h

/-- What the list gives. -/
theorem glob_of_list {L : List (String × DataW Unit)} {W : World} (hH : laidMetH Tryd.prog L W)
    (l0 : (L.filter fun x => x.1 == "umpire/api.ErrTx") = [("umpire/api.ErrTx", Rows.laid_umpire_api_ErrTx)])
    (l1 : (L.filter fun x => x.1 == "umpire/api.ErrIndex") = [("umpire/api.ErrIndex", Rows.laid_umpire_api_ErrIndex)])
    (l2 : (L.filter fun x => x.1 == "umpire/api.ErrMany") = [("umpire/api.ErrMany", Rows.laid_umpire_api_ErrMany)])
    (l7 : (L.filter fun x => x.1 == "umpire/api.ErrObject") = [("umpire/api.ErrObject", Rows.laid_umpire_api_ErrObject)])
    (l4 : (L.filter fun x => x.1 == "umpire/api.ErrOp") = [("umpire/api.ErrOp", Rows.laid_umpire_api_ErrOp)])
    (l3 : (L.filter fun x => x.1 == "umpire/api.ErrCode") = [("umpire/api.ErrCode", Rows.laid_umpire_api_ErrCode)])
    (l6 : (L.filter fun x => x.1 == "umpire/api.ErrEvent") = [("umpire/api.ErrEvent", Rows.laid_umpire_api_ErrEvent)])
    (l8 : (L.filter fun x => x.1 == "umpire/api.ErrTwice") = [("umpire/api.ErrTwice", Rows.laid_umpire_api_ErrTwice)])
    (l9 : (L.filter fun x => x.1 == "umpire/api.ErrThread") = [("umpire/api.ErrThread", Rows.laid_umpire_api_ErrThread)])
    (l10 : (L.filter fun x => x.1 == "umpire/api.ErrOrder") = [("umpire/api.ErrOrder", Rows.laid_umpire_api_ErrOrder)])
    (l11 : (L.filter fun x => x.1 == "umpire/api.ErrAnswer") = [("umpire/api.ErrAnswer", Rows.laid_umpire_api_ErrAnswer)])
    (lw : (L.filter fun x => x.1 == "umpire/event.words") = [("umpire/event.words", wordsData)])
    (lb : (L.filter fun x => x.1 == "umpire/event.bounds") = [("umpire/event.bounds", boundsData)]) :
    ∃ er, Glob 126 er W := by
  obtain ⟨e0, h0⟩ := err_of_one (g := 0) (by kernel_rfl) (by kernel_rfl) (one_of_list hH _ l0 (by kernel_rfl))
  obtain ⟨e1, h1⟩ := err_of_one (g := 1) (by kernel_rfl) (by kernel_rfl) (one_of_list hH _ l1 (by kernel_rfl))
  obtain ⟨e2, h2⟩ := err_of_one (g := 2) (by kernel_rfl) (by kernel_rfl) (one_of_list hH _ l2 (by kernel_rfl))
  obtain ⟨e7, h7⟩ := err_of_one (g := 3) (by kernel_rfl) (by kernel_rfl) (one_of_list hH _ l7 (by kernel_rfl))
  obtain ⟨e4, h4⟩ := err_of_one (g := 4) (by kernel_rfl) (by kernel_rfl) (one_of_list hH _ l4 (by kernel_rfl))
  obtain ⟨e3, h3⟩ := err_of_one (g := 5) (by kernel_rfl) (by kernel_rfl) (one_of_list hH _ l3 (by kernel_rfl))
  obtain ⟨e6, h6⟩ := err_of_one (g := 6) (by kernel_rfl) (by kernel_rfl) (one_of_list hH _ l6 (by kernel_rfl))
  obtain ⟨e8, h8⟩ := err_of_one (g := 9) (by kernel_rfl) (by kernel_rfl) (one_of_list hH _ l8 (by kernel_rfl))
  obtain ⟨e9, h9⟩ := err_of_one (g := 10) (by kernel_rfl) (by kernel_rfl) (one_of_list hH _ l9 (by kernel_rfl))
  obtain ⟨e10, h10⟩ := err_of_one (g := 11) (by kernel_rfl) (by kernel_rfl) (one_of_list hH _ l10 (by kernel_rfl))
  obtain ⟨e11, h11⟩ := err_of_one (g := 12) (by kernel_rfl) (by kernel_rfl) (one_of_list hH _ l11 (by kernel_rfl))
  have hwords : WordsAt W := by
    obtain ⟨ps, ⟨g0, t0, cs0, f0, p0, q0, hg0, ht0, hv0, hd0, hq0, _⟩, _, _⟩ := one_of_list hH _ lw (by kernel_rfl)
    obtain rfl := Option.some.inj ((show Tryd.prog.globalNamed "umpire/event.words" = some 7 by kernel_rfl).symm.trans hg0)
    obtain rfl := Option.some.inj ((show (Tryd.prog.globals[7]?).map (·.type) = some 115 by kernel_rfl).symm.trans ht0)
    intro i hi
    rw [World.var?_cell hg0 hv0 i]
    have := words_cells hd0 i hi
    simpa using this
  have hbounds : BoundsAt W := by
    obtain ⟨ps, ⟨g0, t0, cs0, f0, p0, q0, hg0, ht0, hv0, hd0, hq0, _⟩, _, _⟩ := one_of_list hH _ lb (by kernel_rfl)
    obtain rfl := Option.some.inj ((show Tryd.prog.globalNamed "umpire/event.bounds" = some 8 by kernel_rfl).symm.trans hg0)
    obtain rfl := Option.some.inj ((show (Tryd.prog.globals[8]?).map (·.type) = some 117 by kernel_rfl).symm.trans ht0)
    intro i hi
    rw [World.var?_cell hg0 hv0 i]
    have := bounds_cells hd0 i hi
    simpa using this
  have hsz : 13 ≤ W.heap.size := by
    obtain ⟨ps, ⟨g0, t0, cs0, f0, p0, q0, hg0, ht0, hv0, hd0, hq0, _⟩, _, _⟩ := one_of_list hH _ l11 (by kernel_rfl)
    obtain rfl := Option.some.inj ((show Tryd.prog.globalNamed "umpire/api.ErrAnswer" = some 12 by kernel_rfl).symm.trans hg0)
    exact var_lt hg0 hv0
  exact ⟨fun | 0 => e0 | 1 => e1 | 2 => e2 | 7 => e7 | 4 => e4 | 3 => e3 | 6 => e6 | 8 => e8 | 9 => e9 | 10 => e10 | _ => e11, ⟨hsz, h0, h1, h2, h7, h4, h3, h6, h8, h9, h10, h11, hwords, hbounds⟩⟩

/-- The cells that a plain datum takes. -/
def flat1 : DataW Unit → List Value
  | .lit (.int k n) => [.int k n]
  | .lit (.string s) => [.string ⟨s.toArray⟩]
  | _ => []
def flat2 : DataW Unit → List Value
  | .agg ps => ps.flatMap fun x => match x with
    | .agg qs => qs.flatMap flat1
    | y => flat1 y
  | _ => []
def errText : DataW Unit → ByteArray
  | .iface _ (.ptr (.agg [.lit (.string s)])) => ⟨s.toArray⟩
  | _ => ⟨#[]⟩
noncomputable def low : Nat := (World.holding Tryd.prog default ⟨#[], #[], []⟩).heap.size
def filled (vs : Array Value) : Obj → Obj
  | .cells _ t fr => .cells vs t fr
  | o => o
noncomputable def laidWorld (os : Os) : World :=
  let w0 := World.holding Tryd.prog os ⟨#[.cells #[.string (errText Rows.laid_umpire_api_ErrTx)] 143, .cells #[.string (errText Rows.laid_umpire_api_ErrIndex)] 143, .cells #[.string (errText Rows.laid_umpire_api_ErrMany)] 143, .cells #[.string (errText Rows.laid_umpire_api_ErrObject)] 143, .cells #[.string (errText Rows.laid_umpire_api_ErrOp)] 143, .cells #[.string (errText Rows.laid_umpire_api_ErrCode)] 143, .cells #[.string (errText Rows.laid_umpire_api_ErrEvent)] 143, .cells #[.string (errText Rows.laid_umpire_api_ErrTwice)] 143, .cells #[.string (errText Rows.laid_umpire_api_ErrThread)] 143, .cells #[.string (errText Rows.laid_umpire_api_ErrOrder)] 143, .cells #[.string (errText Rows.laid_umpire_api_ErrAnswer)] 143], #[], []⟩
  let e := fun (h : Array Obj) (g k : Nat) => h.modify g (filled #[.iface 126 (.pointer (some ⟨low + k, 0, none⟩))])
  let t := fun (h : Array Obj) (g : Nat) (d : DataW Unit) => h.modify g (filled (flat2 d).toArray)
  { w0 with heap := t (t (e (e (e (e (e (e (e (e (e (e (e w0.heap 0 0) 1 1) 2 2) 3 3) 4 4) 5 5) 6 6) 9 7) 10 8) 11 9) 12 10) 7 Rows.laid_umpire_event_words) 8 Rows.laid_umpire_event_bounds }

theorem laid_met (os : Os) (args : Array Value) : laidMet Tryd.prog Rows.cutLessRow.laid ((laidWorld os).forCall (fun _ _ => 0) ⟨#[], args, []⟩).memory :=
  laidMet_of_run' 8 (by kernel_rfl) (by kernel_rfl)
end Go.Proofs.YtfjjhjojcgacbaaDoor

/- How the arguments of the statements lie in memory. -/
namespace Go.Proofs.YtfjjhjojcgacbaaDoor
open Go.ChangeShapes Go.WideShapes Go.ChangeAt Go.RowKit Go.Deep

theorem cells3 : Tryd.prog.cellsOf 3 = 1 := by kernel_rfl


theorem cell_spot {w : World} {a : Addr} {v : Value} (h : w.cell? a = some v) : a = ⟨a.block, a.off, none⟩ := by
  obtain ⟨b, o, s⟩ := a
  cases s with
  | none => rfl
  | some _ => simp [World.cell?] at h; split at h <;> simp_all


theorem add_flat (b o n : Nat) : (⟨b, o, none⟩ : Addr).add n = ⟨b, o + n, none⟩ := by
  unfold Addr.add
  split
  · rename_i h; subst h; rfl
  · rfl


/-- The number in a cell. -/
def cellNum (W : World) (a : Addr) : Int := match W.cell? a with
  | some (.int _ z) => z
  | _ => 0

/-- Rows of whole numbers that came in: a slice of structs whose fields are whole numbers. -/
theorem structs_inc {H : Type} {enc : TypeId × Value → H} {P : Program} {W : World} {t e : TypeId} {fs : Array Field} {C : Nat} (ht : P.underlying t = some (.slice e)) (he : P.underlying e = some (.struct fs)) (hone : oneCellFields P fs = true) (hC : P.cellsOf e = fs.size) (hz : fs.size = C) (hpos : 0 < C)
    (hint : ∀ (i : Nat) (f : Field), fs[i]? = some f → P.underlying f.type = some (.int .i64)) {a : Option Addr} {n c : Nat} {d : DataW H} {p : List MemPlace} (h : DataW.Trod enc P W 0 (fun _ => true) true t (.slice a n c) d p) (hn : n ≠ 0) :
    ∃ b off, a = some ⟨b, off, none⟩ ∧ b < W.heap.size ∧ n ≤ c ∧ c ≤ maxLen ∧ ∀ i, i < n → ∀ j, j < C → ∃ z, W.cell? ⟨b, off + i * C + j, none⟩ = some (.int .i64 z) ∧ (Lit.int .i64 z).wf = true := by
  obtain ⟨fuel, hf⟩ := h
  rcases open_slice ht hf with ⟨e0, _⟩ | ⟨a', len, cap, m, k, D, Pl, e0, _, hl, hm, hmm, _, hx⟩
  · simp [Value.cells] at e0; omega
  have e' : Value.slice a n c = Value.slice (some a') len cap := by simpa [Value.cells] using e0
  cases e'
  have hmc : m = c := by simpa using hmm
  have each : ∀ i, i < n → ∀ j, j < C → ∃ z, W.cell? ((a'.add (i * C)).add j) = some (.int .i64 z) ∧ (Lit.int .i64 z).wf = true := fun i hi j hj => by
    obtain ⟨cs', h1, h2⟩ := hx i (by omega)
    rw [hC, hz] at h1
    obtain ⟨_, hlen, hcell⟩ := World.cells?_some h1
    obtain ⟨xs, q, hk, hxy, _, hxl, hfi⟩ := DataW.trod_struct he h2
    have hjs : j < fs.size := by omega
    have hfj := hfi j fs[j] (Array.getElem?_eq_getElem hjs)
    obtain ⟨ho, hc1⟩ := hone_of hone j fs[j] (Array.getElem?_eq_getElem hjs)
    rw [ho, hc1] at hfj
    have hlt : j < xs.length := by omega
    rw [List.getElem?_eq_getElem hlt] at hfj
    obtain ⟨z, hz1, _, hz2⟩ := DataW.trod_int (hint j fs[j] (Array.getElem?_eq_getElem hjs)) hfj
    refine ⟨z, ?_, hz2⟩
    rw [hcell j (by omega)]
    have := congrArg (·[0]?) hz1
    simpa [List.getElem?_take, List.getElem?_drop] using this
  obtain ⟨z0, h0, _⟩ := each 0 (by omega) 0 hpos
  have h0' : W.cell? a' = some (.int .i64 z0) := by simpa [Addr.add] using h0
  have hsp := cell_spot h0'
  refine ⟨a'.block, a'.off, congrArg some hsp, World.block_lt_of_cell? W _ h0', hl, hm, fun i hi j hj => ?_⟩
  obtain ⟨z, h1, h2⟩ := each i hi j hj
  refine ⟨z, ?_, h2⟩
  rw [hsp, add_flat, add_flat] at h1
  exact h1

theorem flat_at {α : Type} (f : α → List Value) (C : Nat) (hC : 0 < C) (hf : ∀ x, (f x).length = C) : ∀ (l : List α) (j : Nat), (l.flatMap f)[j]? = (l[j / C]?).bind fun x => (f x)[j % C]?
  | [], j => by simp
  | x :: l, j => by
    rw [List.flatMap_cons]
    by_cases h : j < C
    · rw [List.getElem?_append_left (by rw [hf]; exact h), Nat.div_eq_of_lt h, Nat.mod_eq_of_lt h]; rfl
    · rw [List.getElem?_append_right (by rw [hf]; omega), hf, flat_at f C hC hf l (j - C)]
      have e1 : j / C = (j - C) / C + 1 := Nat.div_eq_sub_div hC (by omega)
      have e2 : (j - C) % C = j % C := (Nat.mod_eq_sub_mod (by omega)).symm
      rw [e1, e2]; rfl

theorem fits_wf {z : Int} (h : (Lit.int .i64 z).wf = true) : fits64 z := by
  have h1 : IntKind.i64.min ≤ z ∧ z ≤ IntKind.i64.max := by simpa [Lit.wf] using h
  exact h1

/-- Rows of C whole numbers that came in, as a list. -/
theorem rows_list {α : Type} (f : α → List Value) (C : Nat) (hC : 0 < C) (mk : (Nat → Int) → α) (hmk : ∀ g : Nat → Int, f (mk g) = (List.range C).map fun j => .int .i64 (g j)) (hf : ∀ x, (f x).length = C)
    {W : World} {b off n : Nat} (hb : b < W.heap.size) (h : ∀ i, i < n → ∀ j, j < C → ∃ z, W.cell? ⟨b, off + i * C + j, none⟩ = some (.int .i64 z) ∧ (Lit.int .i64 z).wf = true) :
    ∃ l : List α, l.length = n ∧ SlAt W (some ⟨b, off, none⟩) (l.flatMap f) ∧ ∀ x ∈ l, ∃ g : Nat → Int, x = mk g ∧ ∀ j, j < C → fits64 (g j) := by
  refine ⟨(List.range n).map fun i => mk fun j => cellNum W ⟨b, off + i * C + j, none⟩, by simp, .inr ⟨b, off, rfl, fun _ => hb, fun j u hj => ?_⟩, fun x hx => ?_⟩
  · rw [flat_at f C hC hf] at hj
    rw [List.getElem?_map] at hj
    by_cases hi : j / C < n
    · rw [List.getElem?_range hi] at hj
      simp only [Option.map_some, Option.bind_some] at hj
      rw [hmk, List.getElem?_map, List.getElem?_range (Nat.mod_lt j hC)] at hj
      simp only [Option.map_some, Option.some.injEq] at hj
      obtain ⟨z, hz, _⟩ := h (j / C) hi (j % C) (Nat.mod_lt j hC)
      have e : off + j / C * C + j % C = off + j := by
        have := Nat.div_add_mod j C
        rw [Nat.mul_comm] at this
        omega
      rw [e] at hz hj
      rw [← hj]
      unfold cellNum
      rw [hz]
    · rw [List.getElem?_eq_none (by simpa using hi)] at hj
      simp at hj
  · obtain ⟨i, hi, rfl⟩ := List.mem_map.1 hx
    refine ⟨_, rfl, fun j hj => ?_⟩
    obtain ⟨z, hz, hw⟩ := h i (List.mem_range.1 hi) j hj
    unfold cellNum
    rw [hz]
    exact fits_wf hw

theorem slAt_nil {W : World} {a : Option Addr} {c : Nat} (h : (a = none ∧ (0 : Nat) = 0 ∧ c = 0) ∨ ∃ b off, a = some ⟨b, off, none⟩) : SlAt W a [] := by
  rcases h with ⟨h, _⟩ | ⟨b, off, h⟩
  · exact .inl ⟨h, rfl⟩
  · exact .inr ⟨b, off, h, fun e => absurd rfl e, fun j u hj => by simp at hj⟩

/-- A slice in a cell that came in has an address without a way in, or is nil. -/
theorem cell_slice {P : Program} {W : World} {base : Nat} {t e : TypeId} {a : Option Addr} {n c : Nat} (ht : P.underlying t = some (.slice e)) (h' : Cell.okWide P W .any base t (.slice a n c)) : (a = none ∧ n = 0 ∧ c = 0) ∨ ∃ b off, a = some ⟨b, off, none⟩ := by
  unfold Cell.okWide at h'
  rw [ht] at h'
  have h' : Cell.ok P W .any base t (.slice a n c) := h'
  unfold Cell.ok at h'
  rw [ht] at h'
  cases a with
  | none =>
    rcases n with _ | n <;> rcases c with _ | c
    · exact .inl ⟨rfl, rfl, rfl⟩
    all_goals exact h'.elim
  | some a =>
    obtain ⟨_, _, hh⟩ := h'
    refine .inr ⟨a.block, a.off, ?_⟩
    obtain ⟨b, o, s⟩ := a
    have : s = none := hh.2.1
    rw [this]
theorem slice_len {H : Type} {enc : TypeId × Value → H} {P : Program} {W : World} {t e : TypeId} {fuel : Nat} {v : Value} {x : DataW H × List MemPlace} (ht : P.underlying t = some (.slice e)) (h : DataW.trod enc P W 0 (fun _ => true) true fuel t [v] = some x) : ∃ a n c, v = .slice a n c ∧ n ≤ c := by
  rcases open_slice ht h with ⟨e0, _⟩ | ⟨a', len, cap, m, k, D, Pl, e0, _, hl, hm, hmm, _, hx⟩
  · exact ⟨none, 0, 0, by simpa using e0, Nat.le_refl _⟩
  · exact ⟨_, len, cap, by simpa using e0, hl⟩
set_option maxRecDepth 100000 in
theorem obs_cell {H : Type} {enc : TypeId × Value → H} {W : World} {base : Nat} {fuel : Nat} {v : Value} {y : DataW H × List MemPlace} (hv : Cell.okWide Tryd.prog W .any base 22 v) (h : DataW.trod enc Tryd.prog W 0 (fun _ => true) true fuel 22 [v] = some y) :
    ∃ a n c, ∃ os : List (Int × Int), v = .slice a n c ∧ os.length = n ∧ n ≤ c ∧ SlAt W a (obs os) := by
  obtain ⟨a, n, c, rfl, hnc⟩ := slice_len Tryd.underlying22 h
  have hs := cell_slice Tryd.underlying22 hv
  by_cases hn : n = 0
  · subst hn
    exact ⟨a, 0, c, [], rfl, rfl, hnc, slAt_nil (hs.imp (fun h => ⟨h.1, rfl, h.2.2⟩) id)⟩
  · obtain ⟨b, off, rfl, hb, _, _, hx⟩ := structs_inc (C := 2) (d := y.1) (p := y.2) Tryd.underlying22 Tryd.underlying31 (by kernel_rfl) (by kernel_rfl) rfl (by decide) (by intro i f hf; rcases i with _ | _ | i <;> first | (cases hf; exact Tryd.underlying3) | (exact absurd hf (by simp))) ⟨fuel, h⟩ hn
    obtain ⟨l, hl, hsl, _⟩ := rows_list (fun o : Int × Int => [.int .i64 o.1, .int .i64 o.2]) 2 (by decide) (fun g => (g 0, g 1)) (fun g => rfl) (fun _ => rfl) hb hx
    exact ⟨_, n, c, l, rfl, hl, hnc, hsl⟩
set_option maxRecDepth 100000 in
theorem evs_cell {H : Type} {enc : TypeId × Value → H} {W : World} {base : Nat} {fuel : Nat} {v : Value} {y : DataW H × List MemPlace} (hv : Cell.okWide Tryd.prog W .any base 23 v) (h : DataW.trod enc Tryd.prog W 0 (fun _ => true) true fuel 23 [v] = some y) :
    ∃ a n c, ∃ es : List Ev, v = .slice a n c ∧ es.length = n ∧ n ≤ c ∧ SlAt W a (evs es) := by
  obtain ⟨a, n, c, rfl, hnc⟩ := slice_len Tryd.underlying23 h
  have hs := cell_slice Tryd.underlying23 hv
  by_cases hn : n = 0
  · subst hn
    exact ⟨a, 0, c, [], rfl, rfl, hnc, slAt_nil (hs.imp (fun h => ⟨h.1, rfl, h.2.2⟩) id)⟩
  · obtain ⟨b, off, rfl, hb, _, _, hx⟩ := structs_inc (C := 8) (d := y.1) (p := y.2) Tryd.underlying23 Tryd.underlying34 (by kernel_rfl) (by kernel_rfl) rfl (by decide) (by intro i f hf; rcases i with _ | _ | _ | _ | _ | _ | _ | _ | i <;> first | (cases hf; exact Tryd.underlying3) | (exact absurd hf (by simp))) ⟨fuel, h⟩ hn
    obtain ⟨l, hl, hsl, _⟩ := rows_list Ev.row 8 (by decide) (fun g => ⟨g 0, g 1, g 2, g 3, g 4, g 5, g 6, g 7⟩) (fun g => rfl) (fun _ => rfl) hb hx
    exact ⟨_, n, c, l, rfl, hl, hnc, hsl⟩
theorem types25 : Tryd.prog.cellTypes Tryd.prog.depth 25 = some [22, 23] := by kernel_rfl
set_option maxRecDepth 100000 in
/-- A history that came in. -/
theorem his_inc {H : Type} {enc : TypeId × Value → H} {W : World} {base : Nat} {v : Value} {d : DataW H} {p : List MemPlace} (hok : Value.okWide Tryd.prog W .any base 25 v) (h : DataW.Trod enc Tryd.prog W 0 (fun _ => true) true 25 v d p) :
    ∃ a n c b m q, ∃ (os : List (Int × Int)) (es : List Ev), v = hv a n c b m q ∧ (os.length = n ∧ es.length = m) ∧ (n ≤ c ∧ m ≤ q) ∧ SlAt W a (obs os) ∧ SlAt W b (evs es) := by
  have hv' := hok
  obtain ⟨v0, v1, y0, y1, n, rfl, _, _, h0, h1⟩ := Go.Joins.open_agg2 Tryd.underlying25 (by kernel_rfl) (by kernel_rfl) hok h
  unfold Value.okWide at hv'
  rw [Tryd.underlying25] at hv'
  obtain ⟨cs, e, hsz, ts, hts, _, hc⟩ := hv'
  rw [types25] at hts
  injection hts with hts
  subst hts
  injection e with e
  subst e
  obtain ⟨u0, e0, k0⟩ := hc 0 v0 rfl
  obtain ⟨u1, e1, k1⟩ := hc 1 v1 rfl
  have e0' : u0 = 22 := by simpa using e0.symm
  have e1' : u1 = 23 := by simpa using e1.symm
  subst e0' e1'
  obtain ⟨a, n, c, os, rfl, g1, g2, g3⟩ := obs_cell k0 h0
  obtain ⟨b, m, q, es, rfl, l1, l2, l3⟩ := evs_cell k1 h1
  exact ⟨a, n, c, b, m, q, os, es, rfl, ⟨g1, l1⟩, ⟨g2, l2⟩, g3, l3⟩
set_option maxRecDepth 100000 in
/-- Whole numbers that came in, as a row. -/
theorem ints_inc {H : Type} {enc : TypeId × Value → H} {W : World} {v : Value} {d : DataW H} {p : List MemPlace} (hs : ∃ a n c, v = .slice a n c) (h : DataW.Trod enc Tryd.prog W 0 (fun _ => true) true 26 v d p) :
    ∃ a n c, ∃ l : List Int, v = .slice a n c ∧ l.length = n ∧ n ≤ c ∧ IsAt W a l n := by
  obtain ⟨a, n, c, rfl⟩ := hs
  by_cases hn : n = 0
  · subst hn
    exact ⟨a, 0, c, [], rfl, rfl, Nat.zero_le _, fun k hk => absurd hk (Nat.not_lt_zero _)⟩
  obtain ⟨fuel, hf⟩ := h
  rcases open_ints Tryd.underlying26 Tryd.underlying3 cells3 hf with ⟨e, _⟩ | ⟨a', len, cap, zs, e, _, hl, hmx, hz, _, hcell, hwz⟩
  · simp [Value.cells] at e; omega
  have e' : Value.slice a n c = Value.slice (some a') len cap := by simpa [Value.cells] using e
  cases e'
  have hzl : zs.length = c := by simpa using hz
  clear hz
  have h0 := hcell 0 (by omega)
  have hsp := cell_spot (by simpa [Addr.add] using h0)
  refine ⟨some a', n, c, zs.take n, rfl, by rw [List.length_take]; omega, hl, fun k hk => ?_⟩
  have hkz : k < zs.length := by omega
  have h1 := hcell k (by omega)
  rw [hsp, add_flat] at h1
  have hb := World.block_lt_of_cell? W _ h1
  refine ⟨a'.block, a'.off, zs[k], congrArg some hsp, by rw [List.getElem?_take, if_pos hk, List.getElem?_eq_getElem hkz], fun V hV => ?_⟩
  refine (hV.cell (p := ⟨a'.block, a'.off + k, none⟩) hb).trans ?_
  rw [h1]
  simp [hkz]
end Go.Proofs.YtfjjhjojcgacbaaDoor

/- Five arguments. -/
namespace Go.Proofs.YtfjjhjojcgacbaaDoor
open Go.ChangeShapes Go.WideShapes Go.ChangeAt Go.RowKit Go.Deep
variable {H : Type} {enc : TypeId × Value → H} {P : Program} {w : World} {base : Nat} {spare : Nat → Bool} {held : Bool}

theorem trodAll_five {t t' t'' t3 t4 : TypeId} {args : Array Value} {ds : List (DataW H)} {ps : List MemPlace} (h : DataW.TrodAll enc P w base spare held [t, t', t'', t3, t4] args.toList ds ps) :
    ∃ v v' v'' v3 v4 d d' d'' d3 d4 p p' p'' p3 p4, args = #[v, v', v'', v3, v4] ∧ ds = [d, d', d'', d3, d4] ∧ ps = p ++ p' ++ p'' ++ p3 ++ p4 ∧ DataW.Trod enc P w base spare held t v d p ∧ DataW.Trod enc P w base spare held t' v' d' p' ∧ DataW.Trod enc P w base spare held t'' v'' d'' p'' ∧ DataW.Trod enc P w base spare held t3 v3 d3 p3 ∧ DataW.Trod enc P w base spare held t4 v4 d4 p4 := by
  obtain ⟨v, vs, d, ds', p, q, hargs, rfl, rfl, hd, hrest⟩ := trodAll_cons h
  obtain ⟨v', vs', d', ds'', p', q', rfl, rfl, rfl, hd', hrest'⟩ := trodAll_cons hrest
  obtain ⟨v'', vs'', d'', ds''', p'', q'', rfl, rfl, rfl, hd'', hrest''⟩ := trodAll_cons hrest'
  obtain ⟨v3, vs3, d3, ds3, p3, q3, rfl, rfl, rfl, hd3, hrest3⟩ := trodAll_cons hrest''
  obtain ⟨v4, vs4, d4, ds4, p4, q4, rfl, rfl, rfl, hd4, hrest4⟩ := trodAll_cons hrest3
  obtain ⟨rfl, rfl, rfl⟩ := trodAll_nil hrest4
  exact ⟨v, v', v'', v3, v4, d, d', d'', d3, d4, p, p', p'', p3, p4, by cases args; simp_all, rfl, by simp, hd, hd', hd'', hd3, hd4⟩
theorem trodAll_mk5 {t t' t'' t3 t4 : TypeId} {v v' v'' v3 v4 : Value} {d d' d'' d3 d4 : DataW H} {p p' p'' p3 p4 : List MemPlace} (h : DataW.Trod enc P w base spare held t v d p) (h' : DataW.Trod enc P w base spare held t' v' d' p')
    (h'' : DataW.Trod enc P w base spare held t'' v'' d'' p'') (h3 : DataW.Trod enc P w base spare held t3 v3 d3 p3) (h4 : DataW.Trod enc P w base spare held t4 v4 d4 p4) : DataW.TrodAll enc P w base spare held [t, t', t'', t3, t4] [v, v', v'', v3, v4] [d, d', d'', d3, d4] (p ++ (p' ++ (p'' ++ (p3 ++ p4)))) := ⟨p, p' ++ (p'' ++ (p3 ++ p4)), h, trodAll_mk4 h' h'' h3 h4, rfl⟩
end Go.Proofs.YtfjjhjojcgacbaaDoor
