/- The walk of the statement on new memory. -/
import Derived.Test.YtfjjhjojcgacbaaDoorOa
namespace Go.Proofs.YtfjjhjojcgacbaaDoor
open Go.RowKit Go.Maps Go.WideMaps Go.WideElems Go.ChangeShapes Go.WideShapes
variable {T : TypeId} {er : Nat → Addr}

set_option maxHeartbeats 16000000 in
set_option maxRecDepth 100000 in
theorem own_ok {a0 b0 : Option Addr} {n c0 m d0 : Nat} {os : List (Int × Int)} {es : List Ev} (z x : Int) (w : World) (hI : InH w a0 n c0 b0 m d0 os es) (hG : Glob 126 er w) (hsm : smallB n m = true) {s : St} (ht : tabZ os es = some s) : Calls Tryd.prog 7 #[hv a0 n c0 b0 m d0, .int .i64 z, .int .i64 x] w fun e w' => e = .returned (.bool true) ∧ Hid (Below w.heap.size w w') := by
  obtain ⟨i1, hi1, hy0, hy1, hy2⟩ := info_parts elem34
  obtain ⟨i2, hi2, hz0, hz1, hz2⟩ := info_parts elem31
  obtain ⟨W1, hW1, Hb1, hs1, Hx1⟩ := cells_new w #[.slice a0 n c0, .slice b0 m d0] 25
  have HI := Lib.hid (hI.below Hb1.out)
  have HG := Lib.hid (hG.below' Hb1.out)
  have hmE := hI.hm
  obtain ⟨ep, hep⟩ : ∃ l, es.take (preN z m) = l := ⟨_, rfl⟩
  obtain ⟨mp, hmp⟩ : ∃ r, preN z m = r := ⟨_, rfl⟩
  have hml : ep.length = mp := by rw [← hep, List.length_take, hmE, hmp]; have := preN_le z m; omega
  obtain ⟨mw, hmw⟩ : ∃ r, (es.filter fun e => !(e.tx == x)).length = r := ⟨_, rfl⟩
  have hf6 := hI.few
  have Hf : Hid ((n ≤ 100000 ∧ mp ≤ 100000) ∧ (n ≤ 100000 ∧ mw ≤ 100000) ∧ (n ≤ 100000 ∧ m ≤ 100000)) := by
    have h1 := preN_le z m
    have h2 := List.length_filter_le (fun e : Ev => !(e.tx == x)) es
    rw [hmw, hmE] at h2
    refine ⟨⟨hf6.1, by omega⟩, ⟨hf6.1, by omega⟩, hf6⟩
  have Hmp := Lib.hid hmp
  have Hml := Lib.hid hml
  have Hep := Lib.hid hep
  have Hmw := Lib.hid hmw
  have Htab := Lib.hid ht
  have hn6 : (n : Int) ≤ 100000 := by omega
  have hp6 : (mp : Int) ≤ 100000 := by (have := Hf.out; omega)
  have R9 : Hid (sameB os os ep ep = true) := sameB_of rfl
  have R8 : Hid (sameB os os es es = true) := sameB_of rfl
  obtain ⟨ns, hns⟩ : ∃ r, namedZ es = r := ⟨_, rfl⟩
  have Hns := Lib.hid hns
  have Hf2 : Hid (ns ≤ 100000 ∧ m ≤ 100000) := by
    have h1 : namedZ es ≤ n := named_le es 0 (Nat.zero_le _) (by rw [← hI.hn]; exact hisOk_obj (tabZ_his ht))
    exact ⟨by omega, hf6.2⟩
  clear hns
  have HS := Lib.hid (fun V => small_any a0 b0 n c0 m d0 V)
  rw [hsm] at HS
  clear hI hG hep hmp hml hmw ht hsm hmE hf6
  go_enter Tryd.func7, Tryd.ntmps7
  go_wp2_with (first
    | (go_at_call 8; (with_reducible refine (first_any W1 HG.out).mono ?_); rintro e w1 ⟨rfl, S1⟩
       obtain ⟨l1a, l1b⟩ := row_two (keepB S1.out Hx1.out))
    | (go_at_call 9; (with_reducible refine (HS.out w1).mono ?_); rintro e w2 ⟨rfl, S2⟩
       obtain ⟨l2a, l2b⟩ := row_two (keepB (stepB S1.out S2.out) Hx1.out))
    | (go_at_call 32; (with_reducible refine (copy_h (HI.out.below (stepB S1.out S2.out))).mono ?_); rintro e w3 ⟨aK, cK, bK, dK, rfl, KK⟩
       obtain ⟨W4, hW4, Hb4, hs4, Hx4⟩ := cells_new w3 #[.slice aK n cK, .slice bK m dK] 25))
  have HI4 := Lib.hid (HI.out.below (stepB (stepB (stepB S1.out S2.out) KK.out.2) Hb4.out))
  have HK4 := Lib.hid (KK.out.1.below Hb4.out)
  have HG4 := Lib.hid (HG.out.below' (stepB (stepB (stepB S1.out S2.out) KK.out.2) Hb4.out))
  have HH4 : Hid (W4.heap[w.heap.size]? = some (.cells #[.slice a0 n c0, .slice b0 m d0] 25)) := (keepB (stepB (stepB (stepB S1.out S2.out) KK.out.2) Hb4.out) Hx1.out)
  have HKB : Hid (W4.heap[w3.heap.size]? = some (.cells #[.slice aK n cK, .slice bK m dK] 25)) := Hx4.out
  have B4 : Hid (Below w.heap.size w W4) := stepB Hb1.out (stepB (stepB (stepB S1.out S2.out) KK.out.2) Hb4.out)
  go_loopw [9] (fun i wr => ∃ k : Nat, k ≤ 2 ∧ i = .int .i64 ((k : Nat) : Int) ∧ Hid (Below W4.heap.size W4 wr)) (fun i _ => 2 - (intOf i).toNat)
  case atStart => exact ⟨0, Nat.zero_le _, rfl, Below.refl _ _⟩
  case round =>
    obtain ⟨k, hk, rfl, HBr⟩ := hrel
    obtain rfl | rfl | rfl : k = 0 ∨ k = 1 ∨ k = 2 := by omega
    · clear hk
      obtain ⟨l0a, l0b⟩ := row_two (keepB HBr.out HH4.out)
      go_wp2_with (first
        | (go_at_call 13; (with_reducible refine (prefix_r (HI4.out.below HBr.out) z Hmp.out).mono ?_); rintro e w2 ⟨aA, cA, bA, dA, rfl, KA⟩
           obtain ⟨W3, hW3, Hb3, hs3, Hx3⟩ := cells_new w2 #[.slice aA n cA, .slice bA mp dA] 25
           obtain ⟨l2a, l2b⟩ := row_two (keepB (stepB (stepB HBr.out KA.out.2) Hb3.out) HH4.out))
        | (go_at_call 15; (with_reducible refine (without_r (HI4.out.below (stepB (stepB HBr.out KA.out.2) Hb3.out)) x Hmw.out).mono ?_); rintro e w4 ⟨aB, cB, bB, dB, rfl, KB⟩
           obtain ⟨W5, hW5, Hb5, hs5, Hx5⟩ := cells_new w4 #[.slice aB n cB, .slice bB mw dB] 25
           obtain ⟨l4a, l4b⟩ := row_two (keepB (stepB (stepB (stepB (stepB HBr.out KA.out.2) Hb3.out) KB.out.2) Hb5.out) HH4.out))
        | (go_at_call 17; (with_reducible refine (only33_r (HI4.out.below (stepB (stepB (stepB (stepB HBr.out KA.out.2) Hb3.out) KB.out.2) Hb5.out))).mono ?_); rintro e w6 ⟨aC, cC, bC, dC, rfl, KC⟩
           obtain ⟨W7, hW7, Hb7, hs7, Hx7⟩ := cells_new w6 #[.slice aC n cC, .slice bC m dC] 25
           obtain ⟨l6a, l6b⟩ := row_two (keepB (stepB (stepB (stepB (stepB (stepB (stepB HBr.out KA.out.2) Hb3.out) KB.out.2) Hb5.out) KC.out.2) Hb7.out) HH4.out))
        | (go_at_call 27; (with_reducible refine (spare_r (HI4.out.below (stepB (stepB (stepB (stepB (stepB (stepB HBr.out KA.out.2) Hb3.out) KB.out.2) Hb5.out) KC.out.2) Hb7.out)) (HG4.out.below' (stepB (stepB (stepB (stepB (stepB (stepB HBr.out KA.out.2) Hb3.out) KB.out.2) Hb5.out) KC.out.2) Hb7.out)) Htab.out Hns.out).mono ?_); rintro e w8 ⟨aD, cD, bD, dD, rfl, KD⟩
           obtain ⟨W9, hW9, Hb9, hs9, Hx9⟩ := cells_new w8 #[.slice aD ns cD, .slice bD m dD] 25
           have RA1 : Hid (RowW W4.heap.size 31 2 n (.slice aA n cA) W9) := (KA.out.1.1.wr (Wr.of (B := 0) (Nat.zero_le _) (stepB (stepB (stepB (stepB (stepB (stepB Hb3.out KB.out.2) Hb5.out) KC.out.2) Hb7.out) KD.out.2) Hb9.out))).base HBr.out.size
           have RA2 : Hid (RowW W4.heap.size 34 8 mp (.slice bA mp dA) W9) := (KA.out.1.2.wr (Wr.of (B := 0) (Nat.zero_le _) (stepB (stepB (stepB (stepB (stepB (stepB Hb3.out KB.out.2) Hb5.out) KC.out.2) Hb7.out) KD.out.2) Hb9.out))).base HBr.out.size
           have RB1 : Hid (RowW W4.heap.size 31 2 n (.slice aB n cB) W9) := (KB.out.1.1.wr (Wr.of (B := 0) (Nat.zero_le _) (stepB (stepB (stepB (stepB Hb5.out KC.out.2) Hb7.out) KD.out.2) Hb9.out))).base (stepB (stepB HBr.out KA.out.2) Hb3.out).size
           have RB2 : Hid (RowW W4.heap.size 34 8 mw (.slice bB mw dB) W9) := (KB.out.1.2.wr (Wr.of (B := 0) (Nat.zero_le _) (stepB (stepB (stepB (stepB Hb5.out KC.out.2) Hb7.out) KD.out.2) Hb9.out))).base (stepB (stepB HBr.out KA.out.2) Hb3.out).size
           have RC1 : Hid (RowW W4.heap.size 31 2 n (.slice aC n cC) W9) := (KC.out.1.1.wr (Wr.of (B := 0) (Nat.zero_le _) (stepB (stepB Hb7.out KD.out.2) Hb9.out))).base (stepB (stepB (stepB (stepB HBr.out KA.out.2) Hb3.out) KB.out.2) Hb5.out).size
           have RC2 : Hid (RowW W4.heap.size 34 8 m (.slice bC m dC) W9) := (KC.out.1.2.wr (Wr.of (B := 0) (Nat.zero_le _) (stepB (stepB Hb7.out KD.out.2) Hb9.out))).base (stepB (stepB (stepB (stepB HBr.out KA.out.2) Hb3.out) KB.out.2) Hb5.out).size
           have RD1 : Hid (RowW W4.heap.size 31 2 ns (.slice aD ns cD) W9) := (KD.out.1.1.wr (Wr.of (B := 0) (Nat.zero_le _) Hb9.out)).base (stepB (stepB (stepB (stepB (stepB (stepB HBr.out KA.out.2) Hb3.out) KB.out.2) Hb5.out) KC.out.2) Hb7.out).size
           have RD2 : Hid (RowW W4.heap.size 34 8 m (.slice bD m dD) W9) := (KD.out.1.2.wr (Wr.of (B := 0) (Nat.zero_le _) Hb9.out)).base (stepB (stepB (stepB (stepB (stepB (stepB HBr.out KA.out.2) Hb3.out) KB.out.2) Hb5.out) KC.out.2) Hb7.out).size
           have XA := Lib.hid (keepB (stepB (stepB (stepB (stepB (stepB KB.out.2 Hb5.out) KC.out.2) Hb7.out) KD.out.2) Hb9.out) Hx3.out)
           have XB := Lib.hid (keepB (stepB (stepB (stepB KC.out.2 Hb7.out) KD.out.2) Hb9.out) Hx5.out)
           have XC := Lib.hid (keepB (stepB KD.out.2 Hb9.out) Hx7.out)
           have XD := Lib.hid Hx9.out
           have BV : Hid (Below W4.heap.size W4 W9) := (stepB (stepB (stepB (stepB (stepB (stepB (stepB (stepB HBr.out KA.out.2) Hb3.out) KB.out.2) Hb5.out) KC.out.2) Hb7.out) KD.out.2) Hb9.out)
           have S0 : Hid (Wr W4.heap.size W9 W9) := Wr.refl _ _
           obtain ⟨p0a, p0b⟩ := row_two (S0.out.box XA.out))
        | (go_at_call 34; (with_reducible refine (spoil_any aA bA n cA mp dA W4.heap.size W9 (Nat.le_trans BV.out.size S0.out.below.size) (RA1.out.wr S0.out) (RA2.out.wr S0.out) Hf.out.1).mono ?_); rintro e s1 ⟨⟨y0, rfl⟩, T1⟩
           have S1 : Hid (Wr W4.heap.size W9 s1) := S0.out.trans T1.out
           obtain ⟨p1a, p1b⟩ := row_two (S1.out.box XB.out))
        | (go_at_call 34; (with_reducible refine (spoil_any aB bB n cB mw dB W4.heap.size s1 (Nat.le_trans BV.out.size S1.out.below.size) (RB1.out.wr S1.out) (RB2.out.wr S1.out) Hf.out.2.1).mono ?_); rintro e s2 ⟨⟨y1, rfl⟩, T2⟩
           have S2 : Hid (Wr W4.heap.size W9 s2) := S1.out.trans T2.out
           obtain ⟨p2a, p2b⟩ := row_two (S2.out.box XC.out))
        | (go_at_call 34; (with_reducible refine (spoil_any aC bC n cC m dC W4.heap.size s2 (Nat.le_trans BV.out.size S2.out.below.size) (RC1.out.wr S2.out) (RC2.out.wr S2.out) Hf.out.2.2).mono ?_); rintro e s3 ⟨⟨y2, rfl⟩, T3⟩
           have S3 : Hid (Wr W4.heap.size W9 s3) := S2.out.trans T3.out
           obtain ⟨p3a, p3b⟩ := row_two (S3.out.box XD.out))
        | (go_at_call 34; (with_reducible refine (spoil_any aD bD ns cD m dD W4.heap.size s3 (Nat.le_trans BV.out.size S3.out.below.size) (RD1.out.wr S3.out) (RD2.out.wr S3.out) Hf2.out).mono ?_); rintro e s4 ⟨⟨y3, rfl⟩, T4⟩
           have S4 : Hid (Wr W4.heap.size W9 s4) := S3.out.trans T4.out
           obtain ⟨p4a, p4b⟩ := row_two (S4.out.box XA.out)
           obtain ⟨xs, hxs⟩ := RA2.out.wr S4.out
           have Hxs := Lib.hid hxs
           clear hxs
           have BS : Hid (Below W4.heap.size W4 s4) := BV.out.trans S4.out.below)
        | (at_builtin; refine wpList_append_own _ rfl _ _ 23 rfl W4.heap.size 34 i1 Ev.zero.agg 8 64 Tryd.underlying23 hi1 hy0 hy1 hy2 rfl (by decide) (.slice bA mp dA) _ _ rfl (Hxs.out.alloc _) ⟨s4.heap.size, 0, none⟩ 1 1 [.int .i64 0, .int .i64 0, .int .i64 0, .int .i64 0, .int .i64 0, .int .i64 0, .int .i64 0, .int .i64 0] rfl rfl (eight_news _ _ _ _ _ _ _ _ _ _) (by intro u hu; simp only [List.mem_cons, List.not_mem_nil, or_false] at hu; rcases hu with rfl | rfl | rfl | rfl | rfl | rfl | rfl | rfl <;> rfl) (by unfold maxLen; have := Hf.out.1.2; omega) (by have := Hf.out.1.2; omega) (by show _ ≤ _; simp; exact Nat.le_trans BS.out.size (Nat.le_succ _)) ?_))
      intro v9 u1 hown1 hgrow1 hnil1
      obtain ⟨a9, c9, rfl, -, -⟩ := row_sl hown1
      have XAs := S4.out.box XA.out
      have XBs := S4.out.box XB.out
      have XA1 : Hid (u1.heap[w2.heap.size]? = some (.cells #[.slice aA n cA, .slice bA mp dA] 25)) := keepG hgrow1 (row_off (Hxs.out.alloc (.cells #[.int .i64 0, .int .i64 0, .int .i64 0, .int .i64 0, .int .i64 0, .int .i64 0, .int .i64 0, .int .i64 0] 34)) (keepA (.cells #[.int .i64 0, .int .i64 0, .int .i64 0, .int .i64 0, .int .i64 0, .int .i64 0, .int .i64 0, .int .i64 0] 34) XAs) (by decide)) (keepA (.cells #[.int .i64 0, .int .i64 0, .int .i64 0, .int .i64 0, .int .i64 0, .int .i64 0, .int .i64 0, .int .i64 0] 34) XAs)
      have XB1 : Hid (u1.heap[w4.heap.size]? = some (.cells #[.slice aB n cB, .slice bB mw dB] 25)) := keepG hgrow1 (row_off (Hxs.out.alloc (.cells #[.int .i64 0, .int .i64 0, .int .i64 0, .int .i64 0, .int .i64 0, .int .i64 0, .int .i64 0, .int .i64 0] 34)) (keepA (.cells #[.int .i64 0, .int .i64 0, .int .i64 0, .int .i64 0, .int .i64 0, .int .i64 0, .int .i64 0, .int .i64 0] 34) XBs) (by decide)) (keepA (.cells #[.int .i64 0, .int .i64 0, .int .i64 0, .int .i64 0, .int .i64 0, .int .i64 0, .int .i64 0, .int .i64 0] 34) XBs)
      have hAB : w2.heap.size ≠ w4.heap.size := Nat.ne_of_lt (Nat.lt_of_lt_of_le hs3.out KB.out.2.size)
      have HAB := Lib.hid hAB
      have hle : W4.heap.size ≤ w2.heap.size := (stepB HBr.out KA.out.2).size
      have hleB : W4.heap.size ≤ w4.heap.size := (stepB (stepB (stepB HBr.out KA.out.2) Hb3.out) KB.out.2).size
      have HleB := Lib.hid hleB
      obtain ⟨U1, hU1, ⟨m0, m1⟩, HUb, HUl⟩ := box_putN (w := W4) (o := 1) (.slice a9 (mp + 1) c9) XA1.out rfl hle
      have BU1 : Hid (Below W4.heap.size W4 U1) := (((BS.out.alloc BS.out.size _).grown hgrow1 (by simp; exact Nat.le_trans BS.out.size (Nat.le_succ _)) (fun j e => (Hxs.out.lt j e).1))).trans HUl.out
      obtain ⟨ys, hys⟩ := RB1.out.wr S4.out
      have XB2 : Hid (U1.heap[w4.heap.size]? = some (.cells #[.slice aB n cB, .slice bB mw dB] 25)) := by show _ = _; rw [← hU1]; exact keepS hAB XB1.out
      have Hys : Hid (U1.ownsRow W4.heap.size 31 2 (.slice aB n cB) n ys) := by
        show World.ownsRow _ _ _ _ _ _ _
        rw [← hU1]
        exact row_setOff (row_other (hys.alloc (.cells #[.int .i64 0, .int .i64 0, .int .i64 0, .int .i64 0, .int .i64 0, .int .i64 0, .int .i64 0, .int .i64 0] 34)) (Hxs.out.alloc (.cells #[.int .i64 0, .int .i64 0, .int .i64 0, .int .i64 0, .int .i64 0, .int .i64 0, .int .i64 0, .int .i64 0] 34)) (by decide) hgrow1) XA1.out (by decide) _
      have XA2 : Hid (U1.heap[w2.heap.size]? = some (.cells #[.slice aA n cA, .slice a9 (mp + 1) c9] 25)) := HUb.out
      obtain ⟨k0a, k0b⟩ := row_two XB2.out
      clear hown1 hgrow1 hnil1 XAs XBs hys hAB hle hleB
      go_wp2_with (first
        | (at_builtin; refine wpList_append_own _ rfl _ _ 22 rfl W4.heap.size 31 i2 (.agg #[.int .i64 0, .int .i64 0]) 2 16 Tryd.underlying22 hi2 hz0 hz1 hz2 rfl (by decide) (.slice aB n cB) _ _ rfl (Hys.out.alloc _) ⟨U1.heap.size, 0, none⟩ 1 1 [.int .i64 0, .int .i64 0] rfl rfl (two_news _ _ _ _) (by intro u hu; simp only [List.mem_cons, List.not_mem_nil, or_false] at hu; rcases hu with rfl | rfl <;> rfl) (by unfold maxLen; have := Hf.out.1.1; omega) (by have := Hf.out.1.1; omega) (by show _ ≤ _; simp; exact Nat.le_trans BU1.out.size (Nat.le_succ _)) ?_))
      intro v10 u2 hown2 hgrow2 hnil2
      obtain ⟨a10, c10, rfl, -, -⟩ := row_sl hown2
      have XA3 : Hid (u2.heap[w2.heap.size]? = some (.cells #[.slice aA n cA, .slice a9 (mp + 1) c9] 25)) := keepG hgrow2 (row_off (Hys.out.alloc (.cells #[.int .i64 0, .int .i64 0] 31)) (keepA (.cells #[.int .i64 0, .int .i64 0] 31) XA2.out) (by decide)) (keepA (.cells #[.int .i64 0, .int .i64 0] 31) XA2.out)
      have XB3 : Hid (u2.heap[w4.heap.size]? = some (.cells #[.slice aB n cB, .slice bB mw dB] 25)) := keepG hgrow2 (row_off (Hys.out.alloc (.cells #[.int .i64 0, .int .i64 0] 31)) (keepA (.cells #[.int .i64 0, .int .i64 0] 31) XB2.out) (by decide)) (keepA (.cells #[.int .i64 0, .int .i64 0] 31) XB2.out)
      obtain ⟨U2, hU2, ⟨m2, m3⟩, HUb2, HUl2⟩ := box_putN (w := W4) (o := 0) (.slice a10 (n + 1) c10) XB3.out rfl HleB.out
      have BU2 : Hid (Below W4.heap.size W4 U2) := (((BU1.out.alloc BU1.out.size _).grown hgrow2 (by simp; exact Nat.le_trans BU1.out.size (Nat.le_succ _)) (fun j e => (Hys.out.lt j e).1))).trans HUl2.out
      have XA4 : Hid (U2.heap[w2.heap.size]? = some (.cells #[.slice aA n cA, .slice a9 (mp + 1) c9] 25)) := by show _ = _; rw [← hU2]; exact keepS (fun e => HAB.out e.symm) XA3.out
      have XB4 : Hid (U2.heap[w4.heap.size]? = some (.cells #[.slice a10 (n + 1) c10, .slice bB mw dB] 25)) := HUb2.out
      obtain ⟨n0a, n0b⟩ := row_two XA4.out
      obtain ⟨n1a, n1b⟩ := row_two XB4.out
      have z1 : (((mp + 1 : Nat) : Int) == 0) = false := by simp; omega
      have z2 : (((n + 1 : Nat) : Int) == 0) = false := by simp; omega
      have z3 : (((mp : Int) + 1) == 0) = false := by simp; omega
      have z4 : (((n : Int) + 1) == 0) = false := by simp; omega
      clear hown2 hgrow2 hnil2
      go_wp2_with fail
      go_roundw
      case rel => exact ⟨1, by omega, rfl, BU2.out⟩
      case measure => simp [intOf]
    · clear hk
      obtain ⟨l0a, l0b⟩ := row_two (keepB HBr.out HH4.out)
      go_wp2_with (first
        | (go_at_call 13; (with_reducible refine (prefix_r (HI4.out.below HBr.out) z Hmp.out).mono ?_); rintro e w2 ⟨aA, cA, bA, dA, rfl, KA⟩
           obtain ⟨W3, hW3, Hb3, hs3, Hx3⟩ := cells_new w2 #[.slice aA n cA, .slice bA mp dA] 25
           obtain ⟨l2a, l2b⟩ := row_two (keepB (stepB (stepB HBr.out KA.out.2) Hb3.out) HH4.out))
        | (go_at_call 15; (with_reducible refine (without_r (HI4.out.below (stepB (stepB HBr.out KA.out.2) Hb3.out)) x Hmw.out).mono ?_); rintro e w4 ⟨aB, cB, bB, dB, rfl, KB⟩
           obtain ⟨W5, hW5, Hb5, hs5, Hx5⟩ := cells_new w4 #[.slice aB n cB, .slice bB mw dB] 25
           obtain ⟨l4a, l4b⟩ := row_two (keepB (stepB (stepB (stepB (stepB HBr.out KA.out.2) Hb3.out) KB.out.2) Hb5.out) HH4.out))
        | (go_at_call 17; (with_reducible refine (only33_r (HI4.out.below (stepB (stepB (stepB (stepB HBr.out KA.out.2) Hb3.out) KB.out.2) Hb5.out))).mono ?_); rintro e w6 ⟨aC, cC, bC, dC, rfl, KC⟩
           obtain ⟨W7, hW7, Hb7, hs7, Hx7⟩ := cells_new w6 #[.slice aC n cC, .slice bC m dC] 25
           obtain ⟨l6a, l6b⟩ := row_two (keepB (stepB (stepB (stepB (stepB (stepB (stepB HBr.out KA.out.2) Hb3.out) KB.out.2) Hb5.out) KC.out.2) Hb7.out) HH4.out))
        | (go_at_call 27; (with_reducible refine (spare_r (HI4.out.below (stepB (stepB (stepB (stepB (stepB (stepB HBr.out KA.out.2) Hb3.out) KB.out.2) Hb5.out) KC.out.2) Hb7.out)) (HG4.out.below' (stepB (stepB (stepB (stepB (stepB (stepB HBr.out KA.out.2) Hb3.out) KB.out.2) Hb5.out) KC.out.2) Hb7.out)) Htab.out Hns.out).mono ?_); rintro e w8 ⟨aD, cD, bD, dD, rfl, KD⟩
           obtain ⟨W9, hW9, Hb9, hs9, Hx9⟩ := cells_new w8 #[.slice aD ns cD, .slice bD m dD] 25
           have RA1 : Hid (RowW W4.heap.size 31 2 n (.slice aA n cA) W9) := (KA.out.1.1.wr (Wr.of (B := 0) (Nat.zero_le _) (stepB (stepB (stepB (stepB (stepB (stepB Hb3.out KB.out.2) Hb5.out) KC.out.2) Hb7.out) KD.out.2) Hb9.out))).base HBr.out.size
           have RA2 : Hid (RowW W4.heap.size 34 8 mp (.slice bA mp dA) W9) := (KA.out.1.2.wr (Wr.of (B := 0) (Nat.zero_le _) (stepB (stepB (stepB (stepB (stepB (stepB Hb3.out KB.out.2) Hb5.out) KC.out.2) Hb7.out) KD.out.2) Hb9.out))).base HBr.out.size
           have RB1 : Hid (RowW W4.heap.size 31 2 n (.slice aB n cB) W9) := (KB.out.1.1.wr (Wr.of (B := 0) (Nat.zero_le _) (stepB (stepB (stepB (stepB Hb5.out KC.out.2) Hb7.out) KD.out.2) Hb9.out))).base (stepB (stepB HBr.out KA.out.2) Hb3.out).size
           have RB2 : Hid (RowW W4.heap.size 34 8 mw (.slice bB mw dB) W9) := (KB.out.1.2.wr (Wr.of (B := 0) (Nat.zero_le _) (stepB (stepB (stepB (stepB Hb5.out KC.out.2) Hb7.out) KD.out.2) Hb9.out))).base (stepB (stepB HBr.out KA.out.2) Hb3.out).size
           have RC1 : Hid (RowW W4.heap.size 31 2 n (.slice aC n cC) W9) := (KC.out.1.1.wr (Wr.of (B := 0) (Nat.zero_le _) (stepB (stepB Hb7.out KD.out.2) Hb9.out))).base (stepB (stepB (stepB (stepB HBr.out KA.out.2) Hb3.out) KB.out.2) Hb5.out).size
           have RC2 : Hid (RowW W4.heap.size 34 8 m (.slice bC m dC) W9) := (KC.out.1.2.wr (Wr.of (B := 0) (Nat.zero_le _) (stepB (stepB Hb7.out KD.out.2) Hb9.out))).base (stepB (stepB (stepB (stepB HBr.out KA.out.2) Hb3.out) KB.out.2) Hb5.out).size
           have RD1 : Hid (RowW W4.heap.size 31 2 ns (.slice aD ns cD) W9) := (KD.out.1.1.wr (Wr.of (B := 0) (Nat.zero_le _) Hb9.out)).base (stepB (stepB (stepB (stepB (stepB (stepB HBr.out KA.out.2) Hb3.out) KB.out.2) Hb5.out) KC.out.2) Hb7.out).size
           have RD2 : Hid (RowW W4.heap.size 34 8 m (.slice bD m dD) W9) := (KD.out.1.2.wr (Wr.of (B := 0) (Nat.zero_le _) Hb9.out)).base (stepB (stepB (stepB (stepB (stepB (stepB HBr.out KA.out.2) Hb3.out) KB.out.2) Hb5.out) KC.out.2) Hb7.out).size
           have XA := Lib.hid (keepB (stepB (stepB (stepB (stepB (stepB KB.out.2 Hb5.out) KC.out.2) Hb7.out) KD.out.2) Hb9.out) Hx3.out)
           have XB := Lib.hid (keepB (stepB (stepB (stepB KC.out.2 Hb7.out) KD.out.2) Hb9.out) Hx5.out)
           have XC := Lib.hid (keepB (stepB KD.out.2 Hb9.out) Hx7.out)
           have XD := Lib.hid Hx9.out
           have BV : Hid (Below W4.heap.size W4 W9) := (stepB (stepB (stepB (stepB (stepB (stepB (stepB (stepB HBr.out KA.out.2) Hb3.out) KB.out.2) Hb5.out) KC.out.2) Hb7.out) KD.out.2) Hb9.out)
           have S0 : Hid (Wr W4.heap.size W9 W9) := Wr.refl _ _
           obtain ⟨p0a, p0b⟩ := row_two (S0.out.box XA.out))
        | (go_at_call 34; (with_reducible refine (spoil_any aA bA n cA mp dA W4.heap.size W9 (Nat.le_trans BV.out.size S0.out.below.size) (RA1.out.wr S0.out) (RA2.out.wr S0.out) Hf.out.1).mono ?_); rintro e s1 ⟨⟨y0, rfl⟩, T1⟩
           have S1 : Hid (Wr W4.heap.size W9 s1) := S0.out.trans T1.out
           obtain ⟨p1a, p1b⟩ := row_two (S1.out.box XB.out))
        | (go_at_call 34; (with_reducible refine (spoil_any aB bB n cB mw dB W4.heap.size s1 (Nat.le_trans BV.out.size S1.out.below.size) (RB1.out.wr S1.out) (RB2.out.wr S1.out) Hf.out.2.1).mono ?_); rintro e s2 ⟨⟨y1, rfl⟩, T2⟩
           have S2 : Hid (Wr W4.heap.size W9 s2) := S1.out.trans T2.out
           obtain ⟨p2a, p2b⟩ := row_two (S2.out.box XC.out))
        | (go_at_call 34; (with_reducible refine (spoil_any aC bC n cC m dC W4.heap.size s2 (Nat.le_trans BV.out.size S2.out.below.size) (RC1.out.wr S2.out) (RC2.out.wr S2.out) Hf.out.2.2).mono ?_); rintro e s3 ⟨⟨y2, rfl⟩, T3⟩
           have S3 : Hid (Wr W4.heap.size W9 s3) := S2.out.trans T3.out
           obtain ⟨p3a, p3b⟩ := row_two (S3.out.box XD.out))
        | (go_at_call 34; (with_reducible refine (spoil_any aD bD ns cD m dD W4.heap.size s3 (Nat.le_trans BV.out.size S3.out.below.size) (RD1.out.wr S3.out) (RD2.out.wr S3.out) Hf2.out).mono ?_); rintro e s4 ⟨⟨y3, rfl⟩, T4⟩
           have S4 : Hid (Wr W4.heap.size W9 s4) := S3.out.trans T4.out
           obtain ⟨p4a, p4b⟩ := row_two (S4.out.box XA.out)
           obtain ⟨xs, hxs⟩ := RA2.out.wr S4.out
           have Hxs := Lib.hid hxs
           clear hxs
           have BS : Hid (Below W4.heap.size W4 s4) := BV.out.trans S4.out.below)
        | (at_builtin; refine wpList_append_own _ rfl _ _ 23 rfl W4.heap.size 34 i1 Ev.zero.agg 8 64 Tryd.underlying23 hi1 hy0 hy1 hy2 rfl (by decide) (.slice bA mp dA) _ _ rfl (Hxs.out.alloc _) ⟨s4.heap.size, 0, none⟩ 1 1 [.int .i64 0, .int .i64 0, .int .i64 0, .int .i64 0, .int .i64 0, .int .i64 0, .int .i64 0, .int .i64 0] rfl rfl (eight_news _ _ _ _ _ _ _ _ _ _) (by intro u hu; simp only [List.mem_cons, List.not_mem_nil, or_false] at hu; rcases hu with rfl | rfl | rfl | rfl | rfl | rfl | rfl | rfl <;> rfl) (by unfold maxLen; have := Hf.out.1.2; omega) (by have := Hf.out.1.2; omega) (by show _ ≤ _; simp; exact Nat.le_trans BS.out.size (Nat.le_succ _)) ?_))
      intro v9 u1 hown1 hgrow1 hnil1
      obtain ⟨a9, c9, rfl, -, -⟩ := row_sl hown1
      have XAs := S4.out.box XA.out
      have XBs := S4.out.box XB.out
      have XA1 : Hid (u1.heap[w2.heap.size]? = some (.cells #[.slice aA n cA, .slice bA mp dA] 25)) := keepG hgrow1 (row_off (Hxs.out.alloc (.cells #[.int .i64 0, .int .i64 0, .int .i64 0, .int .i64 0, .int .i64 0, .int .i64 0, .int .i64 0, .int .i64 0] 34)) (keepA (.cells #[.int .i64 0, .int .i64 0, .int .i64 0, .int .i64 0, .int .i64 0, .int .i64 0, .int .i64 0, .int .i64 0] 34) XAs) (by decide)) (keepA (.cells #[.int .i64 0, .int .i64 0, .int .i64 0, .int .i64 0, .int .i64 0, .int .i64 0, .int .i64 0, .int .i64 0] 34) XAs)
      have XB1 : Hid (u1.heap[w4.heap.size]? = some (.cells #[.slice aB n cB, .slice bB mw dB] 25)) := keepG hgrow1 (row_off (Hxs.out.alloc (.cells #[.int .i64 0, .int .i64 0, .int .i64 0, .int .i64 0, .int .i64 0, .int .i64 0, .int .i64 0, .int .i64 0] 34)) (keepA (.cells #[.int .i64 0, .int .i64 0, .int .i64 0, .int .i64 0, .int .i64 0, .int .i64 0, .int .i64 0, .int .i64 0] 34) XBs) (by decide)) (keepA (.cells #[.int .i64 0, .int .i64 0, .int .i64 0, .int .i64 0, .int .i64 0, .int .i64 0, .int .i64 0, .int .i64 0] 34) XBs)
      have hAB : w2.heap.size ≠ w4.heap.size := Nat.ne_of_lt (Nat.lt_of_lt_of_le hs3.out KB.out.2.size)
      have HAB := Lib.hid hAB
      have hle : W4.heap.size ≤ w2.heap.size := (stepB HBr.out KA.out.2).size
      have hleB : W4.heap.size ≤ w4.heap.size := (stepB (stepB (stepB HBr.out KA.out.2) Hb3.out) KB.out.2).size
      have HleB := Lib.hid hleB
      obtain ⟨U1, hU1, ⟨m0, m1⟩, HUb, HUl⟩ := box_putN (w := W4) (o := 1) (.slice a9 (mp + 1) c9) XA1.out rfl hle
      have BU1 : Hid (Below W4.heap.size W4 U1) := (((BS.out.alloc BS.out.size _).grown hgrow1 (by simp; exact Nat.le_trans BS.out.size (Nat.le_succ _)) (fun j e => (Hxs.out.lt j e).1))).trans HUl.out
      obtain ⟨ys, hys⟩ := RB1.out.wr S4.out
      have XB2 : Hid (U1.heap[w4.heap.size]? = some (.cells #[.slice aB n cB, .slice bB mw dB] 25)) := by show _ = _; rw [← hU1]; exact keepS hAB XB1.out
      have Hys : Hid (U1.ownsRow W4.heap.size 31 2 (.slice aB n cB) n ys) := by
        show World.ownsRow _ _ _ _ _ _ _
        rw [← hU1]
        exact row_setOff (row_other (hys.alloc (.cells #[.int .i64 0, .int .i64 0, .int .i64 0, .int .i64 0, .int .i64 0, .int .i64 0, .int .i64 0, .int .i64 0] 34)) (Hxs.out.alloc (.cells #[.int .i64 0, .int .i64 0, .int .i64 0, .int .i64 0, .int .i64 0, .int .i64 0, .int .i64 0, .int .i64 0] 34)) (by decide) hgrow1) XA1.out (by decide) _
      have XA2 : Hid (U1.heap[w2.heap.size]? = some (.cells #[.slice aA n cA, .slice a9 (mp + 1) c9] 25)) := HUb.out
      obtain ⟨k0a, k0b⟩ := row_two XB2.out
      clear hown1 hgrow1 hnil1 XAs XBs hys hAB hle hleB
      go_wp2_with (first
        | (at_builtin; refine wpList_append_own _ rfl _ _ 22 rfl W4.heap.size 31 i2 (.agg #[.int .i64 0, .int .i64 0]) 2 16 Tryd.underlying22 hi2 hz0 hz1 hz2 rfl (by decide) (.slice aB n cB) _ _ rfl (Hys.out.alloc _) ⟨U1.heap.size, 0, none⟩ 1 1 [.int .i64 0, .int .i64 0] rfl rfl (two_news _ _ _ _) (by intro u hu; simp only [List.mem_cons, List.not_mem_nil, or_false] at hu; rcases hu with rfl | rfl <;> rfl) (by unfold maxLen; have := Hf.out.1.1; omega) (by have := Hf.out.1.1; omega) (by show _ ≤ _; simp; exact Nat.le_trans BU1.out.size (Nat.le_succ _)) ?_))
      intro v10 u2 hown2 hgrow2 hnil2
      obtain ⟨a10, c10, rfl, -, -⟩ := row_sl hown2
      have XA3 : Hid (u2.heap[w2.heap.size]? = some (.cells #[.slice aA n cA, .slice a9 (mp + 1) c9] 25)) := keepG hgrow2 (row_off (Hys.out.alloc (.cells #[.int .i64 0, .int .i64 0] 31)) (keepA (.cells #[.int .i64 0, .int .i64 0] 31) XA2.out) (by decide)) (keepA (.cells #[.int .i64 0, .int .i64 0] 31) XA2.out)
      have XB3 : Hid (u2.heap[w4.heap.size]? = some (.cells #[.slice aB n cB, .slice bB mw dB] 25)) := keepG hgrow2 (row_off (Hys.out.alloc (.cells #[.int .i64 0, .int .i64 0] 31)) (keepA (.cells #[.int .i64 0, .int .i64 0] 31) XB2.out) (by decide)) (keepA (.cells #[.int .i64 0, .int .i64 0] 31) XB2.out)
      obtain ⟨U2, hU2, ⟨m2, m3⟩, HUb2, HUl2⟩ := box_putN (w := W4) (o := 0) (.slice a10 (n + 1) c10) XB3.out rfl HleB.out
      have BU2 : Hid (Below W4.heap.size W4 U2) := (((BU1.out.alloc BU1.out.size _).grown hgrow2 (by simp; exact Nat.le_trans BU1.out.size (Nat.le_succ _)) (fun j e => (Hys.out.lt j e).1))).trans HUl2.out
      have XA4 : Hid (U2.heap[w2.heap.size]? = some (.cells #[.slice aA n cA, .slice a9 (mp + 1) c9] 25)) := by show _ = _; rw [← hU2]; exact keepS (fun e => HAB.out e.symm) XA3.out
      have XB4 : Hid (U2.heap[w4.heap.size]? = some (.cells #[.slice a10 (n + 1) c10, .slice bB mw dB] 25)) := HUb2.out
      obtain ⟨n0a, n0b⟩ := row_two XA4.out
      obtain ⟨n1a, n1b⟩ := row_two XB4.out
      have z1 : (((mp + 1 : Nat) : Int) == 0) = false := by simp; omega
      have z2 : (((n + 1 : Nat) : Int) == 0) = false := by simp; omega
      have z3 : (((mp : Int) + 1) == 0) = false := by simp; omega
      have z4 : (((n : Int) + 1) == 0) = false := by simp; omega
      clear hown2 hgrow2 hnil2
      go_wp2_with fail
      go_roundw
      case rel => exact ⟨2, by omega, rfl, BU2.out⟩
      case measure => simp [intOf]
    · have BD : Hid (Below W4.heap.size W4 wr.drew) := HBr.out.drew
      have HSS : Hid (∀ U, Below W4.heap.size W4 U → (U.cell? ⟨w.heap.size, 0, none⟩ = some (.slice a0 n c0) ∧ U.cell? ⟨w.heap.size, 1, none⟩ = some (.slice b0 m d0)) ∧ (U.cell? ⟨w3.heap.size, 0, none⟩ = some (.slice aK n cK) ∧ U.cell? ⟨w3.heap.size, 1, none⟩ = some (.slice bK m dK))) := fun U hU => ⟨row_two (keepB hU HH4.out), row_two (keepB hU HKB.out)⟩
      go_wp2_with fail
      go_region_held3 (fun w' => (w'.cell? ⟨w.heap.size, 0, none⟩ = some (.slice a0 n c0) ∧ w'.cell? ⟨w.heap.size, 1, none⟩ = some (.slice b0 m d0)) ∧ (w'.cell? ⟨w3.heap.size, 0, none⟩ = some (.slice aK n cK) ∧ w'.cell? ⟨w3.heap.size, 1, none⟩ = some (.slice bK m dK)))
        (first | (with_reducible exact HSS.out _ BD.out) | (with_reducible exact HSS.out _ B8.out) | (with_reducible exact HSS.out _ B9.out) | (with_reducible exact HSS.out _ B10.out))
        (first
          | (go_at_call 13; (with_reducible refine (prefix_h (HI4.out.below BD.out) z (by rw [Hep.out]) Hml.out).mono ?_); rintro e w8 ⟨a8, c8, b8, d8, rfl, K8⟩
             have B8 : Hid (Below W4.heap.size W4 w8) := stepB BD.out K8.out.2)
          | (go_at_call 14; (with_reducible refine (rprefix_h (HK4.out.below B8.out) z (by rw [Hep.out]) Hml.out).mono ?_); rintro e w9 ⟨a9, c9, b9, d9, rfl, K9⟩
             have B9 : Hid (Below W4.heap.size W4 w9) := stepB B8.out K9.out.2)
          | (go_at_call 12; (with_reducible refine (same_h (K8.out.1.below K9.out.2) K9.out.1 R9.out).mono ?_); rintro e w10 ⟨rfl, S10⟩
             have B10 : Hid (Below W4.heap.size W4 w10) := stepB B9.out S10.out
             obtain ⟨⟨j0, j1⟩, ⟨j2, j3⟩⟩ := HSS.out _ B10.out))
      all_goals
        go_wp2_with (first
          | (go_at_call 12; (with_reducible refine (same_h (HI4.out.below B10.out) (HK4.out.below B10.out) R8.out).mono ?_); rintro e w11 ⟨rfl, S11⟩))
        go_ret
        exact ⟨rfl, stepB B4.out (stepB B10.out S11.out)⟩
end Go.Proofs.YtfjjhjojcgacbaaDoor
