/- Helpers, joined: De, Df, Dg, Dh. -/
import Derived.Test.YtcjfcomadcebnaaGreatDoorM6

/- Do of the document's states: what changes no list. -/
namespace Go.Proofs.YtcjfcomadcebnaaGreatDoor
open Go.RowKit Go.Maps Go.WideMaps Go.WideElems Go.ChangeShapes Go.WideShapes
variable {T : TypeId} {er : Nat → Addr}

set_option maxRecDepth 100000 in
set_option maxHeartbeats 4000000 in
theorem rdo_read1 (k n : Int) (hk0 : k ≠ 0) (hn : near n 1000000000000000) (ks vs : List Int) (ka va : Option Addr) (kc vc : Nat) (hops : rargs k n 1 0 0 = 0) (w : World) (hka : IAt w ka ks) (hva : IAt w va vs) (hsk : ks.length ≤ 100000) (hsv : vs.length ≤ 100000) :
    Calls Tryz.prog 58 #[dv k n ka ks.length kc va vs.length vc, .int .i64 1, .int .i64 0, .int .i64 0] w (DvRes w.heap.size k n ks vs 3 n w) := by
  obtain ⟨W1, W2, hW1, hW2, Hb, hs1, Sb2, Rb2⟩ := two_box w (dcs k n (.slice ka ks.length kc) (.slice va vs.length vc)) dz
  have Ha := Lib.hid (rargs_any k n hk0 hn (.slice ka ks.length kc) (.slice va vs.length vc) 1 0 0 W2)
  rw [hops] at Ha
  obtain ⟨⟨s0, s1⟩, s2, s3⟩ := row_four Sb2.out
  have Hka := Lib.hid hka
  have Hva := Lib.hid hva
  clear hka hva
  go_enter Tryz.func58, Tryz.ntmps58
  go_wp2_with (first
    | (go_at_call 78; (with_reducible refine Ha.out.mono ?_); rintro e w4 ⟨rfl, h4⟩
       have B4 : Hid (Below w.heap.size w w4) := stepB Hb.out h4.out
       have Sbx := Lib.hid (keepB h4.out Sb2.out)
       have Rbx := Lib.hid (keepB h4.out Rb2.out)
       obtain ⟨⟨t0, t1⟩, t2, t3⟩ := row_four Sbx.out
       have Sx0 := Lib.hid t0
       have Sx1 := Lib.hid t1
       have Sx2 := Lib.hid t2
       have Sx3 := Lib.hid t3
       have HS4 := And.intro t0 (And.intro t1 (And.intro t2 t3))
       have HRB : Hid (W1.heap.size < w4.heap.size) := (Array.getElem?_eq_some_iff.1 Rbx.out).1
       have Hka4 := Lib.hid (Hka.out.below B4.out)
       have Hva4 := Lib.hid (Hva.out.below B4.out)
       have Hw4s : Hid (w.heap.size < w4.heap.size) := (Array.getElem?_eq_some_iff.1 Sbx.out).1))
  go_cut [13] from 14 (fun s13 w' => ∃ tb g1 g2 c1 c2, s13 = .pointer (some ⟨tb, 0, none⟩) ∧ Hid (Dm w w4.heap.size W1.heap.size tb (dcs k n (.slice ka ks.length kc) (.slice va vs.length vc)) k n g1 g2 c1 c2 ks vs w'))
  case first =>
    go_region_held3 (fun w' => w'.cell? ⟨w.heap.size, 0, none⟩ = some (.int .i64 k) ∧ w'.cell? ⟨w.heap.size, 1, none⟩ = some (.int .i64 n) ∧ w'.cell? ⟨w.heap.size, 2, none⟩ = some (.slice ka ks.length kc) ∧ w'.cell? ⟨w.heap.size, 3, none⟩ = some (.slice va vs.length vc)) ((first | (refine ⟨?_, ?_, ?_, ?_⟩; all_goals (first | (refine cellB (n := w4.heap.size) ?_ Hw4s.out Sx0.out; (repeat (first | (with_reducible exact B3.out) | (with_reducible exact B2.out) | (with_reducible exact B1.out) | (with_reducible exact Below.refl _ _) | (with_reducible refine stepD ?_) | (with_reducible refine stepA ?_ _))); done) | (refine cellB (n := w4.heap.size) ?_ Hw4s.out Sx1.out; (repeat (first | (with_reducible exact B3.out) | (with_reducible exact B2.out) | (with_reducible exact B1.out) | (with_reducible exact Below.refl _ _) | (with_reducible refine stepD ?_) | (with_reducible refine stepA ?_ _))); done) | (refine cellB (n := w4.heap.size) ?_ Hw4s.out Sx2.out; (repeat (first | (with_reducible exact B3.out) | (with_reducible exact B2.out) | (with_reducible exact B1.out) | (with_reducible exact Below.refl _ _) | (with_reducible refine stepD ?_) | (with_reducible refine stepA ?_ _))); done) | (refine cellB (n := w4.heap.size) ?_ Hw4s.out Sx3.out; (repeat (first | (with_reducible exact B3.out) | (with_reducible exact B2.out) | (with_reducible exact B1.out) | (with_reducible exact Below.refl _ _) | (with_reducible refine stepD ?_) | (with_reducible refine stepA ?_ _))); done))) | (with_reducible exact HS4) | (with_reducible exact HS5)))
      (first
        | (go_at_call 21; (with_reducible refine (ints2 ka ks.length kc ks rfl (by omega) _ (iat_at Hka4.out (by (repeat (first | (with_reducible exact B1.out) | (with_reducible exact Below.refl _ _) | (with_reducible refine stepD ?_) | (with_reducible refine stepA ?_ _)))))).mono ?_); rintro e w1 ⟨g1, c1, rfl, h1⟩
           have b1 := Lib.hid h1.out.2
           have B1 : Hid (Below w4.heap.size w4 w1) := stepB (by (repeat (first | (with_reducible exact B1.out) | (with_reducible exact Below.refl _ _) | (with_reducible refine stepD ?_) | (with_reducible refine stepA ?_ _)))) b1.out
           have R1 := Lib.hid (row_base h1.out.1 (le_at (W := w4) (by (repeat (first | (with_reducible exact B1.out) | (with_reducible exact Below.refl _ _) | (with_reducible refine stepD ?_) | (with_reducible refine stepA ?_ _))))))
           first
             | have TA : Hid (w1.heap[w4.heap.size]? = some (.cells dz 39)) := keepB b1.out (newA _ rfl)
             | have TN := Lib.hid trivial
           clear h1)
        | (go_at_call 21; (with_reducible refine (ints2 va vs.length vc vs rfl (by omega) _ (iat_at Hva4.out (by (repeat (first | (with_reducible exact B1.out) | (with_reducible exact Below.refl _ _) | (with_reducible refine stepD ?_) | (with_reducible refine stepA ?_ _)))))).mono ?_); rintro e w2 ⟨g2, c2, rfl, h2⟩
           have b2 := Lib.hid h2.out.2
           have B2 : Hid (Below w4.heap.size w4 w2) := stepB (by (repeat (first | (with_reducible exact B1.out) | (with_reducible exact Below.refl _ _) | (with_reducible refine stepD ?_) | (with_reducible refine stepA ?_ _)))) b2.out
           have R2 := Lib.hid (row_base h2.out.1 (le_at (W := w4) (by (repeat (first | (with_reducible exact B1.out) | (with_reducible exact Below.refl _ _) | (with_reducible refine stepD ?_) | (with_reducible refine stepA ?_ _))))))
           have R1k := Lib.hid (row_kept (by first | exact R1.out | exact R1.out.alloc _) b2.out)
           have Hg : Hid (g1 ≠ g2) := by
             obtain ⟨q1, _⟩ := row_heap h2.out.1
             obtain ⟨_, cur, q2⟩ := row_heap R1.out
             have q3 := (Array.getElem?_eq_some_iff.1 q2).1
             have q4 : w1.heap.size ≤ g2 := Nat.le_trans (by first | exact Nat.le_refl _ | simp) q1
             show _ ≠ _
             omega
           have S2 := Lib.hid (keepB B2.out Sbx.out)
           have Q2 := Lib.hid (keepB B2.out Rbx.out)
           have BW := Lib.hid (stepB B4.out B2.out)
           first
             | (have TB := Lib.hid (keepB b2.out TA.out)
                obtain ⟨F1, F2, F3, F4, hF1, hF2, hF3, hF4, ⟨⟨f0, f1⟩, ⟨f2, f3⟩, ⟨f4, f5⟩, ⟨f6, f7⟩⟩, HD⟩ := dm_fin (w := w) (B := w4.heap.size) (rb := W1.heap.size) (tb := w4.heap.size) (k := k) (n := n) (ks := ks) (vs := vs) BW.out S2.out Q2.out TB.out R1k.out R2.out Hg.out ⟨hs1.out, HRB.out, (Nat.le_refl _)⟩
                obtain ⟨⟨p0, p1⟩, p2, p3⟩ := row_four HD.out.sbx
                have HS5 := And.intro p0 (And.intro p1 (And.intro p2 p3)))
             | (have TB : Hid (w2.heap[w1.heap.size]? = some (.cells dz 39)) := keepB b2.out (newA _ rfl)
                obtain ⟨F1, F2, F3, F4, hF1, hF2, hF3, hF4, ⟨⟨f0, f1⟩, ⟨f2, f3⟩, ⟨f4, f5⟩, ⟨f6, f7⟩⟩, HD⟩ := dm_fin (w := w) (B := w4.heap.size) (rb := W1.heap.size) (tb := w1.heap.size) (k := k) (n := n) (ks := ks) (vs := vs) BW.out S2.out Q2.out TB.out R1k.out R2.out Hg.out ⟨hs1.out, HRB.out, (le_at (W := w4) B1.out)⟩
                obtain ⟨⟨p0, p1⟩, p2, p3⟩ := row_four HD.out.sbx
                have HS5 := And.intro p0 (And.intro p1 (And.intro p2 p3)))
             | (obtain ⟨V3, hV3, b3, -, TB⟩ := cells_new w2 dz 39
                have B3 : Hid (Below w4.heap.size w4 V3) := stepB B2.out b3.out
                obtain ⟨F1, F2, F3, F4, hF1, hF2, hF3, hF4, ⟨⟨f0, f1⟩, ⟨f2, f3⟩, ⟨f4, f5⟩, ⟨f6, f7⟩⟩, HD⟩ := dm_fin (w := w) (B := w4.heap.size) (rb := W1.heap.size) (tb := w2.heap.size) (k := k) (n := n) (ks := ks) (vs := vs) (stepB BW.out b3.out) (keepB b3.out S2.out) (keepB b3.out Q2.out) TB.out (row_kept R1k.out b3.out) (row_kept R2.out b3.out) Hg.out ⟨hs1.out, HRB.out, (le_at (W := w4) B2.out)⟩
                obtain ⟨⟨p0, p1⟩, p2, p3⟩ := row_four HD.out.sbx
                have HS5 := And.intro p0 (And.intro p1 (And.intro p2 p3)))))
    all_goals
      go_wp2_with fail
      go_meet
      case rel => exact ⟨_, _, _, _, _, rfl, HD⟩
  case rest =>
    obtain ⟨tb, g1, g2, c1, c2, rfl, HD⟩ := hcut
    clear s0 s1 s2 s3 t0 t1 t2 t3 HS4 Sx0 Sx1 Sx2 Sx3 Sbx Rbx Sb2 Rb2 Ha
    obtain ⟨⟨t0, t1⟩, t2, t3⟩ := row_four HD.out.sbx
    obtain ⟨⟨q0, q1⟩, q2, q3⟩ := row_four HD.out.tbx
    have Ho := Lib.hid HD.out.ord
    obtain ⟨F1, F2, F3, F4, hF1, hF2, hF3, hF4, ⟨⟨f0, e0⟩, ⟨f1, e1⟩, ⟨f2, e2⟩, ⟨f3, e3⟩⟩, HF, HE⟩ := mapped_box (w := w) (V := wc.drew) (.int .i64 k) (.int .i64 n) (.slice (some ⟨g1, 0, none⟩) ks.length c1) (.slice (some ⟨g2, 0, none⟩) vs.length c2) HD.out.rbx (Nat.le_of_lt Ho.out.1)
    have hv1 : F4.cell? ⟨w.heap.size, 1, none⟩ = some (.int .i64 n) := HE.out.2 _ _ _ (Nat.ne_of_lt Ho.out.1) t1
    go_wp2_with fail
    go_region_with (fail)
    all_goals
      go_wp2_with fail
      refine bodyPost_ret (results_row_tmp3 rfl _ _ W1.heap.size 39 _ (0, 0) _ rfl HF.out Tryz.underlying39 rfl (by kernel_rfl)) rfl ?_
      exact dv_end HE.out HD.out.below.drew (dm_iat HD.out).1.1 (dm_iat HD.out).1.2 (dm_iat HD.out).2.2.1 (dm_iat HD.out).2.2.2.1 (fun e => by cases e) (fun e => by cases e) (dm_iat HD.out).2.1.1 (dm_iat HD.out).2.1.2 (dm_ge HD.out).1 (dm_ge HD.out).2

set_option maxRecDepth 100000 in
set_option maxHeartbeats 4000000 in
theorem rdo_read4 (k n : Int) (hk0 : k ≠ 0) (hn : near n 1000000000000000) (ks vs : List Int) (ka va : Option Addr) (kc vc : Nat) (hops : rargs k n 4 0 0 = 0) (w : World) (hka : IAt w ka ks) (hva : IAt w va vs) (hsk : ks.length ≤ 100000) (hsv : vs.length ≤ 100000) :
    Calls Tryz.prog 58 #[dv k n ka ks.length kc va vs.length vc, .int .i64 4, .int .i64 0, .int .i64 0] w (DvRes w.heap.size k n ks vs 3 n w) := by
  obtain ⟨W1, W2, hW1, hW2, Hb, hs1, Sb2, Rb2⟩ := two_box w (dcs k n (.slice ka ks.length kc) (.slice va vs.length vc)) dz
  have Ha := Lib.hid (rargs_any k n hk0 hn (.slice ka ks.length kc) (.slice va vs.length vc) 4 0 0 W2)
  rw [hops] at Ha
  obtain ⟨⟨s0, s1⟩, s2, s3⟩ := row_four Sb2.out
  have Hka := Lib.hid hka
  have Hva := Lib.hid hva
  clear hka hva
  go_enter Tryz.func58, Tryz.ntmps58
  go_wp2_with (first
    | (go_at_call 78; (with_reducible refine Ha.out.mono ?_); rintro e w4 ⟨rfl, h4⟩
       have B4 : Hid (Below w.heap.size w w4) := stepB Hb.out h4.out
       have Sbx := Lib.hid (keepB h4.out Sb2.out)
       have Rbx := Lib.hid (keepB h4.out Rb2.out)
       obtain ⟨⟨t0, t1⟩, t2, t3⟩ := row_four Sbx.out
       have Sx0 := Lib.hid t0
       have Sx1 := Lib.hid t1
       have Sx2 := Lib.hid t2
       have Sx3 := Lib.hid t3
       have HS4 := And.intro t0 (And.intro t1 (And.intro t2 t3))
       have HRB : Hid (W1.heap.size < w4.heap.size) := (Array.getElem?_eq_some_iff.1 Rbx.out).1
       have Hka4 := Lib.hid (Hka.out.below B4.out)
       have Hva4 := Lib.hid (Hva.out.below B4.out)
       have Hw4s : Hid (w.heap.size < w4.heap.size) := (Array.getElem?_eq_some_iff.1 Sbx.out).1))
  go_cut [13] from 14 (fun s13 w' => ∃ tb g1 g2 c1 c2, s13 = .pointer (some ⟨tb, 0, none⟩) ∧ Hid (Dm w w4.heap.size W1.heap.size tb (dcs k n (.slice ka ks.length kc) (.slice va vs.length vc)) k n g1 g2 c1 c2 ks vs w'))
  case first =>
    go_region_held3 (fun w' => w'.cell? ⟨w.heap.size, 0, none⟩ = some (.int .i64 k) ∧ w'.cell? ⟨w.heap.size, 1, none⟩ = some (.int .i64 n) ∧ w'.cell? ⟨w.heap.size, 2, none⟩ = some (.slice ka ks.length kc) ∧ w'.cell? ⟨w.heap.size, 3, none⟩ = some (.slice va vs.length vc)) ((first | (refine ⟨?_, ?_, ?_, ?_⟩; all_goals (first | (refine cellB (n := w4.heap.size) ?_ Hw4s.out Sx0.out; (repeat (first | (with_reducible exact B3.out) | (with_reducible exact B2.out) | (with_reducible exact B1.out) | (with_reducible exact Below.refl _ _) | (with_reducible refine stepD ?_) | (with_reducible refine stepA ?_ _))); done) | (refine cellB (n := w4.heap.size) ?_ Hw4s.out Sx1.out; (repeat (first | (with_reducible exact B3.out) | (with_reducible exact B2.out) | (with_reducible exact B1.out) | (with_reducible exact Below.refl _ _) | (with_reducible refine stepD ?_) | (with_reducible refine stepA ?_ _))); done) | (refine cellB (n := w4.heap.size) ?_ Hw4s.out Sx2.out; (repeat (first | (with_reducible exact B3.out) | (with_reducible exact B2.out) | (with_reducible exact B1.out) | (with_reducible exact Below.refl _ _) | (with_reducible refine stepD ?_) | (with_reducible refine stepA ?_ _))); done) | (refine cellB (n := w4.heap.size) ?_ Hw4s.out Sx3.out; (repeat (first | (with_reducible exact B3.out) | (with_reducible exact B2.out) | (with_reducible exact B1.out) | (with_reducible exact Below.refl _ _) | (with_reducible refine stepD ?_) | (with_reducible refine stepA ?_ _))); done))) | (with_reducible exact HS4) | (with_reducible exact HS5)))
      (first
        | (go_at_call 21; (with_reducible refine (ints2 ka ks.length kc ks rfl (by omega) _ (iat_at Hka4.out (by (repeat (first | (with_reducible exact B1.out) | (with_reducible exact Below.refl _ _) | (with_reducible refine stepD ?_) | (with_reducible refine stepA ?_ _)))))).mono ?_); rintro e w1 ⟨g1, c1, rfl, h1⟩
           have b1 := Lib.hid h1.out.2
           have B1 : Hid (Below w4.heap.size w4 w1) := stepB (by (repeat (first | (with_reducible exact B1.out) | (with_reducible exact Below.refl _ _) | (with_reducible refine stepD ?_) | (with_reducible refine stepA ?_ _)))) b1.out
           have R1 := Lib.hid (row_base h1.out.1 (le_at (W := w4) (by (repeat (first | (with_reducible exact B1.out) | (with_reducible exact Below.refl _ _) | (with_reducible refine stepD ?_) | (with_reducible refine stepA ?_ _))))))
           first
             | have TA : Hid (w1.heap[w4.heap.size]? = some (.cells dz 39)) := keepB b1.out (newA _ rfl)
             | have TN := Lib.hid trivial
           clear h1)
        | (go_at_call 21; (with_reducible refine (ints2 va vs.length vc vs rfl (by omega) _ (iat_at Hva4.out (by (repeat (first | (with_reducible exact B1.out) | (with_reducible exact Below.refl _ _) | (with_reducible refine stepD ?_) | (with_reducible refine stepA ?_ _)))))).mono ?_); rintro e w2 ⟨g2, c2, rfl, h2⟩
           have b2 := Lib.hid h2.out.2
           have B2 : Hid (Below w4.heap.size w4 w2) := stepB (by (repeat (first | (with_reducible exact B1.out) | (with_reducible exact Below.refl _ _) | (with_reducible refine stepD ?_) | (with_reducible refine stepA ?_ _)))) b2.out
           have R2 := Lib.hid (row_base h2.out.1 (le_at (W := w4) (by (repeat (first | (with_reducible exact B1.out) | (with_reducible exact Below.refl _ _) | (with_reducible refine stepD ?_) | (with_reducible refine stepA ?_ _))))))
           have R1k := Lib.hid (row_kept (by first | exact R1.out | exact R1.out.alloc _) b2.out)
           have Hg : Hid (g1 ≠ g2) := by
             obtain ⟨q1, _⟩ := row_heap h2.out.1
             obtain ⟨_, cur, q2⟩ := row_heap R1.out
             have q3 := (Array.getElem?_eq_some_iff.1 q2).1
             have q4 : w1.heap.size ≤ g2 := Nat.le_trans (by first | exact Nat.le_refl _ | simp) q1
             show _ ≠ _
             omega
           have S2 := Lib.hid (keepB B2.out Sbx.out)
           have Q2 := Lib.hid (keepB B2.out Rbx.out)
           have BW := Lib.hid (stepB B4.out B2.out)
           first
             | (have TB := Lib.hid (keepB b2.out TA.out)
                obtain ⟨F1, F2, F3, F4, hF1, hF2, hF3, hF4, ⟨⟨f0, f1⟩, ⟨f2, f3⟩, ⟨f4, f5⟩, ⟨f6, f7⟩⟩, HD⟩ := dm_fin (w := w) (B := w4.heap.size) (rb := W1.heap.size) (tb := w4.heap.size) (k := k) (n := n) (ks := ks) (vs := vs) BW.out S2.out Q2.out TB.out R1k.out R2.out Hg.out ⟨hs1.out, HRB.out, (Nat.le_refl _)⟩
                obtain ⟨⟨p0, p1⟩, p2, p3⟩ := row_four HD.out.sbx
                have HS5 := And.intro p0 (And.intro p1 (And.intro p2 p3)))
             | (have TB : Hid (w2.heap[w1.heap.size]? = some (.cells dz 39)) := keepB b2.out (newA _ rfl)
                obtain ⟨F1, F2, F3, F4, hF1, hF2, hF3, hF4, ⟨⟨f0, f1⟩, ⟨f2, f3⟩, ⟨f4, f5⟩, ⟨f6, f7⟩⟩, HD⟩ := dm_fin (w := w) (B := w4.heap.size) (rb := W1.heap.size) (tb := w1.heap.size) (k := k) (n := n) (ks := ks) (vs := vs) BW.out S2.out Q2.out TB.out R1k.out R2.out Hg.out ⟨hs1.out, HRB.out, (le_at (W := w4) B1.out)⟩
                obtain ⟨⟨p0, p1⟩, p2, p3⟩ := row_four HD.out.sbx
                have HS5 := And.intro p0 (And.intro p1 (And.intro p2 p3)))
             | (obtain ⟨V3, hV3, b3, -, TB⟩ := cells_new w2 dz 39
                have B3 : Hid (Below w4.heap.size w4 V3) := stepB B2.out b3.out
                obtain ⟨F1, F2, F3, F4, hF1, hF2, hF3, hF4, ⟨⟨f0, f1⟩, ⟨f2, f3⟩, ⟨f4, f5⟩, ⟨f6, f7⟩⟩, HD⟩ := dm_fin (w := w) (B := w4.heap.size) (rb := W1.heap.size) (tb := w2.heap.size) (k := k) (n := n) (ks := ks) (vs := vs) (stepB BW.out b3.out) (keepB b3.out S2.out) (keepB b3.out Q2.out) TB.out (row_kept R1k.out b3.out) (row_kept R2.out b3.out) Hg.out ⟨hs1.out, HRB.out, (le_at (W := w4) B2.out)⟩
                obtain ⟨⟨p0, p1⟩, p2, p3⟩ := row_four HD.out.sbx
                have HS5 := And.intro p0 (And.intro p1 (And.intro p2 p3)))))
    all_goals
      go_wp2_with fail
      go_meet
      case rel => exact ⟨_, _, _, _, _, rfl, HD⟩
  case rest =>
    obtain ⟨tb, g1, g2, c1, c2, rfl, HD⟩ := hcut
    clear s0 s1 s2 s3 t0 t1 t2 t3 HS4 Sx0 Sx1 Sx2 Sx3 Sbx Rbx Sb2 Rb2 Ha
    obtain ⟨⟨t0, t1⟩, t2, t3⟩ := row_four HD.out.sbx
    obtain ⟨⟨q0, q1⟩, q2, q3⟩ := row_four HD.out.tbx
    have Ho := Lib.hid HD.out.ord
    obtain ⟨F1, F2, F3, F4, hF1, hF2, hF3, hF4, ⟨⟨f0, e0⟩, ⟨f1, e1⟩, ⟨f2, e2⟩, ⟨f3, e3⟩⟩, HF, HE⟩ := mapped_box (w := w) (V := wc.drew) (.int .i64 k) (.int .i64 n) (.slice (some ⟨g1, 0, none⟩) ks.length c1) (.slice (some ⟨g2, 0, none⟩) vs.length c2) HD.out.rbx (Nat.le_of_lt Ho.out.1)
    have hv1 : F4.cell? ⟨w.heap.size, 1, none⟩ = some (.int .i64 n) := HE.out.2 _ _ _ (Nat.ne_of_lt Ho.out.1) t1
    go_wp2_with fail
    go_region_with (fail)
    all_goals
      go_wp2_with fail
      refine bodyPost_ret (results_row_tmp3 rfl _ _ W1.heap.size 39 _ (0, 0) _ rfl HF.out Tryz.underlying39 rfl (by kernel_rfl)) rfl ?_
      exact dv_end HE.out HD.out.below.drew (dm_iat HD.out).1.1 (dm_iat HD.out).1.2 (dm_iat HD.out).2.2.1 (dm_iat HD.out).2.2.2.1 (fun e => by cases e) (fun e => by cases e) (dm_iat HD.out).2.1.1 (dm_iat HD.out).2.1.2 (dm_ge HD.out).1 (dm_ge HD.out).2

set_option maxRecDepth 100000 in
set_option maxHeartbeats 4000000 in
theorem rdo_write (k n val : Int) (hk0 : k ≠ 0) (hn : near n 1000000000000000) (ks vs : List Int) (ka va : Option Addr) (kc vc : Nat) (hops : rargs k n 2 0 val = 0) (w : World) (hka : IAt w ka ks) (hva : IAt w va vs) (hsk : ks.length ≤ 100000) (hsv : vs.length ≤ 100000) :
    Calls Tryz.prog 58 #[dv k n ka ks.length kc va vs.length vc, .int .i64 2, .int .i64 0, .int .i64 val] w (DvRes w.heap.size k val ks vs 1 0 w) := by
  obtain ⟨W1, W2, hW1, hW2, Hb, hs1, Sb2, Rb2⟩ := two_box w (dcs k n (.slice ka ks.length kc) (.slice va vs.length vc)) dz
  have Ha := Lib.hid (rargs_any k n hk0 hn (.slice ka ks.length kc) (.slice va vs.length vc) 2 0 val W2)
  rw [hops] at Ha
  obtain ⟨⟨s0, s1⟩, s2, s3⟩ := row_four Sb2.out
  have Hka := Lib.hid hka
  have Hva := Lib.hid hva
  clear hka hva
  go_enter Tryz.func58, Tryz.ntmps58
  go_wp2_with (first
    | (go_at_call 78; (with_reducible refine Ha.out.mono ?_); rintro e w4 ⟨rfl, h4⟩
       have B4 : Hid (Below w.heap.size w w4) := stepB Hb.out h4.out
       have Sbx := Lib.hid (keepB h4.out Sb2.out)
       have Rbx := Lib.hid (keepB h4.out Rb2.out)
       obtain ⟨⟨t0, t1⟩, t2, t3⟩ := row_four Sbx.out
       have Sx0 := Lib.hid t0
       have Sx1 := Lib.hid t1
       have Sx2 := Lib.hid t2
       have Sx3 := Lib.hid t3
       have HS4 := And.intro t0 (And.intro t1 (And.intro t2 t3))
       have HRB : Hid (W1.heap.size < w4.heap.size) := (Array.getElem?_eq_some_iff.1 Rbx.out).1
       have Hka4 := Lib.hid (Hka.out.below B4.out)
       have Hva4 := Lib.hid (Hva.out.below B4.out)
       have Hw4s : Hid (w.heap.size < w4.heap.size) := (Array.getElem?_eq_some_iff.1 Sbx.out).1))
  go_cut [13] from 14 (fun s13 w' => ∃ tb g1 g2 c1 c2, s13 = .pointer (some ⟨tb, 0, none⟩) ∧ Hid (Dm w w4.heap.size W1.heap.size tb (dcs k n (.slice ka ks.length kc) (.slice va vs.length vc)) k n g1 g2 c1 c2 ks vs w'))
  case first =>
    go_region_held3 (fun w' => w'.cell? ⟨w.heap.size, 0, none⟩ = some (.int .i64 k) ∧ w'.cell? ⟨w.heap.size, 1, none⟩ = some (.int .i64 n) ∧ w'.cell? ⟨w.heap.size, 2, none⟩ = some (.slice ka ks.length kc) ∧ w'.cell? ⟨w.heap.size, 3, none⟩ = some (.slice va vs.length vc)) ((first | (refine ⟨?_, ?_, ?_, ?_⟩; all_goals (first | (refine cellB (n := w4.heap.size) ?_ Hw4s.out Sx0.out; (repeat (first | (with_reducible exact B3.out) | (with_reducible exact B2.out) | (with_reducible exact B1.out) | (with_reducible exact Below.refl _ _) | (with_reducible refine stepD ?_) | (with_reducible refine stepA ?_ _))); done) | (refine cellB (n := w4.heap.size) ?_ Hw4s.out Sx1.out; (repeat (first | (with_reducible exact B3.out) | (with_reducible exact B2.out) | (with_reducible exact B1.out) | (with_reducible exact Below.refl _ _) | (with_reducible refine stepD ?_) | (with_reducible refine stepA ?_ _))); done) | (refine cellB (n := w4.heap.size) ?_ Hw4s.out Sx2.out; (repeat (first | (with_reducible exact B3.out) | (with_reducible exact B2.out) | (with_reducible exact B1.out) | (with_reducible exact Below.refl _ _) | (with_reducible refine stepD ?_) | (with_reducible refine stepA ?_ _))); done) | (refine cellB (n := w4.heap.size) ?_ Hw4s.out Sx3.out; (repeat (first | (with_reducible exact B3.out) | (with_reducible exact B2.out) | (with_reducible exact B1.out) | (with_reducible exact Below.refl _ _) | (with_reducible refine stepD ?_) | (with_reducible refine stepA ?_ _))); done))) | (with_reducible exact HS4) | (with_reducible exact HS5)))
      (first
        | (go_at_call 21; (with_reducible refine (ints2 ka ks.length kc ks rfl (by omega) _ (iat_at Hka4.out (by (repeat (first | (with_reducible exact B1.out) | (with_reducible exact Below.refl _ _) | (with_reducible refine stepD ?_) | (with_reducible refine stepA ?_ _)))))).mono ?_); rintro e w1 ⟨g1, c1, rfl, h1⟩
           have b1 := Lib.hid h1.out.2
           have B1 : Hid (Below w4.heap.size w4 w1) := stepB (by (repeat (first | (with_reducible exact B1.out) | (with_reducible exact Below.refl _ _) | (with_reducible refine stepD ?_) | (with_reducible refine stepA ?_ _)))) b1.out
           have R1 := Lib.hid (row_base h1.out.1 (le_at (W := w4) (by (repeat (first | (with_reducible exact B1.out) | (with_reducible exact Below.refl _ _) | (with_reducible refine stepD ?_) | (with_reducible refine stepA ?_ _))))))
           first
             | have TA : Hid (w1.heap[w4.heap.size]? = some (.cells dz 39)) := keepB b1.out (newA _ rfl)
             | have TN := Lib.hid trivial
           clear h1)
        | (go_at_call 21; (with_reducible refine (ints2 va vs.length vc vs rfl (by omega) _ (iat_at Hva4.out (by (repeat (first | (with_reducible exact B1.out) | (with_reducible exact Below.refl _ _) | (with_reducible refine stepD ?_) | (with_reducible refine stepA ?_ _)))))).mono ?_); rintro e w2 ⟨g2, c2, rfl, h2⟩
           have b2 := Lib.hid h2.out.2
           have B2 : Hid (Below w4.heap.size w4 w2) := stepB (by (repeat (first | (with_reducible exact B1.out) | (with_reducible exact Below.refl _ _) | (with_reducible refine stepD ?_) | (with_reducible refine stepA ?_ _)))) b2.out
           have R2 := Lib.hid (row_base h2.out.1 (le_at (W := w4) (by (repeat (first | (with_reducible exact B1.out) | (with_reducible exact Below.refl _ _) | (with_reducible refine stepD ?_) | (with_reducible refine stepA ?_ _))))))
           have R1k := Lib.hid (row_kept (by first | exact R1.out | exact R1.out.alloc _) b2.out)
           have Hg : Hid (g1 ≠ g2) := by
             obtain ⟨q1, _⟩ := row_heap h2.out.1
             obtain ⟨_, cur, q2⟩ := row_heap R1.out
             have q3 := (Array.getElem?_eq_some_iff.1 q2).1
             have q4 : w1.heap.size ≤ g2 := Nat.le_trans (by first | exact Nat.le_refl _ | simp) q1
             show _ ≠ _
             omega
           have S2 := Lib.hid (keepB B2.out Sbx.out)
           have Q2 := Lib.hid (keepB B2.out Rbx.out)
           have BW := Lib.hid (stepB B4.out B2.out)
           first
             | (have TB := Lib.hid (keepB b2.out TA.out)
                obtain ⟨F1, F2, F3, F4, hF1, hF2, hF3, hF4, ⟨⟨f0, f1⟩, ⟨f2, f3⟩, ⟨f4, f5⟩, ⟨f6, f7⟩⟩, HD⟩ := dm_fin (w := w) (B := w4.heap.size) (rb := W1.heap.size) (tb := w4.heap.size) (k := k) (n := n) (ks := ks) (vs := vs) BW.out S2.out Q2.out TB.out R1k.out R2.out Hg.out ⟨hs1.out, HRB.out, (Nat.le_refl _)⟩
                obtain ⟨⟨p0, p1⟩, p2, p3⟩ := row_four HD.out.sbx
                have HS5 := And.intro p0 (And.intro p1 (And.intro p2 p3)))
             | (have TB : Hid (w2.heap[w1.heap.size]? = some (.cells dz 39)) := keepB b2.out (newA _ rfl)
                obtain ⟨F1, F2, F3, F4, hF1, hF2, hF3, hF4, ⟨⟨f0, f1⟩, ⟨f2, f3⟩, ⟨f4, f5⟩, ⟨f6, f7⟩⟩, HD⟩ := dm_fin (w := w) (B := w4.heap.size) (rb := W1.heap.size) (tb := w1.heap.size) (k := k) (n := n) (ks := ks) (vs := vs) BW.out S2.out Q2.out TB.out R1k.out R2.out Hg.out ⟨hs1.out, HRB.out, (le_at (W := w4) B1.out)⟩
                obtain ⟨⟨p0, p1⟩, p2, p3⟩ := row_four HD.out.sbx
                have HS5 := And.intro p0 (And.intro p1 (And.intro p2 p3)))
             | (obtain ⟨V3, hV3, b3, -, TB⟩ := cells_new w2 dz 39
                have B3 : Hid (Below w4.heap.size w4 V3) := stepB B2.out b3.out
                obtain ⟨F1, F2, F3, F4, hF1, hF2, hF3, hF4, ⟨⟨f0, f1⟩, ⟨f2, f3⟩, ⟨f4, f5⟩, ⟨f6, f7⟩⟩, HD⟩ := dm_fin (w := w) (B := w4.heap.size) (rb := W1.heap.size) (tb := w2.heap.size) (k := k) (n := n) (ks := ks) (vs := vs) (stepB BW.out b3.out) (keepB b3.out S2.out) (keepB b3.out Q2.out) TB.out (row_kept R1k.out b3.out) (row_kept R2.out b3.out) Hg.out ⟨hs1.out, HRB.out, (le_at (W := w4) B2.out)⟩
                obtain ⟨⟨p0, p1⟩, p2, p3⟩ := row_four HD.out.sbx
                have HS5 := And.intro p0 (And.intro p1 (And.intro p2 p3)))))
    all_goals
      go_wp2_with fail
      go_meet
      case rel => exact ⟨_, _, _, _, _, rfl, HD⟩
  case rest =>
    obtain ⟨tb, g1, g2, c1, c2, rfl, HD⟩ := hcut
    clear s0 s1 s2 s3 t0 t1 t2 t3 HS4 Sx0 Sx1 Sx2 Sx3 Sbx Rbx Sb2 Rb2 Ha
    obtain ⟨⟨t0, t1⟩, t2, t3⟩ := row_four HD.out.sbx
    obtain ⟨⟨q0, q1⟩, q2, q3⟩ := row_four HD.out.tbx
    have Ho := Lib.hid HD.out.ord
    obtain ⟨V1, hV1⟩ : ∃ V, wc.setCell ⟨tb, 1, none⟩ (.int .i64 val) = V := ⟨_, rfl⟩
    have qf := frozen_of_row _ _ 1 _ _ HD.out.tbx
    have TX : Hid (V1.heap[tb]? = some (.cells (dcs k (val) (.slice (some ⟨g1, 0, none⟩) ks.length c1) (.slice (some ⟨g2, 0, none⟩) vs.length c2)) 39)) := by
      have h := heap_setCell_same wc tb 1 _ _ (.int .i64 val) HD.out.tbx
      rw [hV1] at h; exact h
    have RX : Hid (V1.heap[W1.heap.size]? = some (.cells dz 39)) := by have h := keepS (V := wc) (r := tb) (o := 1) (v := .int .i64 val) (by have := Ho.out; omega) HD.out.rbx; rw [hV1] at h; exact h
    have IX : Hid ((IAt V1 (some ⟨g1, 0, none⟩) ks ∧ IAt V1 (some ⟨g2, 0, none⟩) vs) ∧ Below w.heap.size w V1) := by
      have h := dm_iat HD.out
      subst hV1
      exact ⟨⟨iat_other h.1.1 (fun o e => h.2.2.2.2.1 (by cases e; rfl)), iat_other h.1.2 (fun o e => h.2.2.2.2.2 (by cases e; rfl))⟩, HD.out.below.setCell (p := ⟨tb, 1, none⟩) (by show _ ≤ tb; have := Ho.out; omega) _⟩
    obtain ⟨⟨r0, r1⟩, r2, r3⟩ := row_four TX.out
    obtain ⟨F1, F2, F3, F4, hF1, hF2, hF3, hF4, ⟨⟨f0, e0⟩, ⟨f1, e1⟩, ⟨f2, e2⟩, ⟨f3, e3⟩⟩, HF, HE⟩ := mapped_box (w := w) (V := V1) (.int .i64 k) (.int .i64 val) (.slice (some ⟨g1, 0, none⟩) ks.length c1) (.slice (some ⟨g2, 0, none⟩) vs.length c2) RX.out (Nat.le_of_lt Ho.out.1)
    go_wp2_with fail
    refine bodyPost_ret (results_row_tmp3 rfl _ _ W1.heap.size 39 _ (0, 0) _ rfl HF.out Tryz.underlying39 rfl (by kernel_rfl)) rfl ?_
    exact dv_end HE.out IX.out.2 IX.out.1.1 IX.out.1.2 (dm_iat HD.out).2.2.1 (dm_iat HD.out).2.2.2.1 (fun e => by cases e) (fun e => by cases e) (dm_iat HD.out).2.1.1 (dm_iat HD.out).2.1.2 (dm_ge HD.out).1 (dm_ge HD.out).2

set_option maxRecDepth 100000 in
set_option maxHeartbeats 4000000 in
theorem rdo_add (k n val : Int) (hk0 : k ≠ 0) (hn : near n 1000000000000000) (ks vs : List Int) (ka va : Option Addr) (kc vc : Nat) (hops : rargs k n 3 0 val = 0) (w : World) (hka : IAt w ka ks) (hva : IAt w va vs) (hsk : ks.length ≤ 100000) (hsv : vs.length ≤ 100000) (hsum : IntKind.i64.wrap (n + val) = n + val) :
    Calls Tryz.prog 58 #[dv k n ka ks.length kc va vs.length vc, .int .i64 3, .int .i64 0, .int .i64 val] w (DvRes w.heap.size k (n + val) ks vs 1 0 w) := by
  obtain ⟨W1, W2, hW1, hW2, Hb, hs1, Sb2, Rb2⟩ := two_box w (dcs k n (.slice ka ks.length kc) (.slice va vs.length vc)) dz
  have Ha := Lib.hid (rargs_any k n hk0 hn (.slice ka ks.length kc) (.slice va vs.length vc) 3 0 val W2)
  rw [hops] at Ha
  obtain ⟨⟨s0, s1⟩, s2, s3⟩ := row_four Sb2.out
  have Hka := Lib.hid hka
  have Hva := Lib.hid hva
  clear hka hva
  go_enter Tryz.func58, Tryz.ntmps58
  go_wp2_with (first
    | (go_at_call 78; (with_reducible refine Ha.out.mono ?_); rintro e w4 ⟨rfl, h4⟩
       have B4 : Hid (Below w.heap.size w w4) := stepB Hb.out h4.out
       have Sbx := Lib.hid (keepB h4.out Sb2.out)
       have Rbx := Lib.hid (keepB h4.out Rb2.out)
       obtain ⟨⟨t0, t1⟩, t2, t3⟩ := row_four Sbx.out
       have Sx0 := Lib.hid t0
       have Sx1 := Lib.hid t1
       have Sx2 := Lib.hid t2
       have Sx3 := Lib.hid t3
       have HS4 := And.intro t0 (And.intro t1 (And.intro t2 t3))
       have HRB : Hid (W1.heap.size < w4.heap.size) := (Array.getElem?_eq_some_iff.1 Rbx.out).1
       have Hka4 := Lib.hid (Hka.out.below B4.out)
       have Hva4 := Lib.hid (Hva.out.below B4.out)
       have Hw4s : Hid (w.heap.size < w4.heap.size) := (Array.getElem?_eq_some_iff.1 Sbx.out).1))
  go_cut [13] from 14 (fun s13 w' => ∃ tb g1 g2 c1 c2, s13 = .pointer (some ⟨tb, 0, none⟩) ∧ Hid (Dm w w4.heap.size W1.heap.size tb (dcs k n (.slice ka ks.length kc) (.slice va vs.length vc)) k n g1 g2 c1 c2 ks vs w'))
  case first =>
    go_region_held3 (fun w' => w'.cell? ⟨w.heap.size, 0, none⟩ = some (.int .i64 k) ∧ w'.cell? ⟨w.heap.size, 1, none⟩ = some (.int .i64 n) ∧ w'.cell? ⟨w.heap.size, 2, none⟩ = some (.slice ka ks.length kc) ∧ w'.cell? ⟨w.heap.size, 3, none⟩ = some (.slice va vs.length vc)) ((first | (refine ⟨?_, ?_, ?_, ?_⟩; all_goals (first | (refine cellB (n := w4.heap.size) ?_ Hw4s.out Sx0.out; (repeat (first | (with_reducible exact B3.out) | (with_reducible exact B2.out) | (with_reducible exact B1.out) | (with_reducible exact Below.refl _ _) | (with_reducible refine stepD ?_) | (with_reducible refine stepA ?_ _))); done) | (refine cellB (n := w4.heap.size) ?_ Hw4s.out Sx1.out; (repeat (first | (with_reducible exact B3.out) | (with_reducible exact B2.out) | (with_reducible exact B1.out) | (with_reducible exact Below.refl _ _) | (with_reducible refine stepD ?_) | (with_reducible refine stepA ?_ _))); done) | (refine cellB (n := w4.heap.size) ?_ Hw4s.out Sx2.out; (repeat (first | (with_reducible exact B3.out) | (with_reducible exact B2.out) | (with_reducible exact B1.out) | (with_reducible exact Below.refl _ _) | (with_reducible refine stepD ?_) | (with_reducible refine stepA ?_ _))); done) | (refine cellB (n := w4.heap.size) ?_ Hw4s.out Sx3.out; (repeat (first | (with_reducible exact B3.out) | (with_reducible exact B2.out) | (with_reducible exact B1.out) | (with_reducible exact Below.refl _ _) | (with_reducible refine stepD ?_) | (with_reducible refine stepA ?_ _))); done))) | (with_reducible exact HS4) | (with_reducible exact HS5)))
      (first
        | (go_at_call 21; (with_reducible refine (ints2 ka ks.length kc ks rfl (by omega) _ (iat_at Hka4.out (by (repeat (first | (with_reducible exact B1.out) | (with_reducible exact Below.refl _ _) | (with_reducible refine stepD ?_) | (with_reducible refine stepA ?_ _)))))).mono ?_); rintro e w1 ⟨g1, c1, rfl, h1⟩
           have b1 := Lib.hid h1.out.2
           have B1 : Hid (Below w4.heap.size w4 w1) := stepB (by (repeat (first | (with_reducible exact B1.out) | (with_reducible exact Below.refl _ _) | (with_reducible refine stepD ?_) | (with_reducible refine stepA ?_ _)))) b1.out
           have R1 := Lib.hid (row_base h1.out.1 (le_at (W := w4) (by (repeat (first | (with_reducible exact B1.out) | (with_reducible exact Below.refl _ _) | (with_reducible refine stepD ?_) | (with_reducible refine stepA ?_ _))))))
           first
             | have TA : Hid (w1.heap[w4.heap.size]? = some (.cells dz 39)) := keepB b1.out (newA _ rfl)
             | have TN := Lib.hid trivial
           clear h1)
        | (go_at_call 21; (with_reducible refine (ints2 va vs.length vc vs rfl (by omega) _ (iat_at Hva4.out (by (repeat (first | (with_reducible exact B1.out) | (with_reducible exact Below.refl _ _) | (with_reducible refine stepD ?_) | (with_reducible refine stepA ?_ _)))))).mono ?_); rintro e w2 ⟨g2, c2, rfl, h2⟩
           have b2 := Lib.hid h2.out.2
           have B2 : Hid (Below w4.heap.size w4 w2) := stepB (by (repeat (first | (with_reducible exact B1.out) | (with_reducible exact Below.refl _ _) | (with_reducible refine stepD ?_) | (with_reducible refine stepA ?_ _)))) b2.out
           have R2 := Lib.hid (row_base h2.out.1 (le_at (W := w4) (by (repeat (first | (with_reducible exact B1.out) | (with_reducible exact Below.refl _ _) | (with_reducible refine stepD ?_) | (with_reducible refine stepA ?_ _))))))
           have R1k := Lib.hid (row_kept (by first | exact R1.out | exact R1.out.alloc _) b2.out)
           have Hg : Hid (g1 ≠ g2) := by
             obtain ⟨q1, _⟩ := row_heap h2.out.1
             obtain ⟨_, cur, q2⟩ := row_heap R1.out
             have q3 := (Array.getElem?_eq_some_iff.1 q2).1
             have q4 : w1.heap.size ≤ g2 := Nat.le_trans (by first | exact Nat.le_refl _ | simp) q1
             show _ ≠ _
             omega
           have S2 := Lib.hid (keepB B2.out Sbx.out)
           have Q2 := Lib.hid (keepB B2.out Rbx.out)
           have BW := Lib.hid (stepB B4.out B2.out)
           first
             | (have TB := Lib.hid (keepB b2.out TA.out)
                obtain ⟨F1, F2, F3, F4, hF1, hF2, hF3, hF4, ⟨⟨f0, f1⟩, ⟨f2, f3⟩, ⟨f4, f5⟩, ⟨f6, f7⟩⟩, HD⟩ := dm_fin (w := w) (B := w4.heap.size) (rb := W1.heap.size) (tb := w4.heap.size) (k := k) (n := n) (ks := ks) (vs := vs) BW.out S2.out Q2.out TB.out R1k.out R2.out Hg.out ⟨hs1.out, HRB.out, (Nat.le_refl _)⟩
                obtain ⟨⟨p0, p1⟩, p2, p3⟩ := row_four HD.out.sbx
                have HS5 := And.intro p0 (And.intro p1 (And.intro p2 p3)))
             | (have TB : Hid (w2.heap[w1.heap.size]? = some (.cells dz 39)) := keepB b2.out (newA _ rfl)
                obtain ⟨F1, F2, F3, F4, hF1, hF2, hF3, hF4, ⟨⟨f0, f1⟩, ⟨f2, f3⟩, ⟨f4, f5⟩, ⟨f6, f7⟩⟩, HD⟩ := dm_fin (w := w) (B := w4.heap.size) (rb := W1.heap.size) (tb := w1.heap.size) (k := k) (n := n) (ks := ks) (vs := vs) BW.out S2.out Q2.out TB.out R1k.out R2.out Hg.out ⟨hs1.out, HRB.out, (le_at (W := w4) B1.out)⟩
                obtain ⟨⟨p0, p1⟩, p2, p3⟩ := row_four HD.out.sbx
                have HS5 := And.intro p0 (And.intro p1 (And.intro p2 p3)))
             | (obtain ⟨V3, hV3, b3, -, TB⟩ := cells_new w2 dz 39
                have B3 : Hid (Below w4.heap.size w4 V3) := stepB B2.out b3.out
                obtain ⟨F1, F2, F3, F4, hF1, hF2, hF3, hF4, ⟨⟨f0, f1⟩, ⟨f2, f3⟩, ⟨f4, f5⟩, ⟨f6, f7⟩⟩, HD⟩ := dm_fin (w := w) (B := w4.heap.size) (rb := W1.heap.size) (tb := w2.heap.size) (k := k) (n := n) (ks := ks) (vs := vs) (stepB BW.out b3.out) (keepB b3.out S2.out) (keepB b3.out Q2.out) TB.out (row_kept R1k.out b3.out) (row_kept R2.out b3.out) Hg.out ⟨hs1.out, HRB.out, (le_at (W := w4) B2.out)⟩
                obtain ⟨⟨p0, p1⟩, p2, p3⟩ := row_four HD.out.sbx
                have HS5 := And.intro p0 (And.intro p1 (And.intro p2 p3)))))
    all_goals
      go_wp2_with fail
      go_meet
      case rel => exact ⟨_, _, _, _, _, rfl, HD⟩
  case rest =>
    obtain ⟨tb, g1, g2, c1, c2, rfl, HD⟩ := hcut
    clear s0 s1 s2 s3 t0 t1 t2 t3 HS4 Sx0 Sx1 Sx2 Sx3 Sbx Rbx Sb2 Rb2 Ha
    obtain ⟨⟨t0, t1⟩, t2, t3⟩ := row_four HD.out.sbx
    obtain ⟨⟨q0, q1⟩, q2, q3⟩ := row_four HD.out.tbx
    have Ho := Lib.hid HD.out.ord
    have hwr : IntKind.i64.wrap (n + val) = n + val := hsum
    obtain ⟨V1, hV1⟩ : ∃ V, wc.setCell ⟨tb, 1, none⟩ (.int .i64 (n + val)) = V := ⟨_, rfl⟩
    have qf := frozen_of_row _ _ 1 _ _ HD.out.tbx
    have TX : Hid (V1.heap[tb]? = some (.cells (dcs k (n + val) (.slice (some ⟨g1, 0, none⟩) ks.length c1) (.slice (some ⟨g2, 0, none⟩) vs.length c2)) 39)) := by
      have h := heap_setCell_same wc tb 1 _ _ (.int .i64 (n + val)) HD.out.tbx
      rw [hV1] at h; exact h
    have RX : Hid (V1.heap[W1.heap.size]? = some (.cells dz 39)) := by have h := keepS (V := wc) (r := tb) (o := 1) (v := .int .i64 (n + val)) (by have := Ho.out; omega) HD.out.rbx; rw [hV1] at h; exact h
    have IX : Hid ((IAt V1 (some ⟨g1, 0, none⟩) ks ∧ IAt V1 (some ⟨g2, 0, none⟩) vs) ∧ Below w.heap.size w V1) := by
      have h := dm_iat HD.out
      subst hV1
      exact ⟨⟨iat_other h.1.1 (fun o e => h.2.2.2.2.1 (by cases e; rfl)), iat_other h.1.2 (fun o e => h.2.2.2.2.2 (by cases e; rfl))⟩, HD.out.below.setCell (p := ⟨tb, 1, none⟩) (by show _ ≤ tb; have := Ho.out; omega) _⟩
    obtain ⟨⟨r0, r1⟩, r2, r3⟩ := row_four TX.out
    obtain ⟨F1, F2, F3, F4, hF1, hF2, hF3, hF4, ⟨⟨f0, e0⟩, ⟨f1, e1⟩, ⟨f2, e2⟩, ⟨f3, e3⟩⟩, HF, HE⟩ := mapped_box (w := w) (V := V1) (.int .i64 k) (.int .i64 (n + val)) (.slice (some ⟨g1, 0, none⟩) ks.length c1) (.slice (some ⟨g2, 0, none⟩) vs.length c2) RX.out (Nat.le_of_lt Ho.out.1)
    go_wp2_with fail
    refine bodyPost_ret (results_row_tmp3 rfl _ _ W1.heap.size 39 _ (0, 0) _ rfl HF.out Tryz.underlying39 rfl (by kernel_rfl)) rfl ?_
    exact dv_end HE.out IX.out.2 IX.out.1.1 IX.out.1.2 (dm_iat HD.out).2.2.1 (dm_iat HD.out).2.2.2.1 (fun e => by cases e) (fun e => by cases e) (dm_iat HD.out).2.1.1 (dm_iat HD.out).2.1.2 (dm_ge HD.out).1 (dm_ge HD.out).2
end Go.Proofs.YtcjfcomadcebnaaGreatDoor

/- Do of the document's states: put behind. -/
namespace Go.Proofs.YtcjfcomadcebnaaGreatDoor
open Go.RowKit Go.Maps Go.WideMaps Go.WideElems Go.ChangeShapes Go.WideShapes
variable {T : TypeId} {er : Nat → Addr}

set_option maxRecDepth 100000 in
set_option maxHeartbeats 4000000 in
theorem rdo_enq (k n val : Int) (hk0 : k ≠ 0) (hn : near n 1000000000000000) (ks vs : List Int) (ka va : Option Addr) (kc vc : Nat) (hops : rargs k n 5 0 val = 0) (w : World) (hka : IAt w ka ks) (hva : IAt w va vs) (hsk : ks.length ≤ 100000) (hsv : vs.length ≤ 100000) :
    Calls Tryz.prog 58 #[dv k n ka ks.length kc va vs.length vc, .int .i64 5, .int .i64 0, .int .i64 val] w (DvRes w.heap.size k n ks (vs ++ [val]) 1 0 w) := by
  obtain ⟨W1, W2, hW1, hW2, Hb, hs1, Sb2, Rb2⟩ := two_box w (dcs k n (.slice ka ks.length kc) (.slice va vs.length vc)) dz
  have Ha := Lib.hid (rargs_any k n hk0 hn (.slice ka ks.length kc) (.slice va vs.length vc) 5 0 val W2)
  rw [hops] at Ha
  obtain ⟨⟨s0, s1⟩, s2, s3⟩ := row_four Sb2.out
  have Hka := Lib.hid hka
  have Hva := Lib.hid hva
  clear hka hva
  go_enter Tryz.func58, Tryz.ntmps58
  go_wp2_with (first
    | (go_at_call 78; (with_reducible refine Ha.out.mono ?_); rintro e w4 ⟨rfl, h4⟩
       have B4 : Hid (Below w.heap.size w w4) := stepB Hb.out h4.out
       have Sbx := Lib.hid (keepB h4.out Sb2.out)
       have Rbx := Lib.hid (keepB h4.out Rb2.out)
       obtain ⟨⟨t0, t1⟩, t2, t3⟩ := row_four Sbx.out
       have Sx0 := Lib.hid t0
       have Sx1 := Lib.hid t1
       have Sx2 := Lib.hid t2
       have Sx3 := Lib.hid t3
       have HS4 := And.intro t0 (And.intro t1 (And.intro t2 t3))
       have HRB : Hid (W1.heap.size < w4.heap.size) := (Array.getElem?_eq_some_iff.1 Rbx.out).1
       have Hka4 := Lib.hid (Hka.out.below B4.out)
       have Hva4 := Lib.hid (Hva.out.below B4.out)
       have Hw4s : Hid (w.heap.size < w4.heap.size) := (Array.getElem?_eq_some_iff.1 Sbx.out).1))
  go_cut [13] from 14 (fun s13 w' => ∃ tb g1 g2 c1 c2, s13 = .pointer (some ⟨tb, 0, none⟩) ∧ Hid (Dm w w4.heap.size W1.heap.size tb (dcs k n (.slice ka ks.length kc) (.slice va vs.length vc)) k n g1 g2 c1 c2 ks vs w'))
  case first =>
    go_region_held3 (fun w' => w'.cell? ⟨w.heap.size, 0, none⟩ = some (.int .i64 k) ∧ w'.cell? ⟨w.heap.size, 1, none⟩ = some (.int .i64 n) ∧ w'.cell? ⟨w.heap.size, 2, none⟩ = some (.slice ka ks.length kc) ∧ w'.cell? ⟨w.heap.size, 3, none⟩ = some (.slice va vs.length vc)) ((first | (refine ⟨?_, ?_, ?_, ?_⟩; all_goals (first | (refine cellB (n := w4.heap.size) ?_ Hw4s.out Sx0.out; (repeat (first | (with_reducible exact B3.out) | (with_reducible exact B2.out) | (with_reducible exact B1.out) | (with_reducible exact Below.refl _ _) | (with_reducible refine stepD ?_) | (with_reducible refine stepA ?_ _))); done) | (refine cellB (n := w4.heap.size) ?_ Hw4s.out Sx1.out; (repeat (first | (with_reducible exact B3.out) | (with_reducible exact B2.out) | (with_reducible exact B1.out) | (with_reducible exact Below.refl _ _) | (with_reducible refine stepD ?_) | (with_reducible refine stepA ?_ _))); done) | (refine cellB (n := w4.heap.size) ?_ Hw4s.out Sx2.out; (repeat (first | (with_reducible exact B3.out) | (with_reducible exact B2.out) | (with_reducible exact B1.out) | (with_reducible exact Below.refl _ _) | (with_reducible refine stepD ?_) | (with_reducible refine stepA ?_ _))); done) | (refine cellB (n := w4.heap.size) ?_ Hw4s.out Sx3.out; (repeat (first | (with_reducible exact B3.out) | (with_reducible exact B2.out) | (with_reducible exact B1.out) | (with_reducible exact Below.refl _ _) | (with_reducible refine stepD ?_) | (with_reducible refine stepA ?_ _))); done))) | (with_reducible exact HS4) | (with_reducible exact HS5)))
      (first
        | (go_at_call 21; (with_reducible refine (ints2 ka ks.length kc ks rfl (by omega) _ (iat_at Hka4.out (by (repeat (first | (with_reducible exact B1.out) | (with_reducible exact Below.refl _ _) | (with_reducible refine stepD ?_) | (with_reducible refine stepA ?_ _)))))).mono ?_); rintro e w1 ⟨g1, c1, rfl, h1⟩
           have b1 := Lib.hid h1.out.2
           have B1 : Hid (Below w4.heap.size w4 w1) := stepB (by (repeat (first | (with_reducible exact B1.out) | (with_reducible exact Below.refl _ _) | (with_reducible refine stepD ?_) | (with_reducible refine stepA ?_ _)))) b1.out
           have R1 := Lib.hid (row_base h1.out.1 (le_at (W := w4) (by (repeat (first | (with_reducible exact B1.out) | (with_reducible exact Below.refl _ _) | (with_reducible refine stepD ?_) | (with_reducible refine stepA ?_ _))))))
           first
             | have TA : Hid (w1.heap[w4.heap.size]? = some (.cells dz 39)) := keepB b1.out (newA _ rfl)
             | have TN := Lib.hid trivial
           clear h1)
        | (go_at_call 21; (with_reducible refine (ints2 va vs.length vc vs rfl (by omega) _ (iat_at Hva4.out (by (repeat (first | (with_reducible exact B1.out) | (with_reducible exact Below.refl _ _) | (with_reducible refine stepD ?_) | (with_reducible refine stepA ?_ _)))))).mono ?_); rintro e w2 ⟨g2, c2, rfl, h2⟩
           have b2 := Lib.hid h2.out.2
           have B2 : Hid (Below w4.heap.size w4 w2) := stepB (by (repeat (first | (with_reducible exact B1.out) | (with_reducible exact Below.refl _ _) | (with_reducible refine stepD ?_) | (with_reducible refine stepA ?_ _)))) b2.out
           have R2 := Lib.hid (row_base h2.out.1 (le_at (W := w4) (by (repeat (first | (with_reducible exact B1.out) | (with_reducible exact Below.refl _ _) | (with_reducible refine stepD ?_) | (with_reducible refine stepA ?_ _))))))
           have R1k := Lib.hid (row_kept (by first | exact R1.out | exact R1.out.alloc _) b2.out)
           have Hg : Hid (g1 ≠ g2) := by
             obtain ⟨q1, _⟩ := row_heap h2.out.1
             obtain ⟨_, cur, q2⟩ := row_heap R1.out
             have q3 := (Array.getElem?_eq_some_iff.1 q2).1
             have q4 : w1.heap.size ≤ g2 := Nat.le_trans (by first | exact Nat.le_refl _ | simp) q1
             show _ ≠ _
             omega
           have S2 := Lib.hid (keepB B2.out Sbx.out)
           have Q2 := Lib.hid (keepB B2.out Rbx.out)
           have BW := Lib.hid (stepB B4.out B2.out)
           first
             | (have TB := Lib.hid (keepB b2.out TA.out)
                obtain ⟨F1, F2, F3, F4, hF1, hF2, hF3, hF4, ⟨⟨f0, f1⟩, ⟨f2, f3⟩, ⟨f4, f5⟩, ⟨f6, f7⟩⟩, HD⟩ := dm_fin (w := w) (B := w4.heap.size) (rb := W1.heap.size) (tb := w4.heap.size) (k := k) (n := n) (ks := ks) (vs := vs) BW.out S2.out Q2.out TB.out R1k.out R2.out Hg.out ⟨hs1.out, HRB.out, (Nat.le_refl _)⟩
                obtain ⟨⟨p0, p1⟩, p2, p3⟩ := row_four HD.out.sbx
                have HS5 := And.intro p0 (And.intro p1 (And.intro p2 p3)))
             | (have TB : Hid (w2.heap[w1.heap.size]? = some (.cells dz 39)) := keepB b2.out (newA _ rfl)
                obtain ⟨F1, F2, F3, F4, hF1, hF2, hF3, hF4, ⟨⟨f0, f1⟩, ⟨f2, f3⟩, ⟨f4, f5⟩, ⟨f6, f7⟩⟩, HD⟩ := dm_fin (w := w) (B := w4.heap.size) (rb := W1.heap.size) (tb := w1.heap.size) (k := k) (n := n) (ks := ks) (vs := vs) BW.out S2.out Q2.out TB.out R1k.out R2.out Hg.out ⟨hs1.out, HRB.out, (le_at (W := w4) B1.out)⟩
                obtain ⟨⟨p0, p1⟩, p2, p3⟩ := row_four HD.out.sbx
                have HS5 := And.intro p0 (And.intro p1 (And.intro p2 p3)))
             | (obtain ⟨V3, hV3, b3, -, TB⟩ := cells_new w2 dz 39
                have B3 : Hid (Below w4.heap.size w4 V3) := stepB B2.out b3.out
                obtain ⟨F1, F2, F3, F4, hF1, hF2, hF3, hF4, ⟨⟨f0, f1⟩, ⟨f2, f3⟩, ⟨f4, f5⟩, ⟨f6, f7⟩⟩, HD⟩ := dm_fin (w := w) (B := w4.heap.size) (rb := W1.heap.size) (tb := w2.heap.size) (k := k) (n := n) (ks := ks) (vs := vs) (stepB BW.out b3.out) (keepB b3.out S2.out) (keepB b3.out Q2.out) TB.out (row_kept R1k.out b3.out) (row_kept R2.out b3.out) Hg.out ⟨hs1.out, HRB.out, (le_at (W := w4) B2.out)⟩
                obtain ⟨⟨p0, p1⟩, p2, p3⟩ := row_four HD.out.sbx
                have HS5 := And.intro p0 (And.intro p1 (And.intro p2 p3)))))
    all_goals
      go_wp2_with fail
      go_meet
      case rel => exact ⟨_, _, _, _, _, rfl, HD⟩
  case rest =>
    obtain ⟨tb, g1, g2, c1, c2, rfl, HD⟩ := hcut
    clear s0 s1 s2 s3 t0 t1 t2 t3 HS4 Sx0 Sx1 Sx2 Sx3 Sbx Rbx Sb2 Rb2 Ha
    obtain ⟨⟨t0, t1⟩, t2, t3⟩ := row_four HD.out.sbx
    obtain ⟨⟨q0, q1⟩, q2, q3⟩ := row_four HD.out.tbx
    have Ho := Lib.hid HD.out.ord
    obtain ⟨i0, hi, hz0, hz1, hz2⟩ := info_parts elem3
    go_wp2_with (first
        | (at_builtin; refine wpList_append_own _ rfl _ _ 37 rfl w4.heap.size 3 i0 (.int .i64 0) 1 8 Tryz.underlying37 hi hz0 hz1 hz2 rfl (by decide) (.slice (some ⟨g2, 0, none⟩) vs.length c2) _ _ rfl (HD.out.vals.alloc _) ⟨wc.heap.size, 0, none⟩ 1 1 [.int .i64 val] rfl rfl (cell_one_new _ _ _) (by intro u hu; simp at hu; subst hu; rfl) (by unfold maxLen; omega) (by omega) (by show _ ≤ _; have h1 := Ho.out; have h2 := (Array.getElem?_eq_some_iff.1 HD.out.tbx).1; simp; omega) ?_
           intro v5 w5 hown hgrow _
           have hgb : (some g2 : Option Nat) ≠ some tb := fun e => (dm_iat HD.out).2.2.2.2.2 (by injection e)
           have T5 := Lib.hid (keepG hgrow (by simpa [Value.ownBlock] using (dm_iat HD.out).2.2.2.2.2) (keepA _ HD.out.tbx))
           have Q5 := Lib.hid (keepG hgrow (fun e => (dm_iat HD.out).2.2.2.1 0 (by have e2 : g2 = W1.heap.size := (by simpa [Value.ownBlock] using e); rw [e2])) (keepA _ HD.out.rbx))
           have K5 := Lib.hid ((HD.out.keys.alloc _).kept hgrow (.inr (by simpa [Value.ownBlock] using HD.out.ne)))
           have B5 : Hid (Below w.heap.size w w5) := (stepA HD.out.below _).grown hgrow (stepA HD.out.below _).size (fun j e => by have e2 : g2 = j := (by simpa [Value.ownBlock] using e); have h1 := (row_heap HD.out.vals).1; have h2 := Ho.out; omega)
           obtain ⟨a5, c5, rfl, -, -⟩ := row_sl hown
           have R5 : Hid (w5.ownsRow w4.heap.size 3 1 (.slice a5 (vs.length + 1) c5) (vs.length + 1) ((vs ++ [val]).map (Value.int .i64))) := by show World.ownsRow _ _ _ _ _ _ _; rw [List.map_append]; exact hown
           clear hown hgrow
           obtain ⟨V1, hV1⟩ : ∃ V, w5.setCell ⟨tb, 3, none⟩ (.slice a5 (vs.length + 1) c5) = V := ⟨_, rfl⟩
           have TX : Hid (V1.heap[tb]? = some (.cells (dcs k n (.slice (some ⟨g1, 0, none⟩) ks.length c1) (.slice a5 (vs.length + 1) c5)) 39)) := by
             have h := heap_setCell_same w5 tb 3 _ _ (.slice a5 (vs.length + 1) c5) T5.out
             rw [hV1] at h; exact h
           have RX : Hid (V1.heap[W1.heap.size]? = some (.cells dz 39)) := by have h := keepS (V := w5) (r := tb) (o := 3) (v := .slice a5 (vs.length + 1) c5) (by have := Ho.out; omega) Q5.out; rw [hV1] at h; exact h
           have RK : Hid (V1.ownsRow w4.heap.size 3 1 (.slice (some ⟨g1, 0, none⟩) ks.length c1) ks.length (ks.map (Value.int .i64))) := by have h := ownsRow_setCell_other K5.out (a := ⟨tb, 3, none⟩) (own_ne K5.out T5.out) (.slice a5 (vs.length + 1) c5); rw [hV1] at h; exact h
           have RV := Lib.hid (ownsRow_setCell_other R5.out (a := ⟨tb, 3, none⟩) (own_ne R5.out T5.out) (.slice a5 (vs.length + 1) c5))
           rw [hV1] at RV
           have BX : Hid (Below w.heap.size w V1) := by show Below _ _ _; rw [← hV1]; exact B5.out.setCell (p := ⟨tb, 3, none⟩) (by show _ ≤ tb; have := Ho.out; omega) _
           have qf := frozen_of_row _ _ 3 _ _ T5.out
           obtain ⟨⟨u0, u1⟩, u2, u3⟩ := row_four T5.out
           obtain ⟨⟨r0, r1⟩, r2, r3⟩ := row_four TX.out
           obtain ⟨F1, F2, F3, F4, hF1, hF2, hF3, hF4, ⟨⟨f0, e0⟩, ⟨f1, e1⟩, ⟨f2, e2⟩, ⟨f3, e3⟩⟩, HF, HE⟩ := mapped_box (w := w) (V := V1) (.int .i64 k) (.int .i64 n) (.slice (some ⟨g1, 0, none⟩) ks.length c1) (.slice a5 (vs.length + 1) c5) RX.out (Nat.le_of_lt Ho.out.1)))
    refine bodyPost_ret (results_row_tmp3 rfl _ _ W1.heap.size 39 _ (0, 0) _ rfl HF.out Tryz.underlying39 rfl (by kernel_rfl)) rfl ?_
    exact dv_rows HE.out BX.out RK.out RV.out RX.out rfl (by simp) (Nat.le_of_lt Hw4s.out) (Nat.le_of_lt Hw4s.out)
end Go.Proofs.YtcjfcomadcebnaaGreatDoor

/- Do of the document's states: nothing there to take. -/
namespace Go.Proofs.YtcjfcomadcebnaaGreatDoor
open Go.RowKit Go.Maps Go.WideMaps Go.WideElems Go.ChangeShapes Go.WideShapes
variable {T : TypeId} {er : Nat → Addr}

set_option maxRecDepth 100000 in
set_option maxHeartbeats 4000000 in
theorem rdo_none (k n : Int) (hk0 : k ≠ 0) (hn : near n 1000000000000000) (ks vs : List Int) (ka va : Option Addr) (kc vc : Nat) (hops : rargs k n 6 0 0 = 0) (w : World) (hka : IAt w ka ks) (hva : IAt w va vs) (hsk : ks.length ≤ 100000) (hsv : vs.length ≤ 100000) (hv0 : vs = []) :
    Calls Tryz.prog 58 #[dv k n ka ks.length kc va vs.length vc, .int .i64 6, .int .i64 0, .int .i64 0] w (DvRes w.heap.size k n ks vs 2 0 w) := by
  have Hl0 : Hid (vs.length = 0) := by show _ = _; rw [hv0]; rfl
  clear hv0
  obtain ⟨W1, W2, hW1, hW2, Hb, hs1, Sb2, Rb2⟩ := two_box w (dcs k n (.slice ka ks.length kc) (.slice va vs.length vc)) dz
  have Ha := Lib.hid (rargs_any k n hk0 hn (.slice ka ks.length kc) (.slice va vs.length vc) 6 0 0 W2)
  rw [hops] at Ha
  obtain ⟨⟨s0, s1⟩, s2, s3⟩ := row_four Sb2.out
  have Hka := Lib.hid hka
  have Hva := Lib.hid hva
  clear hka hva
  go_enter Tryz.func58, Tryz.ntmps58
  go_wp2_with (first
    | (go_at_call 78; (with_reducible refine Ha.out.mono ?_); rintro e w4 ⟨rfl, h4⟩
       have B4 : Hid (Below w.heap.size w w4) := stepB Hb.out h4.out
       have Sbx := Lib.hid (keepB h4.out Sb2.out)
       have Rbx := Lib.hid (keepB h4.out Rb2.out)
       obtain ⟨⟨t0, t1⟩, t2, t3⟩ := row_four Sbx.out
       have Sx0 := Lib.hid t0
       have Sx1 := Lib.hid t1
       have Sx2 := Lib.hid t2
       have Sx3 := Lib.hid t3
       have HS4 := And.intro t0 (And.intro t1 (And.intro t2 t3))
       have HRB : Hid (W1.heap.size < w4.heap.size) := (Array.getElem?_eq_some_iff.1 Rbx.out).1
       have Hka4 := Lib.hid (Hka.out.below B4.out)
       have Hva4 := Lib.hid (Hva.out.below B4.out)
       have Hw4s : Hid (w.heap.size < w4.heap.size) := (Array.getElem?_eq_some_iff.1 Sbx.out).1))
  go_cut [13] from 14 (fun s13 w' => ∃ tb g1 g2 c1 c2, s13 = .pointer (some ⟨tb, 0, none⟩) ∧ Hid (Dm w w4.heap.size W1.heap.size tb (dcs k n (.slice ka ks.length kc) (.slice va vs.length vc)) k n g1 g2 c1 c2 ks vs w'))
  case first =>
    go_region_held3 (fun w' => w'.cell? ⟨w.heap.size, 0, none⟩ = some (.int .i64 k) ∧ w'.cell? ⟨w.heap.size, 1, none⟩ = some (.int .i64 n) ∧ w'.cell? ⟨w.heap.size, 2, none⟩ = some (.slice ka ks.length kc) ∧ w'.cell? ⟨w.heap.size, 3, none⟩ = some (.slice va vs.length vc)) ((first | (refine ⟨?_, ?_, ?_, ?_⟩; all_goals (first | (refine cellB (n := w4.heap.size) ?_ Hw4s.out Sx0.out; (repeat (first | (with_reducible exact B3.out) | (with_reducible exact B2.out) | (with_reducible exact B1.out) | (with_reducible exact Below.refl _ _) | (with_reducible refine stepD ?_) | (with_reducible refine stepA ?_ _))); done) | (refine cellB (n := w4.heap.size) ?_ Hw4s.out Sx1.out; (repeat (first | (with_reducible exact B3.out) | (with_reducible exact B2.out) | (with_reducible exact B1.out) | (with_reducible exact Below.refl _ _) | (with_reducible refine stepD ?_) | (with_reducible refine stepA ?_ _))); done) | (refine cellB (n := w4.heap.size) ?_ Hw4s.out Sx2.out; (repeat (first | (with_reducible exact B3.out) | (with_reducible exact B2.out) | (with_reducible exact B1.out) | (with_reducible exact Below.refl _ _) | (with_reducible refine stepD ?_) | (with_reducible refine stepA ?_ _))); done) | (refine cellB (n := w4.heap.size) ?_ Hw4s.out Sx3.out; (repeat (first | (with_reducible exact B3.out) | (with_reducible exact B2.out) | (with_reducible exact B1.out) | (with_reducible exact Below.refl _ _) | (with_reducible refine stepD ?_) | (with_reducible refine stepA ?_ _))); done))) | (with_reducible exact HS4) | (with_reducible exact HS5)))
      (first
        | (go_at_call 21; (with_reducible refine (ints2 ka ks.length kc ks rfl (by omega) _ (iat_at Hka4.out (by (repeat (first | (with_reducible exact B1.out) | (with_reducible exact Below.refl _ _) | (with_reducible refine stepD ?_) | (with_reducible refine stepA ?_ _)))))).mono ?_); rintro e w1 ⟨g1, c1, rfl, h1⟩
           have b1 := Lib.hid h1.out.2
           have B1 : Hid (Below w4.heap.size w4 w1) := stepB (by (repeat (first | (with_reducible exact B1.out) | (with_reducible exact Below.refl _ _) | (with_reducible refine stepD ?_) | (with_reducible refine stepA ?_ _)))) b1.out
           have R1 := Lib.hid (row_base h1.out.1 (le_at (W := w4) (by (repeat (first | (with_reducible exact B1.out) | (with_reducible exact Below.refl _ _) | (with_reducible refine stepD ?_) | (with_reducible refine stepA ?_ _))))))
           first
             | have TA : Hid (w1.heap[w4.heap.size]? = some (.cells dz 39)) := keepB b1.out (newA _ rfl)
             | have TN := Lib.hid trivial
           clear h1)
        | (go_at_call 21; (with_reducible refine (ints2 va vs.length vc vs rfl (by omega) _ (iat_at Hva4.out (by (repeat (first | (with_reducible exact B1.out) | (with_reducible exact Below.refl _ _) | (with_reducible refine stepD ?_) | (with_reducible refine stepA ?_ _)))))).mono ?_); rintro e w2 ⟨g2, c2, rfl, h2⟩
           have b2 := Lib.hid h2.out.2
           have B2 : Hid (Below w4.heap.size w4 w2) := stepB (by (repeat (first | (with_reducible exact B1.out) | (with_reducible exact Below.refl _ _) | (with_reducible refine stepD ?_) | (with_reducible refine stepA ?_ _)))) b2.out
           have R2 := Lib.hid (row_base h2.out.1 (le_at (W := w4) (by (repeat (first | (with_reducible exact B1.out) | (with_reducible exact Below.refl _ _) | (with_reducible refine stepD ?_) | (with_reducible refine stepA ?_ _))))))
           have R1k := Lib.hid (row_kept (by first | exact R1.out | exact R1.out.alloc _) b2.out)
           have Hg : Hid (g1 ≠ g2) := by
             obtain ⟨q1, _⟩ := row_heap h2.out.1
             obtain ⟨_, cur, q2⟩ := row_heap R1.out
             have q3 := (Array.getElem?_eq_some_iff.1 q2).1
             have q4 : w1.heap.size ≤ g2 := Nat.le_trans (by first | exact Nat.le_refl _ | simp) q1
             show _ ≠ _
             omega
           have S2 := Lib.hid (keepB B2.out Sbx.out)
           have Q2 := Lib.hid (keepB B2.out Rbx.out)
           have BW := Lib.hid (stepB B4.out B2.out)
           first
             | (have TB := Lib.hid (keepB b2.out TA.out)
                obtain ⟨F1, F2, F3, F4, hF1, hF2, hF3, hF4, ⟨⟨f0, f1⟩, ⟨f2, f3⟩, ⟨f4, f5⟩, ⟨f6, f7⟩⟩, HD⟩ := dm_fin (w := w) (B := w4.heap.size) (rb := W1.heap.size) (tb := w4.heap.size) (k := k) (n := n) (ks := ks) (vs := vs) BW.out S2.out Q2.out TB.out R1k.out R2.out Hg.out ⟨hs1.out, HRB.out, (Nat.le_refl _)⟩
                obtain ⟨⟨p0, p1⟩, p2, p3⟩ := row_four HD.out.sbx
                have HS5 := And.intro p0 (And.intro p1 (And.intro p2 p3)))
             | (have TB : Hid (w2.heap[w1.heap.size]? = some (.cells dz 39)) := keepB b2.out (newA _ rfl)
                obtain ⟨F1, F2, F3, F4, hF1, hF2, hF3, hF4, ⟨⟨f0, f1⟩, ⟨f2, f3⟩, ⟨f4, f5⟩, ⟨f6, f7⟩⟩, HD⟩ := dm_fin (w := w) (B := w4.heap.size) (rb := W1.heap.size) (tb := w1.heap.size) (k := k) (n := n) (ks := ks) (vs := vs) BW.out S2.out Q2.out TB.out R1k.out R2.out Hg.out ⟨hs1.out, HRB.out, (le_at (W := w4) B1.out)⟩
                obtain ⟨⟨p0, p1⟩, p2, p3⟩ := row_four HD.out.sbx
                have HS5 := And.intro p0 (And.intro p1 (And.intro p2 p3)))
             | (obtain ⟨V3, hV3, b3, -, TB⟩ := cells_new w2 dz 39
                have B3 : Hid (Below w4.heap.size w4 V3) := stepB B2.out b3.out
                obtain ⟨F1, F2, F3, F4, hF1, hF2, hF3, hF4, ⟨⟨f0, f1⟩, ⟨f2, f3⟩, ⟨f4, f5⟩, ⟨f6, f7⟩⟩, HD⟩ := dm_fin (w := w) (B := w4.heap.size) (rb := W1.heap.size) (tb := w2.heap.size) (k := k) (n := n) (ks := ks) (vs := vs) (stepB BW.out b3.out) (keepB b3.out S2.out) (keepB b3.out Q2.out) TB.out (row_kept R1k.out b3.out) (row_kept R2.out b3.out) Hg.out ⟨hs1.out, HRB.out, (le_at (W := w4) B2.out)⟩
                obtain ⟨⟨p0, p1⟩, p2, p3⟩ := row_four HD.out.sbx
                have HS5 := And.intro p0 (And.intro p1 (And.intro p2 p3)))))
    all_goals
      go_wp2_with fail
      go_meet
      case rel => exact ⟨_, _, _, _, _, rfl, HD⟩
  case rest =>
    obtain ⟨tb, g1, g2, c1, c2, rfl, HD⟩ := hcut
    clear s0 s1 s2 s3 t0 t1 t2 t3 HS4 Sx0 Sx1 Sx2 Sx3 Sbx Rbx Sb2 Rb2 Ha
    obtain ⟨⟨t0, t1⟩, t2, t3⟩ := row_four HD.out.sbx
    obtain ⟨⟨q0, q1⟩, q2, q3⟩ := row_four HD.out.tbx
    have Ho := Lib.hid HD.out.ord
    rw [Hl0.out] at t3 q3 ⊢
    obtain ⟨F1, F2, F3, F4, hF1, hF2, hF3, hF4, ⟨⟨f0, e0⟩, ⟨f1, e1⟩, ⟨f2, e2⟩, ⟨f3, e3⟩⟩, HF, HE⟩ := mapped_box (w := w) (V := wc) (.int .i64 k) (.int .i64 n) (.slice (some ⟨g1, 0, none⟩) ks.length c1) (.slice (some ⟨g2, 0, none⟩) 0 c2) HD.out.rbx (Nat.le_of_lt Ho.out.1)
    go_wp2_with fail
    refine bodyPost_ret (results_row_tmp3 rfl _ _ W1.heap.size 39 _ (0, 0) _ rfl HF.out Tryz.underlying39 rfl (by kernel_rfl)) rfl ?_
    exact dv_rows HE.out HD.out.below HD.out.keys (by have h := HD.out.vals; rw [Hl0.out] at h; exact h) HD.out.rbx rfl Hl0.out (Nat.le_of_lt Hw4s.out) (Nat.le_of_lt Hw4s.out)
end Go.Proofs.YtcjfcomadcebnaaGreatDoor

/- Do of the document's states: taken from the front. -/
namespace Go.Proofs.YtcjfcomadcebnaaGreatDoor
open Go.RowKit Go.Maps Go.WideMaps Go.WideElems Go.ChangeShapes Go.WideShapes
variable {T : TypeId} {er : Nat → Addr}

set_option maxRecDepth 100000 in
set_option maxHeartbeats 4000000 in
theorem rdo_deq (k n x : Int) (hk0 : k ≠ 0) (hn : near n 1000000000000000) (ks vs : List Int) (ka va : Option Addr) (kc vc : Nat) (hops : rargs k n 6 0 0 = 0) (w : World) (hka : IAt w ka ks) (hva : IAt w va vs) (hsk : ks.length ≤ 100000) (hsv : vs.length ≤ 100000) (xs : List Int) (hv0 : vs = x :: xs) (hlv : vs.length ≤ vc) :
    Calls Tryz.prog 58 #[dv k n ka ks.length kc va vs.length vc, .int .i64 6, .int .i64 0, .int .i64 0] w (DvRes w.heap.size k n ks xs 3 x w) := by
  have Hlx : Hid (xs.length + 1 = vs.length) := by show _ = _; rw [hv0]; rfl
  have Hlv := Lib.hid hlv
  obtain ⟨AV2, hAV2⟩ : ∃ A2, (if vc = 1 then va else Option.map (fun x => ({ block := x.block, off := x.off + 1 } : Addr)) va) = A2 := ⟨_, rfl⟩
  have eA : (fun x : Addr => x.add 1) = (fun x => ({ block := x.block, off := x.off + 1 } : Addr)) := by funext x; simp [Addr.add]
  have Hxs : Hid (IAt w AV2 xs) := by
    have h := iat_drop (i := 1) (c := vc) hva (by have := Hlx.out; omega) hlv
    rw [hv0, eA, hAV2] at h; exact h
  obtain ⟨vb, vo, HVA, HVC⟩ : ∃ b o, Hid (va = some ⟨b, o, none⟩) ∧ Hid (w.cell? ⟨b, o, none⟩ = some (.int .i64 x)) := by
    rcases hva with h | ⟨b, o, e, hc⟩
    · rw [hv0] at h; cases h
    · refine ⟨b, o, e, ?_⟩
      have h9 := hc 0 (by rw [hv0]; simp)
      rw [hv0] at h9
      exact h9
  clear hv0 eA hlv
  obtain ⟨W1, W2, hW1, hW2, Hb, hs1, Sb2, Rb2⟩ := two_box w (dcs k n (.slice ka ks.length kc) (.slice va vs.length vc)) dz
  have Ha := Lib.hid (rargs_any k n hk0 hn (.slice ka ks.length kc) (.slice va vs.length vc) 6 0 0 W2)
  rw [hops] at Ha
  obtain ⟨⟨s0, s1⟩, s2, s3⟩ := row_four Sb2.out
  have Hka := Lib.hid hka
  have Hva := Lib.hid hva
  clear hka hva
  go_enter Tryz.func58, Tryz.ntmps58
  go_wp2_with (first
    | (go_at_call 78; (with_reducible refine Ha.out.mono ?_); rintro e w4 ⟨rfl, h4⟩
       have B4 : Hid (Below w.heap.size w w4) := stepB Hb.out h4.out
       have Sbx := Lib.hid (keepB h4.out Sb2.out)
       have Rbx := Lib.hid (keepB h4.out Rb2.out)
       obtain ⟨⟨t0, t1⟩, t2, t3⟩ := row_four Sbx.out
       have Sx0 := Lib.hid t0
       have Sx1 := Lib.hid t1
       have Sx2 := Lib.hid t2
       have Sx3 := Lib.hid t3
       have HS4 := And.intro t0 (And.intro t1 (And.intro t2 t3))
       have HRB : Hid (W1.heap.size < w4.heap.size) := (Array.getElem?_eq_some_iff.1 Rbx.out).1
       have Hka4 := Lib.hid (Hka.out.below B4.out)
       have Hva4 := Lib.hid (Hva.out.below B4.out)
       have Hw4s : Hid (w.heap.size < w4.heap.size) := (Array.getElem?_eq_some_iff.1 Sbx.out).1))
  go_cut [13] from 14 (fun s13 w' => ∃ tb g1 g2 c1 c2, s13 = .pointer (some ⟨tb, 0, none⟩) ∧ Hid (Dm w w4.heap.size W1.heap.size tb (dcs k n (.slice ka ks.length kc) (.slice va vs.length vc)) k n g1 g2 c1 c2 ks vs w'))
  case first =>
    go_region_held3 (fun w' => w'.cell? ⟨w.heap.size, 0, none⟩ = some (.int .i64 k) ∧ w'.cell? ⟨w.heap.size, 1, none⟩ = some (.int .i64 n) ∧ w'.cell? ⟨w.heap.size, 2, none⟩ = some (.slice ka ks.length kc) ∧ w'.cell? ⟨w.heap.size, 3, none⟩ = some (.slice va vs.length vc)) ((first | (refine ⟨?_, ?_, ?_, ?_⟩; all_goals (first | (refine cellB (n := w4.heap.size) ?_ Hw4s.out Sx0.out; (repeat (first | (with_reducible exact B3.out) | (with_reducible exact B2.out) | (with_reducible exact B1.out) | (with_reducible exact Below.refl _ _) | (with_reducible refine stepD ?_) | (with_reducible refine stepA ?_ _))); done) | (refine cellB (n := w4.heap.size) ?_ Hw4s.out Sx1.out; (repeat (first | (with_reducible exact B3.out) | (with_reducible exact B2.out) | (with_reducible exact B1.out) | (with_reducible exact Below.refl _ _) | (with_reducible refine stepD ?_) | (with_reducible refine stepA ?_ _))); done) | (refine cellB (n := w4.heap.size) ?_ Hw4s.out Sx2.out; (repeat (first | (with_reducible exact B3.out) | (with_reducible exact B2.out) | (with_reducible exact B1.out) | (with_reducible exact Below.refl _ _) | (with_reducible refine stepD ?_) | (with_reducible refine stepA ?_ _))); done) | (refine cellB (n := w4.heap.size) ?_ Hw4s.out Sx3.out; (repeat (first | (with_reducible exact B3.out) | (with_reducible exact B2.out) | (with_reducible exact B1.out) | (with_reducible exact Below.refl _ _) | (with_reducible refine stepD ?_) | (with_reducible refine stepA ?_ _))); done))) | (with_reducible exact HS4) | (with_reducible exact HS5)))
      (first
        | (go_at_call 21; (with_reducible refine (ints2 ka ks.length kc ks rfl (by omega) _ (iat_at Hka4.out (by (repeat (first | (with_reducible exact B1.out) | (with_reducible exact Below.refl _ _) | (with_reducible refine stepD ?_) | (with_reducible refine stepA ?_ _)))))).mono ?_); rintro e w1 ⟨g1, c1, rfl, h1⟩
           have b1 := Lib.hid h1.out.2
           have B1 : Hid (Below w4.heap.size w4 w1) := stepB (by (repeat (first | (with_reducible exact B1.out) | (with_reducible exact Below.refl _ _) | (with_reducible refine stepD ?_) | (with_reducible refine stepA ?_ _)))) b1.out
           have R1 := Lib.hid (row_base h1.out.1 (le_at (W := w4) (by (repeat (first | (with_reducible exact B1.out) | (with_reducible exact Below.refl _ _) | (with_reducible refine stepD ?_) | (with_reducible refine stepA ?_ _))))))
           first
             | have TA : Hid (w1.heap[w4.heap.size]? = some (.cells dz 39)) := keepB b1.out (newA _ rfl)
             | have TN := Lib.hid trivial
           clear h1)
        | (go_at_call 21; (with_reducible refine (ints2 va vs.length vc vs rfl (by omega) _ (iat_at Hva4.out (by (repeat (first | (with_reducible exact B1.out) | (with_reducible exact Below.refl _ _) | (with_reducible refine stepD ?_) | (with_reducible refine stepA ?_ _)))))).mono ?_); rintro e w2 ⟨g2, c2, rfl, h2⟩
           have b2 := Lib.hid h2.out.2
           have B2 : Hid (Below w4.heap.size w4 w2) := stepB (by (repeat (first | (with_reducible exact B1.out) | (with_reducible exact Below.refl _ _) | (with_reducible refine stepD ?_) | (with_reducible refine stepA ?_ _)))) b2.out
           have R2 := Lib.hid (row_base h2.out.1 (le_at (W := w4) (by (repeat (first | (with_reducible exact B1.out) | (with_reducible exact Below.refl _ _) | (with_reducible refine stepD ?_) | (with_reducible refine stepA ?_ _))))))
           have R1k := Lib.hid (row_kept (by first | exact R1.out | exact R1.out.alloc _) b2.out)
           have Hg : Hid (g1 ≠ g2) := by
             obtain ⟨q1, _⟩ := row_heap h2.out.1
             obtain ⟨_, cur, q2⟩ := row_heap R1.out
             have q3 := (Array.getElem?_eq_some_iff.1 q2).1
             have q4 : w1.heap.size ≤ g2 := Nat.le_trans (by first | exact Nat.le_refl _ | simp) q1
             show _ ≠ _
             omega
           have S2 := Lib.hid (keepB B2.out Sbx.out)
           have Q2 := Lib.hid (keepB B2.out Rbx.out)
           have BW := Lib.hid (stepB B4.out B2.out)
           first
             | (have TB := Lib.hid (keepB b2.out TA.out)
                obtain ⟨F1, F2, F3, F4, hF1, hF2, hF3, hF4, ⟨⟨f0, f1⟩, ⟨f2, f3⟩, ⟨f4, f5⟩, ⟨f6, f7⟩⟩, HD⟩ := dm_fin (w := w) (B := w4.heap.size) (rb := W1.heap.size) (tb := w4.heap.size) (k := k) (n := n) (ks := ks) (vs := vs) BW.out S2.out Q2.out TB.out R1k.out R2.out Hg.out ⟨hs1.out, HRB.out, (Nat.le_refl _)⟩
                obtain ⟨⟨p0, p1⟩, p2, p3⟩ := row_four HD.out.sbx
                have HS5 := And.intro p0 (And.intro p1 (And.intro p2 p3)))
             | (have TB : Hid (w2.heap[w1.heap.size]? = some (.cells dz 39)) := keepB b2.out (newA _ rfl)
                obtain ⟨F1, F2, F3, F4, hF1, hF2, hF3, hF4, ⟨⟨f0, f1⟩, ⟨f2, f3⟩, ⟨f4, f5⟩, ⟨f6, f7⟩⟩, HD⟩ := dm_fin (w := w) (B := w4.heap.size) (rb := W1.heap.size) (tb := w1.heap.size) (k := k) (n := n) (ks := ks) (vs := vs) BW.out S2.out Q2.out TB.out R1k.out R2.out Hg.out ⟨hs1.out, HRB.out, (le_at (W := w4) B1.out)⟩
                obtain ⟨⟨p0, p1⟩, p2, p3⟩ := row_four HD.out.sbx
                have HS5 := And.intro p0 (And.intro p1 (And.intro p2 p3)))
             | (obtain ⟨V3, hV3, b3, -, TB⟩ := cells_new w2 dz 39
                have B3 : Hid (Below w4.heap.size w4 V3) := stepB B2.out b3.out
                obtain ⟨F1, F2, F3, F4, hF1, hF2, hF3, hF4, ⟨⟨f0, f1⟩, ⟨f2, f3⟩, ⟨f4, f5⟩, ⟨f6, f7⟩⟩, HD⟩ := dm_fin (w := w) (B := w4.heap.size) (rb := W1.heap.size) (tb := w2.heap.size) (k := k) (n := n) (ks := ks) (vs := vs) (stepB BW.out b3.out) (keepB b3.out S2.out) (keepB b3.out Q2.out) TB.out (row_kept R1k.out b3.out) (row_kept R2.out b3.out) Hg.out ⟨hs1.out, HRB.out, (le_at (W := w4) B2.out)⟩
                obtain ⟨⟨p0, p1⟩, p2, p3⟩ := row_four HD.out.sbx
                have HS5 := And.intro p0 (And.intro p1 (And.intro p2 p3)))))
    all_goals
      go_wp2_with fail
      go_meet
      case rel => exact ⟨_, _, _, _, _, rfl, HD⟩
  case rest =>
    obtain ⟨tb, g1, g2, c1, c2, rfl, HD⟩ := hcut
    clear s0 s1 s2 s3 t0 t1 t2 t3 HS4 Sx0 Sx1 Sx2 Sx3 Sbx Rbx Sb2 Rb2 Ha
    obtain ⟨⟨t0, t1⟩, t2, t3⟩ := row_four HD.out.sbx
    obtain ⟨⟨q0, q1⟩, q2, q3⟩ := row_four HD.out.tbx
    have Ho := Lib.hid HD.out.ord
    obtain ⟨nv, hnv⟩ : ∃ m, vs.length = m := ⟨_, rfl⟩
    rw [hnv] at t3 q3 ⊢
    have hsv2 : nv ≤ 100000 := by rw [← hnv]; exact hsv
    have Hnx : Hid (xs.length = nv - 1) := by show _ = _; have := Hlx.out; omega
    have hn1 : (1 : Int) ≤ (nv : Int) := by have := Hlx.out; omega
    have hn0 : ((nv : Int) == 0) = false := by simp; omega
    have hnc : (nv : Int) ≤ (vc : Int) := by have := Hlv.out; omega
    have hc1 : (1 : Int) ≤ (vc : Int) := by omega
    have Hnv := Lib.hid hnv
    clear hnv
    have Hxw := Lib.hid (Hxs.out.below HD.out.below)
    go_wp2_with (first
        | (go_at_call 21; (with_reducible refine (ints2 AV2 (nv - 1) (vc - 1) xs Hnx.out (by omega) _ Hxw.out).mono ?_); rintro e w5 ⟨g5, c5, rfl, h5⟩
           have T5 := Lib.hid (keepB h5.out.2 HD.out.tbx)
           have Q5 := Lib.hid (keepB h5.out.2 HD.out.rbx)
           have K5 := Lib.hid (row_kept HD.out.keys h5.out.2)
           have B5 : Hid (Below w.heap.size w w5) := stepB HD.out.below h5.out.2
           have R5 := Lib.hid h5.out.1
           obtain ⟨V1, hV1⟩ : ∃ V, w5.setCell ⟨tb, 3, none⟩ (.slice (some ⟨g5, 0, none⟩) (nv - 1) c5) = V := ⟨_, rfl⟩
           have TX : Hid (V1.heap[tb]? = some (.cells (dcs k n (.slice (some ⟨g1, 0, none⟩) ks.length c1) (.slice (some ⟨g5, 0, none⟩) (nv - 1) c5)) 39)) := by
             have h := heap_setCell_same w5 tb 3 _ _ (.slice (some ⟨g5, 0, none⟩) (nv - 1) c5) T5.out
             rw [hV1] at h; exact h
           have RX : Hid (V1.heap[W1.heap.size]? = some (.cells dz 39)) := by have h := keepS (V := w5) (r := tb) (o := 3) (v := .slice (some ⟨g5, 0, none⟩) (nv - 1) c5) (by have := Ho.out; omega) Q5.out; rw [hV1] at h; exact h
           have RK : Hid (V1.ownsRow w4.heap.size 3 1 (.slice (some ⟨g1, 0, none⟩) ks.length c1) ks.length (ks.map (Value.int .i64))) := by have h := ownsRow_setCell_other K5.out (a := ⟨tb, 3, none⟩) (own_ne K5.out T5.out) (.slice (some ⟨g5, 0, none⟩) (nv - 1) c5); rw [hV1] at h; exact h
           have RV := Lib.hid (ownsRow_setCell_other R5.out (a := ⟨tb, 3, none⟩) (own_ne R5.out T5.out) (.slice (some ⟨g5, 0, none⟩) (nv - 1) c5))
           rw [hV1] at RV
           have BX : Hid (Below w.heap.size w V1) := by show Below _ _ _; rw [← hV1]; exact B5.out.setCell (p := ⟨tb, 3, none⟩) (by show _ ≤ tb; have := Ho.out; omega) _
           have qf := frozen_of_row _ _ 3 _ _ T5.out
           obtain ⟨⟨u0, u1⟩, u2, u3⟩ := row_four T5.out
           obtain ⟨⟨r0, r1⟩, r2, r3⟩ := row_four TX.out
           have SX : Hid (V1.heap[w.heap.size]? = some (.cells (dcs k n (.slice ka ks.length kc) (.slice va vs.length vc)) 39)) := by have h := keepS (V := w5) (r := tb) (o := 3) (v := .slice (some ⟨g5, 0, none⟩) (nv - 1) c5) (by have := Ho.out; omega) (keepB h5.out.2 HD.out.sbx); rw [hV1] at h; exact h
           clear h5))
    obtain ⟨F1, F2, F3, F4, hF1, hF2, hF3, hF4, ⟨⟨f0, e0⟩, ⟨f1, e1⟩, ⟨f2, e2⟩, ⟨f3, e3⟩⟩, HF, HE⟩ := mapped_box (w := w) (V := V1.drew) (.int .i64 k) (.int .i64 n) (.slice (some ⟨g1, 0, none⟩) ks.length c1) (.slice (some ⟨g5, 0, none⟩) (nv - 1) c5) RX.out (Nat.le_of_lt Ho.out.1)
    obtain ⟨⟨-, -⟩, -, y3⟩ := row_four SX.out
    rw [Hnv.out] at y3
    have hu := (BX.out.cell (p := ⟨vb, vo, none⟩) (World.block_lt_of_cell? w _ HVC.out)).trans HVC.out
    have hv1 : F4.cell? ⟨vb, vo, none⟩ = some (.int .i64 x) := HE.out.2 _ _ _ (Nat.ne_of_lt (Nat.lt_trans (World.block_lt_of_cell? w _ HVC.out) Ho.out.1)) hu
    have hv2 : F4.cell? ⟨w.heap.size, 3, none⟩ = some (.slice va nv vc) := HE.out.2 _ _ _ (Nat.ne_of_lt Ho.out.1) y3
    have hva := HVA.out
    rw [hva] at y3 hv2
    have hn9 : 0 < nv := by omega
    clear hva t3
    go_region_with (fail)
    all_goals
      go_wp2_with fail
      refine bodyPost_ret (results_row_tmp3 rfl _ _ W1.heap.size 39 _ (0, 0) _ rfl HF.out Tryz.underlying39 rfl (by kernel_rfl)) rfl ?_
      exact dv_rows HE.out BX.out.drew RK.out RV.out RX.out rfl Hnx.out (Nat.le_of_lt Hw4s.out) HD.out.below.size
end Go.Proofs.YtcjfcomadcebnaaGreatDoor
