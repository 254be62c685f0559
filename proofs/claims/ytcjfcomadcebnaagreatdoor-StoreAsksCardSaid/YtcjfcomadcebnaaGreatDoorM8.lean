/- Helpers, joined: Di, Dj, Ms, Dk, Ra, Pm, Rb, Rc. -/
import Derived.Test.YtcjfcomadcebnaaGreatDoorM4
import Derived.Test.YtcjfcomadcebnaaGreatDoorM5
import Derived.Test.YtcjfcomadcebnaaGreatDoorM6
import Derived.Test.YtcjfcomadcebnaaGreatDoorM7

/- Do of the document's states: maps. -/
namespace Go.Proofs.YtcjfcomadcebnaaGreatDoor
open Go.RowKit Go.Maps Go.WideMaps Go.WideElems Go.ChangeShapes Go.WideShapes
variable {T : TypeId} {er : Nat → Addr}

set_option maxRecDepth 100000 in
set_option maxHeartbeats 4000000 in
theorem rdo_map7 (k n key val : Int) (hk0 : k ≠ 0) (hn : near n 1000000000000000) (ks vs : List Int) (ka va : Option Addr) (kc vc : Nat) (hops : rargs k n 7 key val = 0) (w : World) (hka : IAt w ka ks) (hva : IAt w va vs) (hsk : ks.length ≤ 100000) (hsv : vs.length ≤ 100000) (ks2 vs2 : List Int) (ret got : Int) (hm : ∀ (W : World) (B g1 g2 c1 c2 : Nat), Below w.heap.size w W → B ≤ W.heap.size → W.ownsRow B 3 1 (.slice (some ⟨g1, 0, none⟩) ks.length c1) ks.length (ks.map (Value.int .i64)) → W.ownsRow B 3 1 (.slice (some ⟨g2, 0, none⟩) vs.length c2) vs.length (vs.map (Value.int .i64)) → g1 ≠ g2 → Calls Tryz.prog 79 #[dv k n ka ks.length kc va vs.length vc, dv k n (some ⟨g1, 0, none⟩) ks.length c1 (some ⟨g2, 0, none⟩) vs.length c2, .int .i64 7, .int .i64 key, .int .i64 val] W (DvRes B k n ks2 vs2 ret got W)) :
    Calls Tryz.prog 58 #[dv k n ka ks.length kc va vs.length vc, .int .i64 7, .int .i64 key, .int .i64 val] w (DvRes w.heap.size k n ks2 vs2 ret got w) := by
  have Hm := Lib.hid hm
  clear hm
  obtain ⟨W1, W2, hW1, hW2, Hb, hs1, Sb2, Rb2⟩ := two_box w (dcs k n (.slice ka ks.length kc) (.slice va vs.length vc)) dz
  have Ha := Lib.hid (rargs_any k n hk0 hn (.slice ka ks.length kc) (.slice va vs.length vc) 7 key val W2)
  rw [hops] at Ha
  obtain ⟨⟨s0, s1⟩, s2, s3⟩ := row_four Sb2.out
  have Hka := Lib.hid hka
  have Hva := Lib.hid hva
  clear hka hva
  go_enter Tryz.func58, Tryz.ntmps58
  go_wp2_with (first
    | (go_at_call 78; (with_reducible refine Ha.out.mono ?_); rintro e w4 ⟨rfl, h4⟩
       have B4 : Hid (Below w.heap.size w w4) := stepB Hb.out h4.out
       have Sbx := Lib.hid (keepB h4.out Sb2.out)
       have Rbx := Lib.hid (keepB h4.out Rb2.out)
       obtain ⟨⟨t0, t1⟩, t2, t3⟩ := row_four Sbx.out
       have Sx0 := Lib.hid t0
       have Sx1 := Lib.hid t1
       have Sx2 := Lib.hid t2
       have Sx3 := Lib.hid t3
       have HS4 := And.intro t0 (And.intro t1 (And.intro t2 t3))
       have HRB : Hid (W1.heap.size < w4.heap.size) := (Array.getElem?_eq_some_iff.1 Rbx.out).1
       have Hka4 := Lib.hid (Hka.out.below B4.out)
       have Hva4 := Lib.hid (Hva.out.below B4.out)
       have Hw4s : Hid (w.heap.size < w4.heap.size) := (Array.getElem?_eq_some_iff.1 Sbx.out).1))
  go_cut [13] from 14 (fun s13 w' => ∃ tb g1 g2 c1 c2, s13 = .pointer (some ⟨tb, 0, none⟩) ∧ Hid (Dm w w4.heap.size W1.heap.size tb (dcs k n (.slice ka ks.length kc) (.slice va vs.length vc)) k n g1 g2 c1 c2 ks vs w'))
  case first =>
    go_region_held3 (fun w' => w'.cell? ⟨w.heap.size, 0, none⟩ = some (.int .i64 k) ∧ w'.cell? ⟨w.heap.size, 1, none⟩ = some (.int .i64 n) ∧ w'.cell? ⟨w.heap.size, 2, none⟩ = some (.slice ka ks.length kc) ∧ w'.cell? ⟨w.heap.size, 3, none⟩ = some (.slice va vs.length vc)) ((first | (refine ⟨?_, ?_, ?_, ?_⟩; all_goals (first | (refine cellB (n := w4.heap.size) ?_ Hw4s.out Sx0.out; (repeat (first | (with_reducible exact B3.out) | (with_reducible exact B2.out) | (with_reducible exact B1.out) | (with_reducible exact Below.refl _ _) | (with_reducible refine stepD ?_) | (with_reducible refine stepA ?_ _))); done) | (refine cellB (n := w4.heap.size) ?_ Hw4s.out Sx1.out; (repeat (first | (with_reducible exact B3.out) | (with_reducible exact B2.out) | (with_reducible exact B1.out) | (with_reducible exact Below.refl _ _) | (with_reducible refine stepD ?_) | (with_reducible refine stepA ?_ _))); done) | (refine cellB (n := w4.heap.size) ?_ Hw4s.out Sx2.out; (repeat (first | (with_reducible exact B3.out) | (with_reducible exact B2.out) | (with_reducible exact B1.out) | (with_reducible exact Below.refl _ _) | (with_reducible refine stepD ?_) | (with_reducible refine stepA ?_ _))); done) | (refine cellB (n := w4.heap.size) ?_ Hw4s.out Sx3.out; (repeat (first | (with_reducible exact B3.out) | (with_reducible exact B2.out) | (with_reducible exact B1.out) | (with_reducible exact Below.refl _ _) | (with_reducible refine stepD ?_) | (with_reducible refine stepA ?_ _))); done))) | (with_reducible exact HS4) | (with_reducible exact HS5)))
      (first
        | (go_at_call 21; (with_reducible refine (ints2 ka ks.length kc ks rfl (by omega) _ (iat_at Hka4.out (by (repeat (first | (with_reducible exact B1.out) | (with_reducible exact Below.refl _ _) | (with_reducible refine stepD ?_) | (with_reducible refine stepA ?_ _)))))).mono ?_); rintro e w1 ⟨g1, c1, rfl, h1⟩
           have b1 := Lib.hid h1.out.2
           have B1 : Hid (Below w4.heap.size w4 w1) := stepB (by (repeat (first | (with_reducible exact B1.out) | (with_reducible exact Below.refl _ _) | (with_reducible refine stepD ?_) | (with_reducible refine stepA ?_ _)))) b1.out
           have R1 := Lib.hid (row_base h1.out.1 (le_at (W := w4) (by (repeat (first | (with_reducible exact B1.out) | (with_reducible exact Below.refl _ _) | (with_reducible refine stepD ?_) | (with_reducible refine stepA ?_ _))))))
           first
             | have TA : Hid (w1.heap[w4.heap.size]? = some (.cells dz 39)) := keepB b1.out (newA _ rfl)
             | have TN := Lib.hid trivial
           clear h1)
        | (go_at_call 21; (with_reducible refine (ints2 va vs.length vc vs rfl (by omega) _ (iat_at Hva4.out (by (repeat (first | (with_reducible exact B1.out) | (with_reducible exact Below.refl _ _) | (with_reducible refine stepD ?_) | (with_reducible refine stepA ?_ _)))))).mono ?_); rintro e w2 ⟨g2, c2, rfl, h2⟩
           have b2 := Lib.hid h2.out.2
           have B2 : Hid (Below w4.heap.size w4 w2) := stepB (by (repeat (first | (with_reducible exact B1.out) | (with_reducible exact Below.refl _ _) | (with_reducible refine stepD ?_) | (with_reducible refine stepA ?_ _)))) b2.out
           have R2 := Lib.hid (row_base h2.out.1 (le_at (W := w4) (by (repeat (first | (with_reducible exact B1.out) | (with_reducible exact Below.refl _ _) | (with_reducible refine stepD ?_) | (with_reducible refine stepA ?_ _))))))
           have R1k := Lib.hid (row_kept (by first | exact R1.out | exact R1.out.alloc _) b2.out)
           have Hg : Hid (g1 ≠ g2) := by
             obtain ⟨q1, _⟩ := row_heap h2.out.1
             obtain ⟨_, cur, q2⟩ := row_heap R1.out
             have q3 := (Array.getElem?_eq_some_iff.1 q2).1
             have q4 : w1.heap.size ≤ g2 := Nat.le_trans (by first | exact Nat.le_refl _ | simp) q1
             show _ ≠ _
             omega
           have S2 := Lib.hid (keepB B2.out Sbx.out)
           have Q2 := Lib.hid (keepB B2.out Rbx.out)
           have BW := Lib.hid (stepB B4.out B2.out)
           first
             | (have TB := Lib.hid (keepB b2.out TA.out)
                obtain ⟨F1, F2, F3, F4, hF1, hF2, hF3, hF4, ⟨⟨f0, f1⟩, ⟨f2, f3⟩, ⟨f4, f5⟩, ⟨f6, f7⟩⟩, HD⟩ := dm_fin (w := w) (B := w4.heap.size) (rb := W1.heap.size) (tb := w4.heap.size) (k := k) (n := n) (ks := ks) (vs := vs) BW.out S2.out Q2.out TB.out R1k.out R2.out Hg.out ⟨hs1.out, HRB.out, (Nat.le_refl _)⟩
                obtain ⟨⟨p0, p1⟩, p2, p3⟩ := row_four HD.out.sbx
                have HS5 := And.intro p0 (And.intro p1 (And.intro p2 p3)))
             | (have TB : Hid (w2.heap[w1.heap.size]? = some (.cells dz 39)) := keepB b2.out (newA _ rfl)
                obtain ⟨F1, F2, F3, F4, hF1, hF2, hF3, hF4, ⟨⟨f0, f1⟩, ⟨f2, f3⟩, ⟨f4, f5⟩, ⟨f6, f7⟩⟩, HD⟩ := dm_fin (w := w) (B := w4.heap.size) (rb := W1.heap.size) (tb := w1.heap.size) (k := k) (n := n) (ks := ks) (vs := vs) BW.out S2.out Q2.out TB.out R1k.out R2.out Hg.out ⟨hs1.out, HRB.out, (le_at (W := w4) B1.out)⟩
                obtain ⟨⟨p0, p1⟩, p2, p3⟩ := row_four HD.out.sbx
                have HS5 := And.intro p0 (And.intro p1 (And.intro p2 p3)))
             | (obtain ⟨V3, hV3, b3, -, TB⟩ := cells_new w2 dz 39
                have B3 : Hid (Below w4.heap.size w4 V3) := stepB B2.out b3.out
                obtain ⟨F1, F2, F3, F4, hF1, hF2, hF3, hF4, ⟨⟨f0, f1⟩, ⟨f2, f3⟩, ⟨f4, f5⟩, ⟨f6, f7⟩⟩, HD⟩ := dm_fin (w := w) (B := w4.heap.size) (rb := W1.heap.size) (tb := w2.heap.size) (k := k) (n := n) (ks := ks) (vs := vs) (stepB BW.out b3.out) (keepB b3.out S2.out) (keepB b3.out Q2.out) TB.out (row_kept R1k.out b3.out) (row_kept R2.out b3.out) Hg.out ⟨hs1.out, HRB.out, (le_at (W := w4) B2.out)⟩
                obtain ⟨⟨p0, p1⟩, p2, p3⟩ := row_four HD.out.sbx
                have HS5 := And.intro p0 (And.intro p1 (And.intro p2 p3)))))
    all_goals
      go_wp2_with fail
      go_meet
      case rel => exact ⟨_, _, _, _, _, rfl, HD⟩
  case rest =>
    obtain ⟨tb, g1, g2, c1, c2, rfl, HD⟩ := hcut
    clear s0 s1 s2 s3 t0 t1 t2 t3 HS4 Sx0 Sx1 Sx2 Sx3 Sbx Rbx Sb2 Rb2 Ha
    obtain ⟨⟨t0, t1⟩, t2, t3⟩ := row_four HD.out.sbx
    obtain ⟨⟨q0, q1⟩, q2, q3⟩ := row_four HD.out.tbx
    have Ho := Lib.hid HD.out.ord
    have h79 := Lib.hid (Hm.out wc w4.heap.size g1 g2 c1 c2 HD.out.below (Nat.le_trans Ho.out.2.2 (Nat.le_of_lt (Array.getElem?_eq_some_iff.1 HD.out.tbx).1)) HD.out.keys HD.out.vals HD.out.ne)
    go_wp2_with (first
        | (go_at_call 79; (with_reducible refine h79.out.mono ?_); rintro e w5 ⟨ka5, kc5, va5, vc5, rfl, h5⟩
           have R5 := Lib.hid ((h5.out.2.2.2.2.2.2.1.block _ Ho.out.2.1).trans HD.out.rbx)
           obtain ⟨F1, F2, F3, F4, hF1, hF2, hF3, hF4, ⟨⟨f0, e0⟩, ⟨f1, e1⟩, ⟨f2, e2⟩, ⟨f3, e3⟩⟩, HF, HE⟩ := mapped_box (w := w) (V := w5) (.int .i64 k) (.int .i64 n) (.slice ka5 ks2.length kc5) (.slice va5 vs2.length vc5) R5.out (Nat.le_of_lt Ho.out.1)))
    refine bodyPost_ret (results_row_tmp3 rfl _ _ W1.heap.size 39 _ (0, 0) _ rfl HF.out Tryz.underlying39 rfl (by kernel_rfl)) rfl ?_
    have hle : w.heap.size ≤ w4.heap.size := Nat.le_of_lt Hw4s.out
    obtain ⟨y1, y2, y3, y4, y5, y6, y7, y8, y9⟩ := h5.out
    exact dv_end HE.out (HD.out.below.trans (y7.mono hle)) y1 y2 (fun o e => absurd (y8 _ _ e) (Nat.not_le.2 Ho.out.2.1)) (fun o e => absurd (y9 _ _ e) (Nat.not_le.2 Ho.out.2.1)) y3 y4 y5 y6 (y8.mono hle) (y9.mono hle)

set_option maxRecDepth 100000 in
set_option maxHeartbeats 4000000 in
theorem rdo_map8 (k n key : Int) (hk0 : k ≠ 0) (hn : near n 1000000000000000) (ks vs : List Int) (ka va : Option Addr) (kc vc : Nat) (hops : rargs k n 8 key 0 = 0) (w : World) (hka : IAt w ka ks) (hva : IAt w va vs) (hsk : ks.length ≤ 100000) (hsv : vs.length ≤ 100000) (ks2 vs2 : List Int) (ret got : Int) (hm : ∀ (W : World) (B g1 g2 c1 c2 : Nat), Below w.heap.size w W → B ≤ W.heap.size → W.ownsRow B 3 1 (.slice (some ⟨g1, 0, none⟩) ks.length c1) ks.length (ks.map (Value.int .i64)) → W.ownsRow B 3 1 (.slice (some ⟨g2, 0, none⟩) vs.length c2) vs.length (vs.map (Value.int .i64)) → g1 ≠ g2 → Calls Tryz.prog 79 #[dv k n ka ks.length kc va vs.length vc, dv k n (some ⟨g1, 0, none⟩) ks.length c1 (some ⟨g2, 0, none⟩) vs.length c2, .int .i64 8, .int .i64 key, .int .i64 0] W (DvRes B k n ks2 vs2 ret got W)) :
    Calls Tryz.prog 58 #[dv k n ka ks.length kc va vs.length vc, .int .i64 8, .int .i64 key, .int .i64 0] w (DvRes w.heap.size k n ks2 vs2 ret got w) := by
  have Hm := Lib.hid hm
  clear hm
  obtain ⟨W1, W2, hW1, hW2, Hb, hs1, Sb2, Rb2⟩ := two_box w (dcs k n (.slice ka ks.length kc) (.slice va vs.length vc)) dz
  have Ha := Lib.hid (rargs_any k n hk0 hn (.slice ka ks.length kc) (.slice va vs.length vc) 8 key 0 W2)
  rw [hops] at Ha
  obtain ⟨⟨s0, s1⟩, s2, s3⟩ := row_four Sb2.out
  have Hka := Lib.hid hka
  have Hva := Lib.hid hva
  clear hka hva
  go_enter Tryz.func58, Tryz.ntmps58
  go_wp2_with (first
    | (go_at_call 78; (with_reducible refine Ha.out.mono ?_); rintro e w4 ⟨rfl, h4⟩
       have B4 : Hid (Below w.heap.size w w4) := stepB Hb.out h4.out
       have Sbx := Lib.hid (keepB h4.out Sb2.out)
       have Rbx := Lib.hid (keepB h4.out Rb2.out)
       obtain ⟨⟨t0, t1⟩, t2, t3⟩ := row_four Sbx.out
       have Sx0 := Lib.hid t0
       have Sx1 := Lib.hid t1
       have Sx2 := Lib.hid t2
       have Sx3 := Lib.hid t3
       have HS4 := And.intro t0 (And.intro t1 (And.intro t2 t3))
       have HRB : Hid (W1.heap.size < w4.heap.size) := (Array.getElem?_eq_some_iff.1 Rbx.out).1
       have Hka4 := Lib.hid (Hka.out.below B4.out)
       have Hva4 := Lib.hid (Hva.out.below B4.out)
       have Hw4s : Hid (w.heap.size < w4.heap.size) := (Array.getElem?_eq_some_iff.1 Sbx.out).1))
  go_cut [13] from 14 (fun s13 w' => ∃ tb g1 g2 c1 c2, s13 = .pointer (some ⟨tb, 0, none⟩) ∧ Hid (Dm w w4.heap.size W1.heap.size tb (dcs k n (.slice ka ks.length kc) (.slice va vs.length vc)) k n g1 g2 c1 c2 ks vs w'))
  case first =>
    go_region_held3 (fun w' => w'.cell? ⟨w.heap.size, 0, none⟩ = some (.int .i64 k) ∧ w'.cell? ⟨w.heap.size, 1, none⟩ = some (.int .i64 n) ∧ w'.cell? ⟨w.heap.size, 2, none⟩ = some (.slice ka ks.length kc) ∧ w'.cell? ⟨w.heap.size, 3, none⟩ = some (.slice va vs.length vc)) ((first | (refine ⟨?_, ?_, ?_, ?_⟩; all_goals (first | (refine cellB (n := w4.heap.size) ?_ Hw4s.out Sx0.out; (repeat (first | (with_reducible exact B3.out) | (with_reducible exact B2.out) | (with_reducible exact B1.out) | (with_reducible exact Below.refl _ _) | (with_reducible refine stepD ?_) | (with_reducible refine stepA ?_ _))); done) | (refine cellB (n := w4.heap.size) ?_ Hw4s.out Sx1.out; (repeat (first | (with_reducible exact B3.out) | (with_reducible exact B2.out) | (with_reducible exact B1.out) | (with_reducible exact Below.refl _ _) | (with_reducible refine stepD ?_) | (with_reducible refine stepA ?_ _))); done) | (refine cellB (n := w4.heap.size) ?_ Hw4s.out Sx2.out; (repeat (first | (with_reducible exact B3.out) | (with_reducible exact B2.out) | (with_reducible exact B1.out) | (with_reducible exact Below.refl _ _) | (with_reducible refine stepD ?_) | (with_reducible refine stepA ?_ _))); done) | (refine cellB (n := w4.heap.size) ?_ Hw4s.out Sx3.out; (repeat (first | (with_reducible exact B3.out) | (with_reducible exact B2.out) | (with_reducible exact B1.out) | (with_reducible exact Below.refl _ _) | (with_reducible refine stepD ?_) | (with_reducible refine stepA ?_ _))); done))) | (with_reducible exact HS4) | (with_reducible exact HS5)))
      (first
        | (go_at_call 21; (with_reducible refine (ints2 ka ks.length kc ks rfl (by omega) _ (iat_at Hka4.out (by (repeat (first | (with_reducible exact B1.out) | (with_reducible exact Below.refl _ _) | (with_reducible refine stepD ?_) | (with_reducible refine stepA ?_ _)))))).mono ?_); rintro e w1 ⟨g1, c1, rfl, h1⟩
           have b1 := Lib.hid h1.out.2
           have B1 : Hid (Below w4.heap.size w4 w1) := stepB (by (repeat (first | (with_reducible exact B1.out) | (with_reducible exact Below.refl _ _) | (with_reducible refine stepD ?_) | (with_reducible refine stepA ?_ _)))) b1.out
           have R1 := Lib.hid (row_base h1.out.1 (le_at (W := w4) (by (repeat (first | (with_reducible exact B1.out) | (with_reducible exact Below.refl _ _) | (with_reducible refine stepD ?_) | (with_reducible refine stepA ?_ _))))))
           first
             | have TA : Hid (w1.heap[w4.heap.size]? = some (.cells dz 39)) := keepB b1.out (newA _ rfl)
             | have TN := Lib.hid trivial
           clear h1)
        | (go_at_call 21; (with_reducible refine (ints2 va vs.length vc vs rfl (by omega) _ (iat_at Hva4.out (by (repeat (first | (with_reducible exact B1.out) | (with_reducible exact Below.refl _ _) | (with_reducible refine stepD ?_) | (with_reducible refine stepA ?_ _)))))).mono ?_); rintro e w2 ⟨g2, c2, rfl, h2⟩
           have b2 := Lib.hid h2.out.2
           have B2 : Hid (Below w4.heap.size w4 w2) := stepB (by (repeat (first | (with_reducible exact B1.out) | (with_reducible exact Below.refl _ _) | (with_reducible refine stepD ?_) | (with_reducible refine stepA ?_ _)))) b2.out
           have R2 := Lib.hid (row_base h2.out.1 (le_at (W := w4) (by (repeat (first | (with_reducible exact B1.out) | (with_reducible exact Below.refl _ _) | (with_reducible refine stepD ?_) | (with_reducible refine stepA ?_ _))))))
           have R1k := Lib.hid (row_kept (by first | exact R1.out | exact R1.out.alloc _) b2.out)
           have Hg : Hid (g1 ≠ g2) := by
             obtain ⟨q1, _⟩ := row_heap h2.out.1
             obtain ⟨_, cur, q2⟩ := row_heap R1.out
             have q3 := (Array.getElem?_eq_some_iff.1 q2).1
             have q4 : w1.heap.size ≤ g2 := Nat.le_trans (by first | exact Nat.le_refl _ | simp) q1
             show _ ≠ _
             omega
           have S2 := Lib.hid (keepB B2.out Sbx.out)
           have Q2 := Lib.hid (keepB B2.out Rbx.out)
           have BW := Lib.hid (stepB B4.out B2.out)
           first
             | (have TB := Lib.hid (keepB b2.out TA.out)
                obtain ⟨F1, F2, F3, F4, hF1, hF2, hF3, hF4, ⟨⟨f0, f1⟩, ⟨f2, f3⟩, ⟨f4, f5⟩, ⟨f6, f7⟩⟩, HD⟩ := dm_fin (w := w) (B := w4.heap.size) (rb := W1.heap.size) (tb := w4.heap.size) (k := k) (n := n) (ks := ks) (vs := vs) BW.out S2.out Q2.out TB.out R1k.out R2.out Hg.out ⟨hs1.out, HRB.out, (Nat.le_refl _)⟩
                obtain ⟨⟨p0, p1⟩, p2, p3⟩ := row_four HD.out.sbx
                have HS5 := And.intro p0 (And.intro p1 (And.intro p2 p3)))
             | (have TB : Hid (w2.heap[w1.heap.size]? = some (.cells dz 39)) := keepB b2.out (newA _ rfl)
                obtain ⟨F1, F2, F3, F4, hF1, hF2, hF3, hF4, ⟨⟨f0, f1⟩, ⟨f2, f3⟩, ⟨f4, f5⟩, ⟨f6, f7⟩⟩, HD⟩ := dm_fin (w := w) (B := w4.heap.size) (rb := W1.heap.size) (tb := w1.heap.size) (k := k) (n := n) (ks := ks) (vs := vs) BW.out S2.out Q2.out TB.out R1k.out R2.out Hg.out ⟨hs1.out, HRB.out, (le_at (W := w4) B1.out)⟩
                obtain ⟨⟨p0, p1⟩, p2, p3⟩ := row_four HD.out.sbx
                have HS5 := And.intro p0 (And.intro p1 (And.intro p2 p3)))
             | (obtain ⟨V3, hV3, b3, -, TB⟩ := cells_new w2 dz 39
                have B3 : Hid (Below w4.heap.size w4 V3) := stepB B2.out b3.out
                obtain ⟨F1, F2, F3, F4, hF1, hF2, hF3, hF4, ⟨⟨f0, f1⟩, ⟨f2, f3⟩, ⟨f4, f5⟩, ⟨f6, f7⟩⟩, HD⟩ := dm_fin (w := w) (B := w4.heap.size) (rb := W1.heap.size) (tb := w2.heap.size) (k := k) (n := n) (ks := ks) (vs := vs) (stepB BW.out b3.out) (keepB b3.out S2.out) (keepB b3.out Q2.out) TB.out (row_kept R1k.out b3.out) (row_kept R2.out b3.out) Hg.out ⟨hs1.out, HRB.out, (le_at (W := w4) B2.out)⟩
                obtain ⟨⟨p0, p1⟩, p2, p3⟩ := row_four HD.out.sbx
                have HS5 := And.intro p0 (And.intro p1 (And.intro p2 p3)))))
    all_goals
      go_wp2_with fail
      go_meet
      case rel => exact ⟨_, _, _, _, _, rfl, HD⟩
  case rest =>
    obtain ⟨tb, g1, g2, c1, c2, rfl, HD⟩ := hcut
    clear s0 s1 s2 s3 t0 t1 t2 t3 HS4 Sx0 Sx1 Sx2 Sx3 Sbx Rbx Sb2 Rb2 Ha
    obtain ⟨⟨t0, t1⟩, t2, t3⟩ := row_four HD.out.sbx
    obtain ⟨⟨q0, q1⟩, q2, q3⟩ := row_four HD.out.tbx
    have Ho := Lib.hid HD.out.ord
    have h79 := Lib.hid (Hm.out wc w4.heap.size g1 g2 c1 c2 HD.out.below (Nat.le_trans Ho.out.2.2 (Nat.le_of_lt (Array.getElem?_eq_some_iff.1 HD.out.tbx).1)) HD.out.keys HD.out.vals HD.out.ne)
    go_wp2_with (first
        | (go_at_call 79; (with_reducible refine h79.out.mono ?_); rintro e w5 ⟨ka5, kc5, va5, vc5, rfl, h5⟩
           have R5 := Lib.hid ((h5.out.2.2.2.2.2.2.1.block _ Ho.out.2.1).trans HD.out.rbx)
           obtain ⟨F1, F2, F3, F4, hF1, hF2, hF3, hF4, ⟨⟨f0, e0⟩, ⟨f1, e1⟩, ⟨f2, e2⟩, ⟨f3, e3⟩⟩, HF, HE⟩ := mapped_box (w := w) (V := w5) (.int .i64 k) (.int .i64 n) (.slice ka5 ks2.length kc5) (.slice va5 vs2.length vc5) R5.out (Nat.le_of_lt Ho.out.1)))
    refine bodyPost_ret (results_row_tmp3 rfl _ _ W1.heap.size 39 _ (0, 0) _ rfl HF.out Tryz.underlying39 rfl (by kernel_rfl)) rfl ?_
    have hle : w.heap.size ≤ w4.heap.size := Nat.le_of_lt Hw4s.out
    obtain ⟨y1, y2, y3, y4, y5, y6, y7, y8, y9⟩ := h5.out
    exact dv_end HE.out (HD.out.below.trans (y7.mono hle)) y1 y2 (fun o e => absurd (y8 _ _ e) (Nat.not_le.2 Ho.out.2.1)) (fun o e => absurd (y9 _ _ e) (Nat.not_le.2 Ho.out.2.1)) y3 y4 y5 y6 (y8.mono hle) (y9.mono hle)

set_option maxRecDepth 100000 in
set_option maxHeartbeats 4000000 in
theorem rdo_map9 (k n key : Int) (hk0 : k ≠ 0) (hn : near n 1000000000000000) (ks vs : List Int) (ka va : Option Addr) (kc vc : Nat) (hops : rargs k n 9 key 0 = 0) (w : World) (hka : IAt w ka ks) (hva : IAt w va vs) (hsk : ks.length ≤ 100000) (hsv : vs.length ≤ 100000) (ks2 vs2 : List Int) (ret got : Int) (hm : ∀ (W : World) (B g1 g2 c1 c2 : Nat), Below w.heap.size w W → B ≤ W.heap.size → W.ownsRow B 3 1 (.slice (some ⟨g1, 0, none⟩) ks.length c1) ks.length (ks.map (Value.int .i64)) → W.ownsRow B 3 1 (.slice (some ⟨g2, 0, none⟩) vs.length c2) vs.length (vs.map (Value.int .i64)) → g1 ≠ g2 → Calls Tryz.prog 79 #[dv k n ka ks.length kc va vs.length vc, dv k n (some ⟨g1, 0, none⟩) ks.length c1 (some ⟨g2, 0, none⟩) vs.length c2, .int .i64 9, .int .i64 key, .int .i64 0] W (DvRes B k n ks2 vs2 ret got W)) :
    Calls Tryz.prog 58 #[dv k n ka ks.length kc va vs.length vc, .int .i64 9, .int .i64 key, .int .i64 0] w (DvRes w.heap.size k n ks2 vs2 ret got w) := by
  have Hm := Lib.hid hm
  clear hm
  obtain ⟨W1, W2, hW1, hW2, Hb, hs1, Sb2, Rb2⟩ := two_box w (dcs k n (.slice ka ks.length kc) (.slice va vs.length vc)) dz
  have Ha := Lib.hid (rargs_any k n hk0 hn (.slice ka ks.length kc) (.slice va vs.length vc) 9 key 0 W2)
  rw [hops] at Ha
  obtain ⟨⟨s0, s1⟩, s2, s3⟩ := row_four Sb2.out
  have Hka := Lib.hid hka
  have Hva := Lib.hid hva
  clear hka hva
  go_enter Tryz.func58, Tryz.ntmps58
  go_wp2_with (first
    | (go_at_call 78; (with_reducible refine Ha.out.mono ?_); rintro e w4 ⟨rfl, h4⟩
       have B4 : Hid (Below w.heap.size w w4) := stepB Hb.out h4.out
       have Sbx := Lib.hid (keepB h4.out Sb2.out)
       have Rbx := Lib.hid (keepB h4.out Rb2.out)
       obtain ⟨⟨t0, t1⟩, t2, t3⟩ := row_four Sbx.out
       have Sx0 := Lib.hid t0
       have Sx1 := Lib.hid t1
       have Sx2 := Lib.hid t2
       have Sx3 := Lib.hid t3
       have HS4 := And.intro t0 (And.intro t1 (And.intro t2 t3))
       have HRB : Hid (W1.heap.size < w4.heap.size) := (Array.getElem?_eq_some_iff.1 Rbx.out).1
       have Hka4 := Lib.hid (Hka.out.below B4.out)
       have Hva4 := Lib.hid (Hva.out.below B4.out)
       have Hw4s : Hid (w.heap.size < w4.heap.size) := (Array.getElem?_eq_some_iff.1 Sbx.out).1))
  go_cut [13] from 14 (fun s13 w' => ∃ tb g1 g2 c1 c2, s13 = .pointer (some ⟨tb, 0, none⟩) ∧ Hid (Dm w w4.heap.size W1.heap.size tb (dcs k n (.slice ka ks.length kc) (.slice va vs.length vc)) k n g1 g2 c1 c2 ks vs w'))
  case first =>
    go_region_held3 (fun w' => w'.cell? ⟨w.heap.size, 0, none⟩ = some (.int .i64 k) ∧ w'.cell? ⟨w.heap.size, 1, none⟩ = some (.int .i64 n) ∧ w'.cell? ⟨w.heap.size, 2, none⟩ = some (.slice ka ks.length kc) ∧ w'.cell? ⟨w.heap.size, 3, none⟩ = some (.slice va vs.length vc)) ((first | (refine ⟨?_, ?_, ?_, ?_⟩; all_goals (first | (refine cellB (n := w4.heap.size) ?_ Hw4s.out Sx0.out; (repeat (first | (with_reducible exact B3.out) | (with_reducible exact B2.out) | (with_reducible exact B1.out) | (with_reducible exact Below.refl _ _) | (with_reducible refine stepD ?_) | (with_reducible refine stepA ?_ _))); done) | (refine cellB (n := w4.heap.size) ?_ Hw4s.out Sx1.out; (repeat (first | (with_reducible exact B3.out) | (with_reducible exact B2.out) | (with_reducible exact B1.out) | (with_reducible exact Below.refl _ _) | (with_reducible refine stepD ?_) | (with_reducible refine stepA ?_ _))); done) | (refine cellB (n := w4.heap.size) ?_ Hw4s.out Sx2.out; (repeat (first | (with_reducible exact B3.out) | (with_reducible exact B2.out) | (with_reducible exact B1.out) | (with_reducible exact Below.refl _ _) | (with_reducible refine stepD ?_) | (with_reducible refine stepA ?_ _))); done) | (refine cellB (n := w4.heap.size) ?_ Hw4s.out Sx3.out; (repeat (first | (with_reducible exact B3.out) | (with_reducible exact B2.out) | (with_reducible exact B1.out) | (with_reducible exact Below.refl _ _) | (with_reducible refine stepD ?_) | (with_reducible refine stepA ?_ _))); done))) | (with_reducible exact HS4) | (with_reducible exact HS5)))
      (first
        | (go_at_call 21; (with_reducible refine (ints2 ka ks.length kc ks rfl (by omega) _ (iat_at Hka4.out (by (repeat (first | (with_reducible exact B1.out) | (with_reducible exact Below.refl _ _) | (with_reducible refine stepD ?_) | (with_reducible refine stepA ?_ _)))))).mono ?_); rintro e w1 ⟨g1, c1, rfl, h1⟩
           have b1 := Lib.hid h1.out.2
           have B1 : Hid (Below w4.heap.size w4 w1) := stepB (by (repeat (first | (with_reducible exact B1.out) | (with_reducible exact Below.refl _ _) | (with_reducible refine stepD ?_) | (with_reducible refine stepA ?_ _)))) b1.out
           have R1 := Lib.hid (row_base h1.out.1 (le_at (W := w4) (by (repeat (first | (with_reducible exact B1.out) | (with_reducible exact Below.refl _ _) | (with_reducible refine stepD ?_) | (with_reducible refine stepA ?_ _))))))
           first
             | have TA : Hid (w1.heap[w4.heap.size]? = some (.cells dz 39)) := keepB b1.out (newA _ rfl)
             | have TN := Lib.hid trivial
           clear h1)
        | (go_at_call 21; (with_reducible refine (ints2 va vs.length vc vs rfl (by omega) _ (iat_at Hva4.out (by (repeat (first | (with_reducible exact B1.out) | (with_reducible exact Below.refl _ _) | (with_reducible refine stepD ?_) | (with_reducible refine stepA ?_ _)))))).mono ?_); rintro e w2 ⟨g2, c2, rfl, h2⟩
           have b2 := Lib.hid h2.out.2
           have B2 : Hid (Below w4.heap.size w4 w2) := stepB (by (repeat (first | (with_reducible exact B1.out) | (with_reducible exact Below.refl _ _) | (with_reducible refine stepD ?_) | (with_reducible refine stepA ?_ _)))) b2.out
           have R2 := Lib.hid (row_base h2.out.1 (le_at (W := w4) (by (repeat (first | (with_reducible exact B1.out) | (with_reducible exact Below.refl _ _) | (with_reducible refine stepD ?_) | (with_reducible refine stepA ?_ _))))))
           have R1k := Lib.hid (row_kept (by first | exact R1.out | exact R1.out.alloc _) b2.out)
           have Hg : Hid (g1 ≠ g2) := by
             obtain ⟨q1, _⟩ := row_heap h2.out.1
             obtain ⟨_, cur, q2⟩ := row_heap R1.out
             have q3 := (Array.getElem?_eq_some_iff.1 q2).1
             have q4 : w1.heap.size ≤ g2 := Nat.le_trans (by first | exact Nat.le_refl _ | simp) q1
             show _ ≠ _
             omega
           have S2 := Lib.hid (keepB B2.out Sbx.out)
           have Q2 := Lib.hid (keepB B2.out Rbx.out)
           have BW := Lib.hid (stepB B4.out B2.out)
           first
             | (have TB := Lib.hid (keepB b2.out TA.out)
                obtain ⟨F1, F2, F3, F4, hF1, hF2, hF3, hF4, ⟨⟨f0, f1⟩, ⟨f2, f3⟩, ⟨f4, f5⟩, ⟨f6, f7⟩⟩, HD⟩ := dm_fin (w := w) (B := w4.heap.size) (rb := W1.heap.size) (tb := w4.heap.size) (k := k) (n := n) (ks := ks) (vs := vs) BW.out S2.out Q2.out TB.out R1k.out R2.out Hg.out ⟨hs1.out, HRB.out, (Nat.le_refl _)⟩
                obtain ⟨⟨p0, p1⟩, p2, p3⟩ := row_four HD.out.sbx
                have HS5 := And.intro p0 (And.intro p1 (And.intro p2 p3)))
             | (have TB : Hid (w2.heap[w1.heap.size]? = some (.cells dz 39)) := keepB b2.out (newA _ rfl)
                obtain ⟨F1, F2, F3, F4, hF1, hF2, hF3, hF4, ⟨⟨f0, f1⟩, ⟨f2, f3⟩, ⟨f4, f5⟩, ⟨f6, f7⟩⟩, HD⟩ := dm_fin (w := w) (B := w4.heap.size) (rb := W1.heap.size) (tb := w1.heap.size) (k := k) (n := n) (ks := ks) (vs := vs) BW.out S2.out Q2.out TB.out R1k.out R2.out Hg.out ⟨hs1.out, HRB.out, (le_at (W := w4) B1.out)⟩
                obtain ⟨⟨p0, p1⟩, p2, p3⟩ := row_four HD.out.sbx
                have HS5 := And.intro p0 (And.intro p1 (And.intro p2 p3)))
             | (obtain ⟨V3, hV3, b3, -, TB⟩ := cells_new w2 dz 39
                have B3 : Hid (Below w4.heap.size w4 V3) := stepB B2.out b3.out
                obtain ⟨F1, F2, F3, F4, hF1, hF2, hF3, hF4, ⟨⟨f0, f1⟩, ⟨f2, f3⟩, ⟨f4, f5⟩, ⟨f6, f7⟩⟩, HD⟩ := dm_fin (w := w) (B := w4.heap.size) (rb := W1.heap.size) (tb := w2.heap.size) (k := k) (n := n) (ks := ks) (vs := vs) (stepB BW.out b3.out) (keepB b3.out S2.out) (keepB b3.out Q2.out) TB.out (row_kept R1k.out b3.out) (row_kept R2.out b3.out) Hg.out ⟨hs1.out, HRB.out, (le_at (W := w4) B2.out)⟩
                obtain ⟨⟨p0, p1⟩, p2, p3⟩ := row_four HD.out.sbx
                have HS5 := And.intro p0 (And.intro p1 (And.intro p2 p3)))))
    all_goals
      go_wp2_with fail
      go_meet
      case rel => exact ⟨_, _, _, _, _, rfl, HD⟩
  case rest =>
    obtain ⟨tb, g1, g2, c1, c2, rfl, HD⟩ := hcut
    clear s0 s1 s2 s3 t0 t1 t2 t3 HS4 Sx0 Sx1 Sx2 Sx3 Sbx Rbx Sb2 Rb2 Ha
    obtain ⟨⟨t0, t1⟩, t2, t3⟩ := row_four HD.out.sbx
    obtain ⟨⟨q0, q1⟩, q2, q3⟩ := row_four HD.out.tbx
    have Ho := Lib.hid HD.out.ord
    have h79 := Lib.hid (Hm.out wc w4.heap.size g1 g2 c1 c2 HD.out.below (Nat.le_trans Ho.out.2.2 (Nat.le_of_lt (Array.getElem?_eq_some_iff.1 HD.out.tbx).1)) HD.out.keys HD.out.vals HD.out.ne)
    go_wp2_with (first
        | (go_at_call 79; (with_reducible refine h79.out.mono ?_); rintro e w5 ⟨ka5, kc5, va5, vc5, rfl, h5⟩
           have R5 := Lib.hid ((h5.out.2.2.2.2.2.2.1.block _ Ho.out.2.1).trans HD.out.rbx)
           obtain ⟨F1, F2, F3, F4, hF1, hF2, hF3, hF4, ⟨⟨f0, e0⟩, ⟨f1, e1⟩, ⟨f2, e2⟩, ⟨f3, e3⟩⟩, HF, HE⟩ := mapped_box (w := w) (V := w5) (.int .i64 k) (.int .i64 n) (.slice ka5 ks2.length kc5) (.slice va5 vs2.length vc5) R5.out (Nat.le_of_lt Ho.out.1)))
    refine bodyPost_ret (results_row_tmp3 rfl _ _ W1.heap.size 39 _ (0, 0) _ rfl HF.out Tryz.underlying39 rfl (by kernel_rfl)) rfl ?_
    have hle : w.heap.size ≤ w4.heap.size := Nat.le_of_lt Hw4s.out
    obtain ⟨y1, y2, y3, y4, y5, y6, y7, y8, y9⟩ := h5.out
    exact dv_end HE.out (HD.out.below.trans (y7.mono hle)) y1 y2 (fun o e => absurd (y8 _ _ e) (Nat.not_le.2 Ho.out.2.1)) (fun o e => absurd (y9 _ _ e) (Nat.not_le.2 Ho.out.2.1)) y3 y4 y5 y6 (y8.mono hle) (y9.mono hle)
end Go.Proofs.YtcjfcomadcebnaaGreatDoor

/- Do of the document's states: what is refused. -/
namespace Go.Proofs.YtcjfcomadcebnaaGreatDoor
open Go.RowKit Go.Maps Go.WideMaps Go.WideElems Go.ChangeShapes Go.WideShapes
variable {T : TypeId} {er : Nat → Addr}

set_option maxRecDepth 100000 in
set_option maxHeartbeats 4000000 in
theorem rdo_bad (k n : Int) (hk0 : k ≠ 0) (hn : near n 1000000000000000) (K V : Value) (op key val c : Int) (hops : rargs k n op key val = c) (hc : c ≠ 0) (w : World) :
    Calls Tryz.prog 58 #[.agg #[.int .i64 k, .int .i64 n, K, V], .int .i64 op, .int .i64 key, .int .i64 val] w fun e w' => e = .returned (.tuple #[.agg dz, .int .i64 0, .int .i64 0, .int .i64 c]) ∧ Hid (Below w.heap.size w w') := by
  obtain ⟨W1, W2, hW1, hW2, Hb, hs1, Sb2, Rb2⟩ := two_box w (dcs k n K V) dz
  have Ha := Lib.hid (rargs_any k n hk0 hn K V op key val W2)
  rw [hops] at Ha
  obtain ⟨⟨s0, s1⟩, s2, s3⟩ := row_four Sb2.out
  have hcb : (c == 0) = false := by simpa using hc
  go_enter Tryz.func58, Tryz.ntmps58
  go_wp2_with (first
    | (go_at_call 78; (with_reducible refine Ha.out.mono ?_); rintro e w4 ⟨rfl, h4⟩
       have B4 : Hid (Below w.heap.size w w4) := stepB Hb.out h4.out
       have Rbx := Lib.hid (keepB h4.out Rb2.out)
       obtain ⟨F1, F2, F3, F4, hF1, hF2, hF3, hF4, ⟨⟨f0, e0⟩, ⟨f1, e1⟩, ⟨f2, e2⟩, ⟨f3, e3⟩⟩, HF, HE⟩ := mapped_box (w := w) (V := w4) (.int .i64 0) (.int .i64 0) (.slice none 0 0) (.slice none 0 0) Rbx.out (Nat.le_of_lt hs1.out)))
  refine bodyPost_ret (results_row_tmp3 rfl _ _ W1.heap.size 39 _ (0, 0) _ rfl HF.out Tryz.underlying39 rfl (by kernel_rfl)) rfl ?_
  exact ⟨rfl, B4.out.trans HE.out.1⟩
end Go.Proofs.YtcjfcomadcebnaaGreatDoor

/- mapped, the document's, by what a map does. -/
namespace Go.Proofs.YtcjfcomadcebnaaGreatDoor
open Go.RowKit Go.Maps Go.WideMaps Go.WideElems Go.ChangeShapes Go.WideShapes

/-- What an operation on a map does: the next map, the answer, its value. -/
def mapR (op key val : Int) (l : List (Int × Int)) : List (Int × Int) × Int × Int :=
  if op = 7 then (mput key val l, 1, 0)
  else match mget key l with
    | none => (l, 2, 0)
    | some v => (if op = 8 then l else mdel key l, 3, v)
theorem rat_at (k n : Int) (ka : Option Addr) (kc : Nat) (U : Value) (key : Int) (l : List (Int × Int)) (hn : l.length ≤ 100000) (w : World) (h : IAt w ka (l.map (·.1))) :
    ∀ W, Below w.heap.size w W → Calls Tryz.prog 103 #[.agg #[.int .i64 k, .int .i64 n, .slice ka l.length kc, U], .int .i64 key] W fun e w' => e = .returned (.tuple #[.int .i64 ((spl key l).1.length : Nat), .bool (spl key l).2.1.isSome]) ∧ Hid (Below W.heap.size W w') := by
  intro W hb
  obtain ⟨h1, h2, _, _⟩ := spl_at key l
  have h9 := rat_any k n ka kc (l.map (·.1)) U key (by simpa using hn) W (h.below hb)
  rw [List.length_map] at h9
  rw [h1, ← h2]
  exact h9

theorem set_mid {A C : List (Int × Int)} {k v x : Int} : ((A ++ (k, v) :: C).map (·.2)).set A.length x = (A ++ (k, x) :: C).map (·.2) := by
  have e : A.length = (A.map (·.2)).length := by simp
  rw [List.map_append, List.map_append, List.map_cons, List.map_cons, e, List.set_append_right _ _ (Nat.le_refl _), Nat.sub_self]
  rfl

/-- mapped, at a copy of the state. -/
theorem rmap7 (k n key val : Int) (l : List (Int × Int)) (hl : l.length ≤ 100000) (ka va : Option Addr) (kc vc : Nat) (hkc : l.length ≤ kc) (hvc : l.length ≤ vc) (w W : World) (hb : Below w.heap.size w W) (hk : IAt w ka (l.map (·.1))) (hv : IAt w va (l.map (·.2))) (B g1 g2 c1 c2 : Nat) (hB : B ≤ W.heap.size)
    (r1 : W.ownsRow B 3 1 (.slice (some ⟨g1, 0, none⟩) l.length c1) l.length ((l.map (·.1)).map (Value.int .i64))) (r2 : W.ownsRow B 3 1 (.slice (some ⟨g2, 0, none⟩) l.length c2) l.length ((l.map (·.2)).map (Value.int .i64))) (hne : g1 ≠ g2) :
    Calls Tryz.prog 79 #[dv k n ka l.length kc va l.length vc, dv k n (some ⟨g1, 0, none⟩) l.length c1 (some ⟨g2, 0, none⟩) l.length c2, .int .i64 7, .int .i64 key, .int .i64 val] W (DvRes B k n ((mput key val l).map (·.1)) ((mput key val l).map (·.2)) 1 0 W) := by
  have hk' := hk.below hb
  have hv' := hv.below hb
  have hat := rat_at k n ka kc (.slice va l.length vc) key l hl W hk'
  obtain ⟨_, _, h3, h4⟩ := spl_at key l
  rw [mput_spl]
  rcases hs : (spl key l).2.1 with _ | v
  · have e := h4 hs
    rw [hs] at hat
    refine (?_ : Calls _ _ _ _ _)
    obtain ⟨A, hA⟩ : ∃ A, (spl key l).1 = A := ⟨_, rfl⟩
    obtain ⟨C, hC⟩ : ∃ C, (spl key l).2.2 = C := ⟨_, rfl⟩
    rw [hA, hC] at e ⊢
    rw [hA] at hat
    clear h3 h4 hs hA hC r1 r2 hk hv
    subst e
    exact (mapped_new k n key val A C ka va kc vc _ _ W hk' hv' hkc hvc hl hat).mono fun e w' h => dv_mono hB h
  · have e := h3 v hs
    rw [hs] at hat
    obtain ⟨A, hA⟩ : ∃ A, (spl key l).1 = A := ⟨_, rfl⟩
    obtain ⟨C, hC⟩ : ∃ C, (spl key l).2.2 = C := ⟨_, rfl⟩
    rw [hA, hC] at e ⊢
    rw [hA] at hat
    clear h3 h4 hs hA hC hk hv
    have hi : A.length < (l.map (·.2)).length := by rw [e]; simp
    have i1 := (row_sl0 r1).1.ints
    obtain ⟨_, _, e1, _, l1⟩ := row_sl r1
    cases e1
    have h9 := mapped_put B k n key val (.slice ka l.length kc) (.slice va l.length vc) (l.map (·.1)) (l.map (·.2)) (some ⟨g1, 0, none⟩) g2 c1 c2 A.length W hi i1 (by simpa using r2) hB (fun o e => hne (by cases e; rfl)) (fun e => by cases e) (by simpa using l1) (own_ge r1) hat
    rw [List.length_map, List.length_map] at h9
    refine h9.mono fun e' w' h => ?_
    have e2 : (l.map (·.2)).set A.length val = (A ++ (key, val) :: C).map (·.2) := by rw [e]; exact set_mid
    have e3 : l.map (·.1) = (A ++ (key, val) :: C).map (·.1) := by rw [e]; simp
    rw [e2, e3] at h
    exact h

theorem rmap8 (k n key : Int) (l : List (Int × Int)) (hl : l.length ≤ 100000) (ka va : Option Addr) (kc vc : Nat) (w W : World) (hb : Below w.heap.size w W) (hk : IAt w ka (l.map (·.1))) (hv : IAt w va (l.map (·.2))) (B g1 g2 c1 c2 : Nat) (hB : B ≤ W.heap.size)
    (r1 : W.ownsRow B 3 1 (.slice (some ⟨g1, 0, none⟩) l.length c1) l.length ((l.map (·.1)).map (Value.int .i64))) (r2 : W.ownsRow B 3 1 (.slice (some ⟨g2, 0, none⟩) l.length c2) l.length ((l.map (·.2)).map (Value.int .i64))) :
    Calls Tryz.prog 79 #[dv k n ka l.length kc va l.length vc, dv k n (some ⟨g1, 0, none⟩) l.length c1 (some ⟨g2, 0, none⟩) l.length c2, .int .i64 8, .int .i64 key, .int .i64 0] W (DvRes B k n ((mapR 8 key 0 l).1.map (·.1)) ((mapR 8 key 0 l).1.map (·.2)) (mapR 8 key 0 l).2.1 (mapR 8 key 0 l).2.2 W) := by
  have hk' := hk.below hb
  have hv' := hv.below hb
  have hat := rat_at k n ka kc (.slice va l.length vc) key l hl W hk'
  obtain ⟨_, _, h3, _⟩ := spl_at key l
  obtain ⟨_, _, e1, _, l1⟩ := row_sl r1
  obtain ⟨_, _, e2, _, l2⟩ := row_sl r2
  cases e1
  cases e2
  unfold mapR
  rw [if_neg (by decide), mget_spl]
  rcases hs : (spl key l).2.1 with _ | v
  · rw [hs] at hat
    have h9 := mapped_none8 B k n key (.slice ka l.length kc) (.slice va l.length vc) (l.map (·.1)) (l.map (·.2)) (some ⟨g1, 0, none⟩) (some ⟨g2, 0, none⟩) c1 c2 (spl key l).1.length W (row_sl0 r1).1.ints (row_sl0 r2).1.ints (fun e => by cases e) (fun e => by cases e) (by simpa using l1) (by simpa using l2) hB (own_ge r1) (own_ge r2) hat
    rw [List.length_map, List.length_map] at h9
    exact h9
  · rw [hs] at hat
    have e := h3 v hs
    have hg : (l.map (·.2))[(spl key l).1.length]? = some v := by
      obtain ⟨A, hA⟩ : ∃ A, (spl key l).1 = A := ⟨_, rfl⟩
      rw [hA] at e ⊢
      rw [e]; simp
    have h9 := mapped_look B k n key v (.slice ka l.length kc) (l.map (·.1)) (l.map (·.2)) (l.map (·.2)) va vc (some ⟨g1, 0, none⟩) (some ⟨g2, 0, none⟩) c1 c2 (spl key l).1.length W hv' hg (row_sl0 r1).1.ints (row_sl0 r2).1.ints (fun e => by cases e) (fun e => by cases e) (by simpa using l1) (by simpa using l2) hB (own_ge r1) (own_ge r2) (by rw [List.length_map]; exact hat)
    rw [List.length_map, List.length_map] at h9
    exact h9

theorem rmap9 (k n key : Int) (l : List (Int × Int)) (hl : l.length ≤ 100000) (ka va : Option Addr) (kc vc : Nat) (hkc : l.length ≤ kc) (hvc : l.length ≤ vc) (w W : World) (hb : Below w.heap.size w W) (hk : IAt w ka (l.map (·.1))) (hv : IAt w va (l.map (·.2))) (B g1 g2 c1 c2 : Nat) (hB : B ≤ W.heap.size)
    (r1 : W.ownsRow B 3 1 (.slice (some ⟨g1, 0, none⟩) l.length c1) l.length ((l.map (·.1)).map (Value.int .i64))) (r2 : W.ownsRow B 3 1 (.slice (some ⟨g2, 0, none⟩) l.length c2) l.length ((l.map (·.2)).map (Value.int .i64))) :
    Calls Tryz.prog 79 #[dv k n ka l.length kc va l.length vc, dv k n (some ⟨g1, 0, none⟩) l.length c1 (some ⟨g2, 0, none⟩) l.length c2, .int .i64 9, .int .i64 key, .int .i64 0] W (DvRes B k n ((mapR 9 key 0 l).1.map (·.1)) ((mapR 9 key 0 l).1.map (·.2)) (mapR 9 key 0 l).2.1 (mapR 9 key 0 l).2.2 W) := by
  have hk' := hk.below hb
  have hv' := hv.below hb
  have hat := rat_at k n ka kc (.slice va l.length vc) key l hl W hk'
  obtain ⟨_, _, h3, _⟩ := spl_at key l
  obtain ⟨_, _, e1, _, l1⟩ := row_sl r1
  obtain ⟨_, _, e2, _, l2⟩ := row_sl r2
  cases e1
  cases e2
  unfold mapR
  rw [if_neg (by decide), mget_spl, mdel_spl]
  rcases hs : (spl key l).2.1 with _ | v
  · rw [hs] at hat
    have h9 := mapped_none9 B k n key (.slice ka l.length kc) (.slice va l.length vc) (l.map (·.1)) (l.map (·.2)) (some ⟨g1, 0, none⟩) (some ⟨g2, 0, none⟩) c1 c2 (spl key l).1.length W (row_sl0 r1).1.ints (row_sl0 r2).1.ints (fun e => by cases e) (fun e => by cases e) (by simpa using l1) (by simpa using l2) hB (own_ge r1) (own_ge r2) hat
    rw [List.length_map, List.length_map] at h9
    exact h9
  · rw [hs] at hat
    have e := h3 v hs
    obtain ⟨A, hA⟩ : ∃ A, (spl key l).1 = A := ⟨_, rfl⟩
    obtain ⟨C, hC⟩ : ∃ C, (spl key l).2.2 = C := ⟨_, rfl⟩
    rw [hA, hC] at e
    rw [hA] at hat
    simp only [hA, hC]
    clear h3 hs hA hC r1 r2 hk hv l1 l2
    subst e
    exact (mapped_del k n key v A C ka va kc vc _ _ W hk' hv' hkc hvc hl hat).mono fun e w' h => dv_mono hB h
end Go.Proofs.YtcjfcomadcebnaaGreatDoor

/- Do of the document's states, at any state. -/
namespace Go.Proofs.YtcjfcomadcebnaaGreatDoor
open Go.RowKit Go.Maps Go.WideMaps Go.WideElems Go.ChangeShapes Go.WideShapes

/-- A state's values, as the document keeps them. -/
def valsD (s : PS) : List Int := s.vals ++ s.kvs.map (·.2)
/-- A state of the document, as it lies. -/
def DAt (W : World) (s : PS) (v : Value) : Prop :=
  ∃ ka kc va vc, v = dv s.kind s.n ka (s.kvs.map (·.1)).length kc va (valsD s).length vc ∧ IAt W ka (s.kvs.map (·.1)) ∧ IAt W va (valsD s) ∧ (ka = none → kc = 0) ∧ (va = none → vc = 0) ∧ (s.kvs.map (·.1)).length ≤ kc ∧ (valsD s).length ≤ vc
theorem DAt.below {W V : World} {s : PS} {v : Value} (h : DAt W s v) (hb : Below W.heap.size W V) : DAt V s v := by
  obtain ⟨ka, kc, va, vc, e, h1, h2, h3⟩ := h
  exact ⟨ka, kc, va, vc, e, h1.below hb, h2.below hb, h3⟩
/-- The document's code of what is refused. -/
def errD (c : Nat) : Int := if c = 0 then 111 else if c = 1 then 110 else 109
/-- What Do answers. -/
def RdoRes (s : PS) (op key val : Int) (w : World) (e : Ending) (w' : World) : Prop :=
  match doR s op key val with
  | .error c => e = .returned (.tuple #[.agg dz, .int .i64 0, .int .i64 0, .int .i64 (errD c)]) ∧ Hid (Below w.heap.size w w')
  | .ok (t, r, g) => ∃ v', e = .returned (.tuple #[v', .int .i64 r, .int .i64 g, .int .i64 0]) ∧ Hid (DAt w' t v' ∧ Below w.heap.size w w')
theorem rdo_err {s : PS} {op key val : Int} {c : Nat} {w w' : World} {e : Ending} (hd : doR s op key val = .error c) (h : e = .returned (.tuple #[.agg dz, .int .i64 0, .int .i64 0, .int .i64 (errD c)]) ∧ Hid (Below w.heap.size w w')) : RdoRes s op key val w e w' := by
  unfold RdoRes; rw [hd]; exact h
theorem rdo_dv {s t : PS} {op key val r g : Int} {w w' : World} {e : Ending} (hd : doR s op key val = .ok (t, r, g)) {k n : Int} {ks vs : List Int} (hk : t.kind = k) (hn : t.n = n) (hks : t.kvs.map (·.1) = ks) (hvs : valsD t = vs) (h : DvRes w.heap.size k n ks vs r g w e w') : RdoRes s op key val w e w' := by
  subst hk hn hks hvs
  obtain ⟨ka, kc, va, vc, he, h1, h2, h3, h4, h5, h6, h7, _⟩ := h
  unfold RdoRes; rw [hd]
  exact ⟨_, he, ⟨ka, kc, va, vc, rfl, h1, h2, h3, h4, h5, h6⟩, h7⟩
theorem ok_near {s : PS} {b : Nat} (h : s.Ok b) : near s.n 1000000000000000 := by
  have hk := h.kind
  have h1 := h.reg
  have h2 := h.cnt
  have h3 := h.num
  unfold near at *
  have hkk : s.kind = 1 ∨ s.kind = 2 ∨ (s.kind = 3 ∨ s.kind = 4) := by omega
  rcases hkk with e | e | e
  · have := h1 e; omega
  · have := h2 e; omega
  · have := h3 e; omega
theorem ok_kvs {s : PS} {b : Nat} (h : s.Ok b) : s.kvs.length ≤ 1001 := by
  have := rises_len (b := 0) h.rises (fun p hp => (h.kb p hp).1) (by omega) (by omega)
  omega
theorem ok_valsD {s : PS} {b : Nat} (h : s.Ok b) : (valsD s).length ≤ b + 1001 := by
  have h1 := ok_kvs h
  have h2 := h.len
  unfold valsD
  rw [List.length_append, List.length_map]
  omega

theorem rdo_any (s : PS) (b : Nat) (hb : b ≤ 90000) (h : s.Ok b) (op key val : Int) (v : Value) (w : World) (hv : DAt w s v) :
    Calls Tryz.prog 58 #[v, .int .i64 op, .int .i64 key, .int .i64 val] w (RdoRes s op key val w) := by
  obtain ⟨ka, kc, va, vc, rfl, iK, iV, -, -, lK, lV⟩ := hv
  have hk := h.kind
  have hk0 : s.kind ≠ 0 := by omega
  have hn := ok_near h
  have q1 : (s.kvs.map (·.1)).length ≤ 100000 := by rw [List.length_map]; have := ok_kvs h; omega
  have q2 : (valsD s).length ≤ 100000 := by have := ok_valsD h; omega
  by_cases hof : ofZ op = s.kind
  rotate_left
  · exact (rdo_bad s.kind s.n hk0 hn _ _ op key val 111 (by unfold rargs; rw [if_pos hof]) (by decide) w).mono fun e w' hr => rdo_err (c := 0) (by unfold doR; rw [if_pos hof]) hr
  have hof' : ¬ ofZ op ≠ s.kind := fun e => e hof
  by_cases hf : fitsB op key val = false
  · exact (rdo_bad s.kind s.n hk0 hn _ _ op key val 110 (by unfold rargs; rw [if_neg hof', if_pos hf]) (by decide) w).mono fun e w' hr => rdo_err (c := 1) (by unfold doR; rw [if_neg hof', if_pos hf]) hr
  have hft : fitsB op key val = true := by simpa using hf
  obtain ⟨k1, k2, k3, k4⟩ := of_kinds op
  have hkk : s.kind = 1 ∨ s.kind = 2 ∨ s.kind = 3 ∨ s.kind = 4 := by omega
  rcases hkk with hs | hs | hs | hs
  · -- a register
    have hn2 : ¬ (s.kind = 2 ∧ ¬ near (s.n + val) 1000000000000000) := fun e => by rw [hs] at e; exact absurd e.1 (by decide)
    rcases k1 (by rw [hof]; exact hs) with rfl | rfl
    · have hz : key = 0 ∧ val = 0 := by simp [fitsB, keyedZ, valuedZ] at hft; exact ⟨hft.1.2, hft.2⟩
      obtain ⟨rfl, rfl⟩ := hz
      exact (rdo_read1 s.kind s.n hk0 hn _ _ ka va kc vc (by unfold rargs; rw [if_neg hof', if_neg hf, if_neg (by rintro ⟨e, _⟩; exact absurd e (by decide))]) w iK iV q1 q2).mono fun e w' hr => rdo_dv (t := s) (by unfold doR; rw [if_neg hof', if_neg hf, if_neg hn2, if_pos (.inl rfl)]) rfl rfl rfl rfl hr
    · have hz : key = 0 := by simp [fitsB, keyedZ, valuedZ] at hft; exact hft.2
      subst hz
      exact (rdo_write s.kind s.n val hk0 hn _ _ ka va kc vc (by unfold rargs; rw [if_neg hof', if_neg hf, if_neg (by rintro ⟨e, _⟩; exact absurd e (by decide))]) w iK iV q1 q2).mono fun e w' hr => rdo_dv (t := { s with n := val }) (by unfold doR; rw [if_neg hof', if_neg hf, if_neg hn2, if_neg (by decide), if_pos rfl]) rfl rfl rfl rfl hr
  · -- a counter
    have hnn := h.cnt hs
    rcases k2 (by rw [hof]; exact hs) with rfl | rfl
    · have hz : key = 0 ∧ near val 1000000000 := by simp [fitsB, keyedZ, valuedZ] at hft; exact ⟨hft.2, hft.1.2⟩
      obtain ⟨rfl, hv⟩ := hz
      by_cases hna : near (s.n + val) 1000000000000000
      · have hn2 : ¬ (s.kind = 2 ∧ ¬ near (s.n + val) 1000000000000000) := fun e => e.2 hna
        have hw : IntKind.i64.wrap (s.n + val) = s.n + val := by unfold near at hna; rw [IntKind.wrap_i64]; omega
        exact (rdo_add s.kind s.n val hk0 hn _ _ ka va kc vc (by unfold rargs; rw [if_neg hof', if_neg hf, if_neg (fun e => e.2 hna)]) w iK iV q1 q2 hw).mono fun e w' hr => rdo_dv (t := { s with n := s.n + val }) (by unfold doR; rw [if_neg hof', if_neg hf, if_neg hn2, if_neg (by decide), if_neg (by decide), if_pos rfl]) rfl rfl rfl rfl hr
      · exact (rdo_bad s.kind s.n hk0 hn _ _ 3 0 val 110 (by unfold rargs; rw [if_neg hof', if_neg hf, if_pos ⟨rfl, hna⟩]) (by decide) w).mono fun e w' hr => rdo_err (c := 1) (by unfold doR; rw [if_neg hof', if_neg hf, if_pos ⟨hs, hna⟩]) hr
    · have hz : key = 0 ∧ val = 0 := by simp [fitsB, keyedZ, valuedZ] at hft; exact ⟨hft.1.2, hft.2⟩
      obtain ⟨rfl, rfl⟩ := hz
      have hn2 : ¬ (s.kind = 2 ∧ ¬ near (s.n + 0) 1000000000000000) := fun e => e.2 (by rw [Int.add_zero]; exact hnn)
      exact (rdo_read4 s.kind s.n hk0 hn _ _ ka va kc vc (by unfold rargs; rw [if_neg hof', if_neg hf, if_neg (by rintro ⟨e, _⟩; exact absurd e (by decide))]) w iK iV q1 q2).mono fun e w' hr => rdo_dv (t := s) (by unfold doR; rw [if_neg hof', if_neg hf, if_neg hn2, if_pos (.inr rfl)]) rfl rfl rfl rfl hr
  · -- a queue
    have hn2 : ¬ (s.kind = 2 ∧ ¬ near (s.n + val) 1000000000000000) := fun e => by rw [hs] at e; exact absurd e.1 (by decide)
    have hks := h.ks (by omega)
    have eV : valsD s = s.vals := by unfold valsD; rw [hks]; simp
    rcases k3 (by rw [hof]; exact hs) with rfl | rfl
    · have hz : key = 0 := by simp [fitsB, keyedZ, valuedZ] at hft; exact hft.2
      subst hz
      exact (rdo_enq s.kind s.n val hk0 hn _ _ ka va kc vc (by unfold rargs; rw [if_neg hof', if_neg hf, if_neg (by rintro ⟨e, _⟩; exact absurd e (by decide))]) w iK iV q1 q2).mono fun e w' hr => rdo_dv (t := { s with vals := s.vals ++ [val] }) (by unfold doR; rw [if_neg hof', if_neg hf, if_neg hn2, if_neg (by decide), if_neg (by decide), if_neg (by decide), if_pos rfl]) rfl rfl rfl (by rw [eV]; unfold valsD; show (s.vals ++ [val]) ++ s.kvs.map (·.2) = _; rw [hks]; simp) hr
    · have hz : key = 0 ∧ val = 0 := by simp [fitsB, keyedZ, valuedZ] at hft; exact ⟨hft.1.2, hft.2⟩
      obtain ⟨rfl, rfl⟩ := hz
      have hra : rargs s.kind s.n 6 0 0 = 0 := by unfold rargs; rw [if_neg hof', if_neg hf, if_neg (by rintro ⟨e, _⟩; exact absurd e (by decide))]
      rcases hq : s.vals with _ | ⟨x, xs⟩
      · have hdo : doR s 6 0 0 = .ok (s, 2, 0) := by
          unfold doR; rw [if_neg hof', if_neg hf, if_neg hn2, if_neg (by decide), if_neg (by decide), if_neg (by decide), if_neg (by decide), if_pos rfl]
          simp only [hq]
        exact (rdo_none s.kind s.n hk0 hn _ _ ka va kc vc hra w iK iV q1 q2 (by rw [eV, hq])).mono fun e w' hr => rdo_dv (t := s) hdo rfl rfl rfl rfl hr
      · have hdo : doR s 6 0 0 = .ok ({ s with vals := xs }, 3, x) := by
          unfold doR; rw [if_neg hof', if_neg hf, if_neg hn2, if_neg (by decide), if_neg (by decide), if_neg (by decide), if_neg (by decide), if_pos rfl]
          simp only [hq]
        exact (rdo_deq s.kind s.n x hk0 hn _ _ ka va kc vc hra w iK iV q1 q2 xs (by rw [eV, hq]) lV).mono fun e w' hr => rdo_dv (t := { s with vals := xs }) hdo rfl rfl rfl (by unfold valsD; show xs ++ s.kvs.map (·.2) = _; rw [hks]; simp) hr
  · -- a map
    have hn2 : ¬ (s.kind = 2 ∧ ¬ near (s.n + val) 1000000000000000) := fun e => by rw [hs] at e; exact absurd e.1 (by decide)
    have hvs := h.vs (by omega)
    have eV : valsD s = s.kvs.map (·.2) := by unfold valsD; rw [hvs]; rfl
    have q3 : s.kvs.length ≤ 100000 := by have := ok_kvs h; omega
    rw [eV] at iV lV q2 ⊢
    rw [List.length_map] at lK lV
    rcases k4 (by rw [hof]; exact hs) with rfl | rfl | rfl
    · refine (rdo_map7 s.kind s.n key val hk0 hn _ _ ka va kc vc (by unfold rargs; rw [if_neg hof', if_neg hf, if_neg (by rintro ⟨e, _⟩; exact absurd e (by decide))]) w iK iV q1 q2 _ _ 1 0 (fun W B g1 g2 c1 c2 hB hW r1 r2 hne => ?_)).mono fun e w' hr => rdo_dv (t := { s with kvs := mput key val s.kvs }) (by unfold doR; rw [if_neg hof', if_neg hf, if_neg hn2, if_neg (by decide), if_neg (by decide), if_neg (by decide), if_neg (by decide), if_neg (by decide), if_pos rfl]) rfl rfl rfl (by unfold valsD; show s.vals ++ _ = _; rw [hvs, List.nil_append]) hr
      simp only [List.length_map] at r1 r2 ⊢
      exact rmap7 s.kind s.n key val s.kvs q3 ka va kc vc lK lV w W hB iK iV B g1 g2 c1 c2 hW r1 r2 hne
    · have hz : val = 0 := by simp [fitsB, keyedZ, valuedZ] at hft; exact hft.2
      subst hz
      have hdo : doR s 8 key 0 = .ok ({ s with kvs := (mapR 8 key 0 s.kvs).1 }, (mapR 8 key 0 s.kvs).2.1, (mapR 8 key 0 s.kvs).2.2) := by
        unfold doR mapR
        rw [if_neg hof', if_neg hf, if_neg hn2, if_neg (by decide), if_neg (by decide), if_neg (by decide), if_neg (by decide), if_neg (by decide), if_neg (by decide), if_pos rfl, if_neg (by decide)]
        rcases mget key s.kvs with _ | v <;> rfl
      refine (rdo_map8 s.kind s.n key hk0 hn _ _ ka va kc vc (by unfold rargs; rw [if_neg hof', if_neg hf, if_neg (by rintro ⟨e, _⟩; exact absurd e (by decide))]) w iK iV q1 q2 _ _ _ _ (fun W B g1 g2 c1 c2 hB hW r1 r2 hne => ?_)).mono fun e w' hr => rdo_dv hdo rfl rfl rfl (by unfold valsD; show s.vals ++ _ = _; rw [hvs, List.nil_append]) hr
      simp only [List.length_map] at r1 r2 ⊢
      exact rmap8 s.kind s.n key s.kvs q3 ka va kc vc w W hB iK iV B g1 g2 c1 c2 hW r1 r2
    · have hz : val = 0 := by simp [fitsB, keyedZ, valuedZ] at hft; exact hft.2
      subst hz
      have hdo : doR s 9 key 0 = .ok ({ s with kvs := (mapR 9 key 0 s.kvs).1 }, (mapR 9 key 0 s.kvs).2.1, (mapR 9 key 0 s.kvs).2.2) := by
        unfold doR mapR
        rw [if_neg hof', if_neg hf, if_neg hn2, if_neg (by decide), if_neg (by decide), if_neg (by decide), if_neg (by decide), if_neg (by decide), if_neg (by decide), if_neg (by decide), if_neg (by decide)]
        rcases mget key s.kvs with _ | v <;> rfl
      refine (rdo_map9 s.kind s.n key hk0 hn _ _ ka va kc vc (by unfold rargs; rw [if_neg hof', if_neg hf, if_neg (by rintro ⟨e, _⟩; exact absurd e (by decide))]) w iK iV q1 q2 _ _ _ _ (fun W B g1 g2 c1 c2 hB hW r1 r2 hne => ?_)).mono fun e w' hr => rdo_dv hdo rfl rfl rfl (by unfold valsD; show s.vals ++ _ = _; rw [hvs, List.nil_append]) hr
      simp only [List.length_map] at r1 r2 ⊢
      exact rmap9 s.kind s.n key s.kvs q3 ka va kc vc lK lV w W hB iK iV B g1 g2 c1 c2 hW r1 r2
end Go.Proofs.YtcjfcomadcebnaaGreatDoor

/- Copy of a store of the document. -/
namespace Go.Proofs.YtcjfcomadcebnaaGreatDoor
open Go.RowKit Go.Maps Go.WideMaps Go.WideElems Go.ChangeShapes Go.WideShapes

theorem elem39 : (Tryz.prog.info? 39).map (fun i => (i.zero, i.size, i.bytes)) = some (some (.agg dz), 4, 64) := by kernel_rfl
theorem four_at {xs : List Value} {n k : Nat} (h : xs.length = n * 4) (hk : k < n) : ∃ p q r s, (xs[k * 4]? = some p ∧ xs[k * 4 + 1]? = some q ∧ xs[k * 4 + 2]? = some r ∧ xs[k * 4 + 3]? = some s) ∧ xs.take ((k + 1) * 4) = xs.take (k * 4) ++ [p, q, r, s] := by
  have l0 : k * 4 < xs.length := by omega
  have l1 : k * 4 + 1 < xs.length := by omega
  have l2 : k * 4 + 2 < xs.length := by omega
  have l3 : k * 4 + 3 < xs.length := by omega
  refine ⟨xs[k * 4], xs[k * 4 + 1], xs[k * 4 + 2], xs[k * 4 + 3], ⟨List.getElem?_eq_getElem l0, List.getElem?_eq_getElem l1, List.getElem?_eq_getElem l2, List.getElem?_eq_getElem l3⟩, ?_⟩
  have e : (k + 1) * 4 = k * 4 + 1 + 1 + 1 + 1 := by omega
  rw [e, List.take_succ_eq_append_getElem l3, List.take_succ_eq_append_getElem l2, List.take_succ_eq_append_getElem l1, List.take_succ_eq_append_getElem l0]
  simp only [List.append_assoc, List.cons_append, List.nil_append]
theorem four_news (w : World) (p q r s : Value) (t : TypeId) : ∀ j u, [p, q, r, s][j]? = some u → (w.alloc (.cells #[p, q, r, s] t)).cell? ((⟨w.heap.size, 0, none⟩ : Addr).add j) = some u := World.news_of_block (World.alloc_heap_new w _)

set_option maxRecDepth 100000 in
set_option maxHeartbeats 2000000 in
theorem rcopy (a : Option Addr) (n c : Nat) (xs : List Value) (hxs : xs.length = n * 4) (hn : n ≤ 1000) (h1 : ∀ u ∈ xs, u.oneCell' = true) (w : World) (h : SlAt w a xs) :
    Calls Tryz.prog 59 #[.slice a n c] w fun e w' => ∃ v', e = .returned v' ∧ Hid (w'.ownsRow w.heap.size 39 4 v' n xs ∧ Below w.heap.size w w') := by
  obtain ⟨i0, hi, hz0, hz1, hz2⟩ := info_parts elem39
  have H := Lib.hid h
  have Hn := Lib.hid hxs
  have H1 := Lib.hid h1
  have Hsm : Hid (n ≤ 1000) := hn
  clear h hxs h1
  go_enter Tryz.func59, Tryz.ntmps59
  go_wp2_with (at_make; refine wpList_make_own _ rfl _ _ 30 rfl w.heap.size 39 i0 (.agg dz) 4 Tryz.underlying30 hi hz0 hz1 _ _ _ n rfl rfl (by simp) (by rw [hz2]; omega) (by unfold maxLen; omega) (Nat.le_refl _) ?_)
  intro w1 hown1 hgrow1
  have Ho1 : Hid (Below w.heap.size w w1) := (Below.refl _ w).grown hgrow1 (Nat.le_refl _) (fun k hk => by cases hk)
  have Hown1 := Lib.hid hown1
  clear hown1 hgrow1
  go_wp2_with fail
  go_loopw [3, 4] (fun v i wr => ∃ k : Nat, k ≤ n ∧ i = .int .i64 k ∧ Hid (wr.ownsRow w.heap.size 39 4 v k (xs.take (k * 4))) ∧ Hid (Below w.heap.size w wr)) (fun _ i _ => n - (intOf i).toNat)
  case atStart => exact ⟨0, Nat.zero_le _, rfl, Hown1.out, Ho1.out⟩
  case round =>
    obtain ⟨k, hk, rfl, Hown, Ho⟩ := hrel
    obtain ⟨v, hv⟩ : ∃ v, u3 = v := ⟨_, rfl⟩
    rw [hv] at Hown ⊢
    clear hv
    by_cases hlt2 : k < n
    · obtain ⟨p, q, r, s, ⟨e0, e1, e2, e3⟩, et⟩ := four_at Hn.out hlt2
      rcases H.out with ⟨-, e⟩ | ⟨b, off, rfl, hb, hc⟩
      · rw [e] at e0; simp at e0
      have hbl := hb (by intro e; rw [e] at e0; simp at e0)
      have u0 := (Ho.out.cell (p := ⟨b, off + k * 4, none⟩) hbl).trans (hc _ _ e0)
      have u1 : wr.cell? ⟨b, off + k * 4 + 1, none⟩ = some q := (Ho.out.cell (p := ⟨b, off + (k * 4 + 1), none⟩) hbl).trans (hc _ _ e1)
      have u2 : wr.cell? ⟨b, off + k * 4 + 2, none⟩ = some r := (Ho.out.cell (p := ⟨b, off + (k * 4 + 2), none⟩) hbl).trans (hc _ _ e2)
      have u3' : wr.cell? ⟨b, off + k * 4 + 3, none⟩ = some s := (Ho.out.cell (p := ⟨b, off + (k * 4 + 3), none⟩) hbl).trans (hc _ _ e3)
      have Ho4 : Hid (∀ u ∈ [p, q, r, s], u.oneCell' = true) := by
        intro u hu
        simp only [List.mem_cons, List.not_mem_nil, or_false] at hu
        rcases hu with rfl | rfl | rfl | rfl
        · exact H1.out _ (List.mem_of_getElem? e0)
        · exact H1.out _ (List.mem_of_getElem? e1)
        · exact H1.out _ (List.mem_of_getElem? e2)
        · exact H1.out _ (List.mem_of_getElem? e3)
      have Et := Lib.hid et
      have Hsz := Lib.hid Ho.out.size
      clear hc hb e0 e1 e2 e3 et
      go_wp2_with (at_builtin; refine wpList_append_own _ rfl _ _ 30 rfl w.heap.size 39 i0 (.agg dz) 4 64 Tryz.underlying30 hi hz0 hz1 hz2 rfl (by decide) v _ _ rfl (Hown.out.alloc _) ⟨wr.heap.size, 0, none⟩ 1 1 [p, q, r, s] rfl rfl (four_news _ _ _ _ _ _) Ho4.out (by unfold maxLen; have := Hsm.out; omega) (by have := Hsm.out; omega) (by show _ ≤ _; simp; exact Nat.le_trans Hsz.out (Nat.le_succ _)) ?_)
      intro v' w4 hown4 hgrow4 hnil4
      have Ho5 : Hid (Below w.heap.size w w4) := (Ho.out.alloc Hsz.out (.cells #[p, q, r, s] 39)).grown hgrow4 (by show _ ≤ _; simp; exact Nat.le_trans Hsz.out (Nat.le_succ _)) (fun k hk => (Hown.out.lt k hk).1)
      have Hown4 : Hid (w4.ownsRow w.heap.size 39 4 v' (k + 1) (xs.take ((k + 1) * 4))) := by show World.ownsRow _ _ _ _ _ _ _; rw [Et.out]; exact hown4
      clear hown4 hgrow4 hnil4 Hown Ho u0 u1 u2 u3' Et Hsz
      go_wp2_with fail
      go_roundw
      case rel => exact ⟨k + 1, by omega, by go_num, Hown4.out, Ho5.out⟩
      case measure => simp [intOf]; omega
    · have hkn : k = n := by omega
      go_wp2_with fail
      go_ret
      have h9 := Hown.out
      rw [hkn, List.take_of_length_le (by rw [Hn.out]; exact Nat.le_refl _)] at h9
      exact ⟨_, rfl, h9, Ho.out⟩
end Go.Proofs.YtcjfcomadcebnaaGreatDoor

/- Plainly: stores of states, and what operations do to them. -/
namespace Go.Proofs.YtcjfcomadcebnaaGreatDoor
open Go.RowKit

/-- A state as the program keeps it. -/
def stP (s : PS) : P3 := (s.kind, s.n, s.text)
/-- All of a store's states are fit. -/
def OkS (S : List PS) (b : Nat) : Prop := ∀ s ∈ S, s.Ok b
/-- An operation on a store: 0 no such operation, 1 no such event, 2 no such object; or the next store, the answer, its value. -/
def sdoR (S : List PS) (i op key val : Int) : Except Nat (List PS × Int × Int) :=
  match (if 0 ≤ i ∧ i < S.length then S[i.toNat]? else none) with
  | none => .error 2
  | some s => match doR s op key val with
    | .error e => .error e
    | .ok (t, r, g) => .ok (S.set i.toNat t, r, g)
theorem sdoR_out {S : List PS} {i op key val : Int} (h : ¬(0 ≤ i ∧ i < S.length)) : sdoR S i op key val = .error 2 := by
  unfold sdoR; rw [if_neg h]
theorem sdoR_in {S : List PS} {i : Nat} {op key val : Int} (h : i < S.length) : sdoR S i op key val = match doR S[i] op key val with
    | .error e => .error e
    | .ok (t, r, g) => .ok (S.set i t, r, g) := by
  unfold sdoR
  rw [if_pos ⟨by omega, by omega⟩, Int.toNat_natCast, List.getElem?_eq_getElem h]
theorem sdoR_ok {S X : List PS} {i op key val r g : Int} (h : sdoR S i op key val = .ok (X, r, g)) : ∃ (k : Nat) (s t : PS), i = k ∧ k < S.length ∧ S[k]? = some s ∧ doR s op key val = .ok (t, r, g) ∧ X = S.set k t := by
  by_cases hi : 0 ≤ i ∧ i < S.length
  · obtain ⟨k, rfl⟩ : ∃ k : Nat, i = k := ⟨i.toNat, by omega⟩
    have hk : k < S.length := by omega
    rw [sdoR_in hk] at h
    split at h
    · cases h
    · rename_i t r' g' hd
      cases h
      exact ⟨k, _, t, rfl, hk, List.getElem?_eq_getElem hk, hd, rfl⟩
  · rw [sdoR_out hi] at h; cases h
theorem OkS.next {S X : List PS} {b : Nat} {i op key val r g : Int} (h : OkS S b) (hd : sdoR S i op key val = .ok (X, r, g)) : OkS X (b + 1) ∧ X.length = S.length ∧ X.map (·.kind) = S.map (·.kind) := by
  obtain ⟨k, s, t, rfl, hk, hs, hd2, rfl⟩ := sdoR_ok hd
  have hm : s ∈ S := List.mem_of_getElem? hs
  obtain ⟨h1, h2⟩ := (h s hm).next hd2
  refine ⟨fun x hx => ?_, by simp, ?_⟩
  · rcases List.mem_or_eq_of_mem_set hx with hx | rfl
    · have h3 := h x hx
      exact ⟨h3.kind, h3.reg, h3.cnt, h3.num, h3.vs, h3.ks, h3.vb, h3.kb, h3.rises, Nat.le_succ_of_le h3.len⟩
    · exact h1
  · rw [List.map_set, h2]
    have e : (S.map (·.kind))[k]? = some s.kind := by rw [List.getElem?_map, hs]; rfl
    obtain ⟨hk2, e2⟩ := List.getElem?_eq_some_iff.1 e
    rw [← e2]
    exact List.set_getElem_self hk2
/-- Two operations on unlike objects, in either order. -/
theorem sdoR_apart {S X Y : List PS} {i j o1 k1 v1 o2 k2 v2 r g q h : Int} (hij : i ≠ j) (hx : sdoR S i o1 k1 v1 = .ok (X, r, g)) (hy : sdoR S j o2 k2 v2 = .ok (Y, q, h)) :
    ∃ U, sdoR X j o2 k2 v2 = .ok (U, q, h) ∧ sdoR Y i o1 k1 v1 = .ok (U, r, g) := by
  obtain ⟨a, s, t, rfl, ha, hs, hd, rfl⟩ := sdoR_ok hx
  obtain ⟨b, s', t', rfl, hb, hs', hd', rfl⟩ := sdoR_ok hy
  have hab : a ≠ b := by omega
  obtain ⟨hb2, e1⟩ := List.getElem?_eq_some_iff.1 hs'
  obtain ⟨ha2, e2⟩ := List.getElem?_eq_some_iff.1 hs
  refine ⟨(S.set a t).set b t', ?_, ?_⟩
  · rw [sdoR_in (by simpa using hb), List.getElem_set_ne hab, e1, hd']
  · rw [sdoR_in (by simpa using ha), List.getElem_set_ne (Ne.symm hab), e2, hd, List.set_comm _ _ hab]

/-- Where two stores differ. -/
def difR (S U : List P3) : List Int := ((List.range (max S.length U.length)).filter (fun i => decide (S[i]? ≠ U[i]?))).map (fun i : Nat => (i : Int))
theorem difR_self (S : List P3) : difR S S = [] := by simp [difR]
theorem difR_nil {S U : List P3} : difR S U = [] ↔ S = U := by
  unfold difR
  rw [List.map_eq_nil_iff, List.filter_eq_nil_iff]
  constructor
  · intro h
    apply List.ext_getElem?
    intro i
    by_cases hi : i < max S.length U.length
    · have := h i (List.mem_range.2 hi)
      simpa using this
    · rw [List.getElem?_eq_none (by omega), List.getElem?_eq_none (by omega)]
  · rintro rfl i _; simp
theorem difR_set {S : List P3} {k : Nat} {x : P3} (hk : k < S.length) : difR S (S.set k x) = if S[k] = x then [] else [(k : Int)] := by
  split
  · rename_i h
    rw [← h, List.set_getElem_self, difR_self]
  · rename_i h
    unfold difR
    rw [List.length_set, Nat.max_self]
    have e : (List.range S.length).filter (fun i => decide (S[i]? ≠ (S.set k x)[i]?)) = (List.range S.length).filter (fun i => i == k) := by
      apply List.filter_congr
      intro i hi
      have hi := List.mem_range.1 hi
      by_cases hik : i = k
      · subst hik
        rw [List.getElem?_set_self hk, List.getElem?_eq_getElem hk]
        simp [h]
      · rw [List.getElem?_set_ne (Ne.symm hik)]
        simp [hik]
    rw [e]
    have e2 : (List.range S.length).filter (fun i => i == k) = [k] := by
      rw [List.filter_beq]
      simp [List.count_range, hk]
    rw [e2]; rfl

/-- Texts without a semicolon, one behind the other. -/
theorem cut_semi {x y a b : List UInt8} (hx : (59 : UInt8) ∉ x) (hy : (59 : UInt8) ∉ y) (ha : a = [] ∨ ∃ r, a = 59 :: r) (hb : b = [] ∨ ∃ r, b = 59 :: r) (h : x ++ a = y ++ b) : x = y ∧ a = b := by
  induction x generalizing y with
  | nil =>
    cases y with
    | nil => exact ⟨rfl, h⟩
    | cons c y =>
      rcases ha with rfl | ⟨r, rfl⟩
      · simp at h
      · simp at h; exact absurd (by rw [h.1]; simp) hy
  | cons c x ih =>
    cases y with
    | nil =>
      rcases hb with rfl | ⟨r, rfl⟩
      · simp at h
      · simp at h; exact absurd (by rw [h.1]; simp) hx
    | cons d y =>
      simp only [List.cons_append, List.cons.injEq] at h
      obtain ⟨h1, h2⟩ := ih (fun h => hx (by simp [h])) (fun h => hy (by simp [h])) h.2
      exact ⟨by rw [h.1, h1], h2⟩
theorem joinTail_shape (r : List (List UInt8)) : Lib.joinTail [59, 32] r = [] ∨ ∃ q, Lib.joinTail [59, 32] r = 59 :: q := by
  cases r with
  | nil => exact .inl rfl
  | cons x r => exact .inr ⟨_, rfl⟩
theorem joinTail_inj : ∀ {r q : List (List UInt8)}, r.length = q.length → (∀ x ∈ r, (59 : UInt8) ∉ x) → (∀ x ∈ q, (59 : UInt8) ∉ x) → Lib.joinTail [59, 32] r = Lib.joinTail [59, 32] q → r = q
  | [], [], _, _, _, _ => rfl
  | x :: r, y :: q, hl, hr, hq, h => by
    have e : ∀ z (l : List (List UInt8)), Lib.joinTail [59, 32] (z :: l) = 59 :: 32 :: (z ++ Lib.joinTail [59, 32] l) := fun z l => rfl
    rw [e, e] at h
    simp only [List.cons.injEq, true_and] at h
    obtain ⟨h1, h2⟩ := cut_semi (hr x (by simp)) (hq y (by simp)) (joinTail_shape r) (joinTail_shape q) h
    rw [h1, joinTail_inj (by simpa using hl) (fun z hz => hr z (by simp [hz])) (fun z hz => hq z (by simp [hz])) h2]
theorem join_inj {r q : List (List UInt8)} (hl : r.length = q.length) (hr : ∀ x ∈ r, (59 : UInt8) ∉ x) (hq : ∀ x ∈ q, (59 : UInt8) ∉ x) (h : Lib.join r [59, 32] = Lib.join q [59, 32]) : r = q := by
  cases r with
  | nil => cases q with
    | nil => rfl
    | cons y q => simp at hl
  | cons x r => cases q with
    | nil => simp at hl
    | cons y q =>
      rw [Lib.join_cons, Lib.join_cons] at h
      obtain ⟨h1, h2⟩ := cut_semi (hr x (by simp)) (hq y (by simp)) (joinTail_shape r) (joinTail_shape q) h
      rw [h1, joinTail_inj (by simpa using hl) (fun z hz => hr z (by simp [hz])) (fun z hz => hq z (by simp [hz])) h2]
theorem itoa_59 (n : Int) : (59 : UInt8) ∉ Lib.itoa n := itoa_no n (.inr (by decide))
theorem qtext_59 : ∀ l : List Int, (59 : UInt8) ∉ qtext l
  | [] => by simp [qtext]
  | v :: l => by
    have h1 := itoa_59 v
    have h2 := qtext_59 l
    unfold qtext
    simp [h1, h2]
theorem mtext_59 : ∀ l : List (Int × Int), (59 : UInt8) ∉ mtext l
  | [] => by simp [mtext]
  | p :: l => by
    have h1 := itoa_59 p.1
    have h2 := itoa_59 p.2
    have h3 := mtext_59 l
    unfold mtext item
    simp [h1, h2, h3]
theorem wrow_59 : ∀ t : Nat, t < 7 → ∀ c : Nat, c < 10 → (59 : UInt8) ∉ (wrow t).getD c [] := by decide
theorem word_59 (k : Int) : (59 : UInt8) ∉ wordL 1 k := by
  unfold wordL
  split
  · rename_i h
    exact wrow_59 _ (by decide) _ (by omega)
  · simp
theorem kS_59 (s : PS) : (59 : UInt8) ∉ kS (stP s) := by
  have h1 := word_59 s.kind
  have h2 := itoa_59 s.n
  have h3 : (59 : UInt8) ∉ s.text := by
    unfold PS.text
    have := qtext_59 s.vals
    have := mtext_59 s.kvs
    simp [*]
  unfold kS keyT stP
  split <;> simp [h1, h2, h3]
theorem ok_num {s : PS} {b : Nat} (h : s.Ok b) : fits64 s.n := by
  obtain ⟨h1, h2⟩ := h.kind
  have h3 : s.kind = 1 ∨ s.kind = 2 ∨ s.kind = 3 ∨ s.kind = 4 := by omega
  unfold fits64
  rcases h3 with e | e | e | e
  · have := h.reg e; unfold near at this; omega
  · have := h.cnt e; unfold near at this; omega
  · have := h.num (.inl e); omega
  · have := h.num (.inr e); omega
theorem text_num {s : PS} {b : Nat} (h : s.Ok b) (hk : s.kind = 1 ∨ s.kind = 2) : s.text = [] := by
  unfold PS.text
  rw [h.vs (by omega), h.ks (by omega)]; rfl
theorem kS_inj {s u : PS} {b b' : Nat} (hs : s.Ok b) (hu : u.Ok b') (hk : s.kind = u.kind) (h : kS (stP s) = kS (stP u)) : stP s = stP u := by
  unfold kS keyT at h
  have e1 : (stP s).1 = s.kind := rfl
  have e2 : (stP u).1 = s.kind := hk.symm
  rw [e1, e2] at h
  by_cases hn : s.kind = 1 ∨ s.kind = 2
  · rw [if_pos hn, if_pos hn] at h
    have h1 := List.append_cancel_left h
    have h2 : Lib.itoa s.n = Lib.itoa u.n := (List.cons.inj h1).2
    have h3 := itoa_inj (ok_num hs) (ok_num hu) h2
    unfold stP
    rw [text_num hs hn, text_num hu (by rw [← hk]; exact hn), h3, hk]
  · rw [if_neg hn, if_neg hn] at h
    have h1 : s.text = u.text := List.append_cancel_left h
    have hk2 := hs.kind
    have h34 : s.kind = 3 ∨ s.kind = 4 := by omega
    unfold stP
    rw [h1, hk, hs.num h34, hu.num (by rw [← hk]; exact h34)]
theorem keyS_inj : ∀ {S U : List PS} {b b' : Nat}, OkS S b → OkS U b' → S.map (·.kind) = U.map (·.kind) → keyS (S.map stP) = keyS (U.map stP) → S.map stP = U.map stP := by
  intro S U b b' hS hU hk h
  have hl : S.length = U.length := by have := congrArg List.length hk; simpa using this
  unfold keyS at h
  have h1 := join_inj (by simp [hl]) (fun x hx => by simp at hx; obtain ⟨s, _, rfl⟩ := hx; exact kS_59 s) (fun x hx => by simp at hx; obtain ⟨s, _, rfl⟩ := hx; exact kS_59 s) h
  apply List.ext_getElem (by simp [hl])
  intro i hi hi'
  rw [List.length_map] at hi hi'
  rw [List.getElem_map, List.getElem_map]
  have ek : S[i].kind = U[i].kind := by
    have := congrArg (fun l : List Int => l[i]?) hk
    simpa [hi, hi'] using this
  refine kS_inj (hS _ (List.getElem_mem hi)) (hU _ (List.getElem_mem hi')) ek ?_
  have := congrArg (fun l : List (List UInt8) => l[i]?) h1
  simpa [hi, hi'] using this
end Go.Proofs.YtcjfcomadcebnaaGreatDoor

/- Do of the document's stores. -/
namespace Go.Proofs.YtcjfcomadcebnaaGreatDoor
open Go.RowKit Go.Maps Go.WideMaps Go.WideElems Go.ChangeShapes Go.WideShapes

theorem results_tmp4 {fn : Func} {t u v z : Tmp} (h : fn.results = #[.tmp t, .tmp u, .tmp v, .tmp z]) (tmps : Array Value) (P : Program) (w : World) :
    (results fn tmps).run P w = .ok (.tuple #[tmps.getD t undef, tmps.getD u undef, tmps.getD v undef, tmps.getD z undef]) w := by
  simp [results, h]
/-- The states of a store, as they lie. -/
def DsAt (W : World) (S : List PS) (xs : List Value) : Prop :=
  xs.length = S.length * 4 ∧ (∀ u ∈ xs, u.oneCell' = true) ∧ ∀ i s, S[i]? = some s → ∃ p q K V, (xs[i * 4]? = some p ∧ xs[i * 4 + 1]? = some q ∧ xs[i * 4 + 2]? = some K ∧ xs[i * 4 + 3]? = some V) ∧ DAt W s (.agg #[p, q, K, V])
/-- A store of the document. -/
def SAt (W : World) (S : List PS) (v : Value) : Prop :=
  ∃ a c xs, v = .slice a S.length c ∧ SlAt W a xs ∧ (a = none → c = 0) ∧ S.length ≤ c ∧ DsAt W S xs
theorem DAt.four {W : World} {s : PS} {v : Value} (h : DAt W s v) : ∃ (p q : Int) (a1 : Option Addr) (n1 c1 : Nat) (a2 : Option Addr) (n2 c2 : Nat), v = dv p q a1 n1 c1 a2 n2 c2 := by
  obtain ⟨ka, kc, va, vc, e, _⟩ := h
  exact ⟨_, _, _, _, _, _, _, _, e⟩
theorem DsAt.below {W V : World} {S : List PS} {xs : List Value} (h : DsAt W S xs) (hb : Below W.heap.size W V) : DsAt V S xs :=
  ⟨h.1, h.2.1, fun i s hs => by obtain ⟨p, q, K, U, h1, h2⟩ := h.2.2 i s hs; exact ⟨p, q, K, U, h1, h2.below hb⟩⟩
theorem SAt.below {W V : World} {S : List PS} {v : Value} (h : SAt W S v) (hb : Below W.heap.size W V) : SAt V S v := by
  obtain ⟨a, c, xs, e, h1, h2, h3, h4⟩ := h
  exact ⟨a, c, xs, e, h1.below hb, h2, h3, h4.below hb⟩
/-- What Do answers, of a store. -/
def Rdo7 (S : List PS) (i op key val : Int) (w : World) (e : Ending) (w' : World) : Prop :=
  match sdoR S i op key val with
  | .error c => e = .returned (.tuple #[.slice none 0 0, .int .i64 0, .int .i64 0, .int .i64 (errD c)]) ∧ Hid (Below w.heap.size w w')
  | .ok (X, r, g) => ∃ v', e = .returned (.tuple #[v', .int .i64 r, .int .i64 g, .int .i64 0]) ∧ Hid (SAt w' X v' ∧ Below w.heap.size w w')

set_option maxRecDepth 100000 in
set_option maxHeartbeats 2000000 in
theorem rdo7_out (a : Option Addr) (n c : Nat) (i op key val : Int) (hi : ¬(0 ≤ i ∧ i < n)) (w : World) :
    Calls Tryz.prog 36 #[.slice a n c, .int .i64 i, .int .i64 op, .int .i64 key, .int .i64 val] w fun e w' => e = .returned (.tuple #[.slice none 0 0, .int .i64 0, .int .i64 0, .int .i64 109]) ∧ Hid (Below w.heap.size w w') := by
  by_cases h0 : i < 0
  · go_enter Tryz.func36, Tryz.ntmps36
    go_wp2_with fail
    (try simp only [Exit.inBlock, Exit.then])
    refine bodyPost_ret (results_tmp4 rfl _ _ _) rfl ?_
    exact ⟨rfl, Below.refl _ _⟩
  · have h1 : (n : Int) ≤ i := by omega
    have h2 : decide (i < 0) = false := by simpa using h0
    clear hi
    go_enter Tryz.func36, Tryz.ntmps36
    go_wp2_with fail
    all_goals
      (try simp only [Exit.inBlock, Exit.then])
      refine bodyPost_ret (results_tmp4 rfl _ _ _) rfl ?_
      exact ⟨rfl, Below.refl _ _⟩

set_option maxRecDepth 100000 in
set_option maxHeartbeats 2000000 in
theorem rdo7_err (s : PS) (b : Nat) (hb : b ≤ 90000) (hs : s.Ok b) (a : Option Addr) (n c : Nat) (k : Nat) (hk : k < n) (p q K V : Value) (xs : List Value) (hp : xs[k * 4]? = some p) (hq : xs[k * 4 + 1]? = some q) (hK : xs[k * 4 + 2]? = some K) (hV : xs[k * 4 + 3]? = some V) (op key val : Int) (cd : Nat) (hd : doR s op key val = .error cd) (w : World) (h : SlAt w a xs) (hD : DAt w s (.agg #[p, q, K, V])) :
    Calls Tryz.prog 36 #[.slice a n c, .int .i64 k, .int .i64 op, .int .i64 key, .int .i64 val] w fun e w' => e = .returned (.tuple #[.slice none 0 0, .int .i64 0, .int .i64 0, .int .i64 (errD cd)]) ∧ Hid (Below w.heap.size w w') := by
  rcases h with ⟨_, h0⟩ | ⟨b', off, rfl, hbl, hc⟩
  · rw [h0] at hp; simp at hp
  have hlt : b' < w.heap.size := hbl (by intro e; rw [e] at hp; simp at hp)
  have u0 := hc _ _ hp
  have u1 : w.cell? ⟨b', off + k * 4 + 1, none⟩ = some q := hc _ _ hq
  have u2 : w.cell? ⟨b', off + k * 4 + 2, none⟩ = some K := hc _ _ hK
  have u3 : w.cell? ⟨b', off + k * 4 + 3, none⟩ = some V := hc _ _ hV
  have Ha := Lib.hid (rdo_any s b hb hs op key val _ w hD)
  have Hd := Lib.hid hd
  have h2 : decide ((k : Int) < 0) = false := by simp
  have h3 : decide ((n : Int) ≤ (k : Int)) = false := by simp; omega
  have hcd : (errD cd == 0) = false := by unfold errD; split <;> (try split) <;> rfl
  clear hc hbl hp hq hK hV hD hd
  go_enter Tryz.func36, Tryz.ntmps36
  go_wp2_with (first
    | (go_at_call 58; (with_reducible refine Ha.out.mono ?_); intro e w2 hr
       unfold RdoRes at hr
       rw [Hd.out] at hr
       obtain ⟨rfl, h4⟩ := hr
       obtain ⟨V3, hV3, b3, -, TB⟩ := cells_new w2 dz 39
       obtain ⟨F1, F2, F3, F4, hF1, hF2, hF3, hF4, ⟨⟨f0, e0⟩, ⟨f1, e1⟩, ⟨f2, e2⟩, ⟨f3, e3⟩⟩, HF, HE⟩ := mapped_box (w := w) (V := V3) (.int .i64 0) (.int .i64 0) (.slice none 0 0) (.slice none 0 0) TB.out h4.out.size
       have BX : Hid (Below w.heap.size w F4) := (stepB h4.out b3.out).trans HE.out.1))
  (try simp only [Exit.inBlock, Exit.then])
  refine bodyPost_ret (results_tmp4 rfl _ _ _) rfl ?_
  exact ⟨rfl, BX.out⟩

/-- A row's element of four cells written over. -/
theorem row_put4 {W : World} {B g n c k : Nat} {xs : List Value} (h : W.ownsRow B 39 4 (.slice (some ⟨g, 0, none⟩) n c) n xs) (hk : k < n) (hl : xs.length = n * 4) (p q r s : Value) :
    ∃ V1 V2 V3 V4, W.setCell ⟨g, k * 4, none⟩ p = V1 ∧ V1.setCell ⟨g, k * 4 + 1, none⟩ q = V2 ∧ V2.setCell ⟨g, k * 4 + 2, none⟩ r = V3 ∧ V3.setCell ⟨g, k * 4 + 3, none⟩ s = V4 ∧
      (((∃ x, W.cell? ⟨g, k * 4, none⟩ = some x) ∧ W.frozen? ⟨g, k * 4, none⟩ = false) ∧ ((∃ x, V1.cell? ⟨g, k * 4 + 1, none⟩ = some x) ∧ V1.frozen? ⟨g, k * 4 + 1, none⟩ = false) ∧ ((∃ x, V2.cell? ⟨g, k * 4 + 2, none⟩ = some x) ∧ V2.frozen? ⟨g, k * 4 + 2, none⟩ = false) ∧ ((∃ x, V3.cell? ⟨g, k * 4 + 3, none⟩ = some x) ∧ V3.frozen? ⟨g, k * 4 + 3, none⟩ = false)) ∧
      Hid (V4.ownsRow B 39 4 (.slice (some ⟨g, 0, none⟩) n c) n ((((xs.set (k * 4) p).set (k * 4 + 1) q).set (k * 4 + 2) r).set (k * 4 + 3) s)) ∧ Hid (∀ m, m ≤ g → Below m W V4) := by
  have r1 := (h.stored (k * 4) p).1
  have r2 := (r1.stored (k * 4 + 1) q).1
  have r3 := (r2.stored (k * 4 + 2) r).1
  have r4 := (r3.stored (k * 4 + 3) s).1
  refine ⟨_, _, _, _, rfl, rfl, rfl, rfl, ⟨⟨?_, h.frozenAt _⟩, ⟨?_, r1.frozenAt _⟩, ⟨?_, r2.frozenAt _⟩, ⟨?_, r3.frozenAt _⟩⟩, r4, fun m hm => ((((Below.refl m W).setCell (p := ⟨g, k * 4, none⟩) hm _).setCell (p := ⟨g, k * 4 + 1, none⟩) hm _).setCell (p := ⟨g, k * 4 + 2, none⟩) hm _).setCell (p := ⟨g, k * 4 + 3, none⟩) hm _⟩
  · rw [h.cellAt _ (by omega)]; exact ⟨_, List.getElem?_eq_getElem (by omega)⟩
  · rw [r1.cellAt _ (by omega)]; exact ⟨_, List.getElem?_eq_getElem (by simp; omega)⟩
  · rw [r2.cellAt _ (by omega)]; exact ⟨_, List.getElem?_eq_getElem (by simp; omega)⟩
  · rw [r3.cellAt _ (by omega)]; exact ⟨_, List.getElem?_eq_getElem (by simp; omega)⟩

/-- The states, one of them another. -/
theorem DsAt.set {W U V : World} {S : List PS} {xs : List Value} {k : Nat} {t : PS} {p q K L : Value} (h : DsAt W S xs) (hb : Below W.heap.size W V) (ht : DAt U t (.agg #[p, q, K, L])) (hu : Below U.heap.size U V) (hk : k < S.length) :
    DsAt V (S.set k t) ((((xs.set (k * 4) p).set (k * 4 + 1) q).set (k * 4 + 2) K).set (k * 4 + 3) L) := by
  obtain ⟨h1, h2, h3⟩ := h
  have hone : p.oneCell' = true ∧ q.oneCell' = true ∧ K.oneCell' = true ∧ L.oneCell' = true := by
    obtain ⟨ka, kc, va, vc, e, _⟩ := ht
    cases e
    exact ⟨rfl, rfl, rfl, rfl⟩
  refine ⟨by simp [h1], fun u hu => ?_, fun i s hs => ?_⟩
  · rcases List.mem_or_eq_of_mem_set hu with hu | rfl
    · rcases List.mem_or_eq_of_mem_set hu with hu | rfl
      · rcases List.mem_or_eq_of_mem_set hu with hu | rfl
        · rcases List.mem_or_eq_of_mem_set hu with hu | rfl
          · exact h2 u hu
          · exact hone.1
        · exact hone.2.1
      · exact hone.2.2.1
    · exact hone.2.2.2
  · by_cases hik : i = k
    · subst hik
      rw [List.getElem?_set_self hk] at hs
      cases hs
      refine ⟨p, q, K, L, ?_, ht.below hu⟩
      simp only [List.getElem?_set, List.length_set]
      refine ⟨?_, ?_, ?_, ?_⟩
      · rw [if_neg (by omega), if_neg (by omega), if_neg (by omega), if_pos True.intro, if_pos (by omega)]
      · rw [if_neg (by omega), if_neg (by omega), if_pos True.intro, if_pos (by omega)]
      · rw [if_neg (by omega), if_pos True.intro, if_pos (by omega)]
      · rw [if_pos True.intro, if_pos (by omega)]
    · rw [List.getElem?_set_ne (Ne.symm hik)] at hs
      obtain ⟨p', q', K', L', ⟨a1, a2, a3, a4⟩, hD⟩ := h3 i s hs
      refine ⟨p', q', K', L', ?_, hD.below hb⟩
      simp only [List.getElem?_set, List.length_set]
      refine ⟨?_, ?_, ?_, ?_⟩
      · rw [if_neg (by omega), if_neg (by omega), if_neg (by omega), if_neg (by omega)]; exact a1
      · rw [if_neg (by omega), if_neg (by omega), if_neg (by omega), if_neg (by omega)]; exact a2
      · rw [if_neg (by omega), if_neg (by omega), if_neg (by omega), if_neg (by omega)]; exact a3
      · rw [if_neg (by omega), if_neg (by omega), if_neg (by omega), if_neg (by omega)]; exact a4

set_option maxRecDepth 100000 in
set_option maxHeartbeats 4000000 in
theorem rdo7_ok (s : PS) (b : Nat) (hb : b ≤ 90000) (hs : s.Ok b) (S : List PS) (hS : S.length ≤ 1000) (a : Option Addr) (c : Nat) (k : Nat) (hk : k < S.length) (hsk : S[k]? = some s) (xs : List Value) (op key val : Int) (t : PS) (r g : Int) (hd : doR s op key val = .ok (t, r, g)) (w : World) (h : SlAt w a xs) (hD : DsAt w S xs) :
    Calls Tryz.prog 36 #[.slice a S.length c, .int .i64 k, .int .i64 op, .int .i64 key, .int .i64 val] w fun e w' => ∃ v', e = .returned (.tuple #[v', .int .i64 r, .int .i64 g, .int .i64 0]) ∧ Hid (SAt w' (S.set k t) v' ∧ Below w.heap.size w w') := by
  have HD := Lib.hid hD
  have HS := Lib.hid h
  obtain ⟨hlen, hone, hall⟩ := hD
  obtain ⟨p, q, K, V, ⟨hp, hq, hK, hV⟩, hDs⟩ := hall k s hsk
  rcases h with ⟨_, h0⟩ | ⟨b', off, rfl, hbl, hc⟩
  · rw [h0] at hp; simp at hp
  have hlt : b' < w.heap.size := hbl (by intro e; rw [e] at hp; simp at hp)
  have u0 := hc _ _ hp
  have u1 : w.cell? ⟨b', off + k * 4 + 1, none⟩ = some q := hc _ _ hq
  have u2 : w.cell? ⟨b', off + k * 4 + 2, none⟩ = some K := hc _ _ hK
  have u3 : w.cell? ⟨b', off + k * 4 + 3, none⟩ = some V := hc _ _ hV
  have Ha := Lib.hid (rdo_any s b hb hs op key val _ w hDs)
  have Hd := Lib.hid hd
  have Hlen := Lib.hid hlen
  have Hone := Lib.hid hone
  have h2 : decide ((k : Int) < 0) = false := by simp
  obtain ⟨n, hn⟩ : ∃ n, S.length = n := ⟨_, rfl⟩
  rw [hn] at hS hk
  have Hn := Lib.hid hn
  rw [hn]
  have h3 : decide ((n : Int) ≤ (k : Int)) = false := by simp; omega
  clear hc hbl hp hq hK hV hDs hall hd hlen hone hn
  go_enter Tryz.func36, Tryz.ntmps36
  go_wp2_with (first
    | (go_at_call 58; (with_reducible refine Ha.out.mono ?_); intro e w2 hr
       unfold RdoRes at hr
       rw [Hd.out] at hr
       obtain ⟨v', rfl, h4⟩ := hr
       obtain ⟨p', q', a1, n1, c1, a2, n2, c2, rfl⟩ := h4.out.1.four
       obtain ⟨V3, hV3, b3, -, TB⟩ := cells_new w2 dz 39
       obtain ⟨F1, F2, F3, F4, hF1, hF2, hF3, hF4, ⟨⟨f0, e0⟩, ⟨f1, e1⟩, ⟨f2, e2⟩, ⟨f3, e3⟩⟩, HF, HE⟩ := mapped_box (w := w2) (V := V3) (.int .i64 p') (.int .i64 q') (.slice a1 n1 c1) (.slice a2 n2 c2) TB.out (Nat.le_refl _)
       have B2F : Hid (Below w2.heap.size w2 F4) := b3.out.trans HE.out.1
       have BX : Hid (Below w.heap.size w F4) := stepB h4.out.2 B2F.out)
    | (go_at_call 59; (with_reducible refine (rcopy _ n c xs (by rw [Hlen.out, Hn.out]) (by omega) Hone.out F4 (HS.out.below BX.out)).mono ?_); rintro e w5 ⟨v5, rfl, h6⟩
       obtain ⟨g5, c5, rfl, hg5, -⟩ := h6.out.1.form (by omega)
       obtain ⟨⟨t0, t1⟩, t2, t3⟩ := row_four (keepB h6.out.2 HF.out)
       obtain ⟨G1, G2, G3, G4, hG1, hG2, hG3, hG4, ⟨⟨⟨x0, y0⟩, z0⟩, ⟨⟨x1, y1⟩, z1⟩, ⟨⟨x2, y2⟩, z2⟩, ⟨⟨x3, y3⟩, z3⟩⟩, HG, HGB⟩ := row_put4 h6.out.1 hk (by rw [Hlen.out, Hn.out]) (.int .i64 p') (.int .i64 q') (.slice a1 n1 c1) (.slice a2 n2 c2)
       have Hg5 : Hid (F4.heap.size ≤ g5) := hg5
       have Bw5 : Hid (Below w.heap.size w w5) := stepB BX.out h6.out.2))
  (try simp only [Exit.inBlock, Exit.then])
  refine bodyPost_ret (results_tmp4 rfl _ _ _) rfl ?_
  have l1 : w.heap.size ≤ g5 := Nat.le_trans BX.out.size Hg5.out
  have l2 : w2.heap.size ≤ g5 := Nat.le_trans B2F.out.size Hg5.out
  have Bf : Below w.heap.size w G4 := Bw5.out.trans (HGB.out _ l1)
  have Bg : Below w2.heap.size w2 G4 := (stepB B2F.out h6.out.2).trans (HGB.out _ l2)
  obtain ⟨_, _, e9, _, lc⟩ := row_sl HG.out
  cases e9
  refine ⟨_, rfl, ⟨some ⟨g5, 0, none⟩, c5, _, by show Value.slice (some ⟨g5, 0, none⟩) n c5 = _; rw [List.length_set, Hn.out], (row_sl0 HG.out).1, (fun e => by cases e), by rw [List.length_set, Hn.out]; exact lc, DsAt.set HD.out Bf h4.out.1 Bg (by rw [Hn.out]; exact hk)⟩, Bf⟩

theorem rdo7_any (S : List PS) (b : Nat) (hb : b ≤ 90000) (hS : OkS S b) (hl : S.length ≤ 1000) (v : Value) (w : World) (h : SAt w S v) (i op key val : Int) :
    Calls Tryz.prog 36 #[v, .int .i64 i, .int .i64 op, .int .i64 key, .int .i64 val] w (Rdo7 S i op key val w) := by
  obtain ⟨a, c, xs, rfl, h1, -, -, hD⟩ := h
  by_cases hi : 0 ≤ i ∧ i < S.length
  · obtain ⟨k, rfl⟩ : ∃ k : Nat, i = k := ⟨i.toNat, by omega⟩
    have hk : k < S.length := by omega
    have hsk : S[k]? = some S[k] := List.getElem?_eq_getElem hk
    have hok := hS _ (List.getElem_mem hk)
    rcases hd : doR S[k] op key val with cd | ⟨t, r, g⟩
    · obtain ⟨p, q, K, V, ⟨hp, hq, hK, hV⟩, hDs⟩ := hD.2.2 k _ hsk
      refine (rdo7_err S[k] b hb hok a S.length c k hk p q K V xs hp hq hK hV op key val cd hd w h1 hDs).mono fun e w' hr => ?_
      unfold Rdo7
      rw [sdoR_in hk, hd]
      exact hr
    · refine (rdo7_ok S[k] b hb hok S hl a c k hk hsk xs op key val t r g hd w h1 hD).mono fun e w' hr => ?_
      unfold Rdo7
      rw [sdoR_in hk, hd]
      exact hr
  · refine (rdo7_out a S.length c i op key val hi w).mono fun e w' hr => ?_
    unfold Rdo7
    rw [sdoR_out hi]
    exact hr
end Go.Proofs.YtcjfcomadcebnaaGreatDoor

/- ValidObject and New of the document. -/
namespace Go.Proofs.YtcjfcomadcebnaaGreatDoor
open Go.RowKit Go.Maps Go.WideMaps Go.WideElems Go.ChangeShapes Go.WideShapes

/-- The document's code of an object. -/
def objC (k i : Int) : Int := if validO k i = true then 0 else 109

theorem wordL_kind (k : Int) : (wordL 1 k).isEmpty = true ↔ ¬ (1 ≤ k ∧ k ≤ 4) := by
  by_cases h : 1 ≤ k ∧ k ≤ 4
  · have hk : k = 1 ∨ k = 2 ∨ k = 3 ∨ k = 4 := by omega
    rcases hk with rfl | rfl | rfl | rfl <;> simp [wordL_ref] <;> decide
  · rw [wordL_ref]
    have hl : (rrow 1).length = 4 := by decide
    rw [hl, if_neg (fun e => h (by simpa using e))]
    simp [h]
theorem validO_iff (k i : Int) : validO k i = true ↔ (1 ≤ k ∧ k ≤ 4) ∧ (-1000000000 ≤ i ∧ i ≤ 1000000000) ∧ (i = 0 ∨ k ≤ 2) := by
  have hw := wordL_kind k
  unfold validO nearB near
  by_cases h : 1 ≤ k ∧ k ≤ 4
  · have he : (wordL 1 k).isEmpty = false := by
      rcases hb : (wordL 1 k).isEmpty with _ | _
      · rfl
      · exact absurd h (hw.1 hb)
    rw [he]
    have hk : (k == 1 || k == 2) = decide (k ≤ 2) := by
      by_cases h2 : k ≤ 2
      · have : k = 1 ∨ k = 2 := by omega
        rcases this with rfl | rfl <;> rfl
      · have h3 : k ≠ 1 ∧ k ≠ 2 := by omega
        simp [h2, h3.1, h3.2]
    rw [hk]
    simp only [Bool.not_false, Bool.true_and, Bool.and_eq_true, Bool.or_eq_true, decide_eq_true_eq, beq_iff_eq]
    exact ⟨fun e => ⟨h, of_decide_eq_true e.1, e.2⟩, fun e => ⟨decide_eq_true e.2.1, e.2.2⟩⟩
  · have he : (wordL 1 k).isEmpty = true := hw.2 h
    rw [he]
    simp [h]
theorem objC_eq (k i : Int) : objC k i = if (1 ≤ k ∧ k ≤ 4) ∧ (-1000000000 ≤ i ∧ i ≤ 1000000000) ∧ (i = 0 ∨ k ≤ 2) then 0 else 109 := by
  unfold objC
  split
  · rename_i h; rw [if_pos ((validO_iff k i).1 h)]
  · rename_i h; rw [if_neg (fun e => h ((validO_iff k i).2 e))]

set_option maxRecDepth 100000 in
set_option maxHeartbeats 2000000 in
theorem rvalidO (k i : Int) (w : World) : Calls Tryz.prog 74 #[.agg #[.int .i64 k, .int .i64 i]] w fun e w' => e = .returned (.int .i64 (objC k i)) ∧ Hid (Below w.heap.size w w') := by
  obtain ⟨W, hW, Hb, hs, Hx⟩ := cells_new w #[.int .i64 k, .int .i64 i] 83
  have x0 : W.cell? ⟨w.heap.size, 0, none⟩ = some (.int .i64 k) := (cell_of_row _ _ 0 _ _ _ Hx.out).trans rfl
  have x1 : W.cell? ⟨w.heap.size, 1, none⟩ = some (.int .i64 i) := (cell_of_row _ _ 1 _ _ _ Hx.out).trans rfl
  go_enter Tryz.func74, Tryz.ntmps74
  go_wp2_with fail
  all_goals
    go_ret
    first
      | (refine ⟨(?_ : Ending.returned (Value.int .i64 109) = _), Hb.out⟩
         rw [objC_eq]
         (try simp only [bne_iff_ne, ne_eq] at *)
         rw [if_neg (by omega)])
      | (refine ⟨(?_ : Ending.returned (Value.int .i64 0) = _), Hb.out⟩
         rw [objC_eq]
         (try simp only [bne_eq_false_iff_eq] at *)
         rw [if_pos (by omega)])

set_option maxRecDepth 100000 in
set_option maxHeartbeats 2000000 in
/-- A state of the document as it begins. -/
theorem rnew_ok (k i : Int) (hv : validO k i = true) (w : World) : Calls Tryz.prog 57 #[.agg #[.int .i64 k, .int .i64 i]] w fun e w' => e = .returned (.tuple #[dv k i none 0 0 none 0 0, .int .i64 0]) ∧ Hid (Below w.heap.size w w') := by
  obtain ⟨W, hW, Hb, hs, Hx⟩ := cells_new w #[.int .i64 k, .int .i64 i] 83
  obtain ⟨W2, hW2, Hb2, hs2, Hx2⟩ := cells_new W dz 39
  have HV := Lib.hid (rvalidO k i W2)
  have e : objC k i = 0 := by unfold objC; rw [if_pos hv]
  rw [e] at HV
  have hx := keepB Hb2.out Hx.out
  have x0 : W2.cell? ⟨w.heap.size, 0, none⟩ = some (.int .i64 k) := (cell_of_row _ _ 0 _ _ _ hx).trans rfl
  have x1 : W2.cell? ⟨w.heap.size, 1, none⟩ = some (.int .i64 i) := (cell_of_row _ _ 1 _ _ _ hx).trans rfl
  have Hx' := Lib.hid hx
  clear hx hv
  go_enter Tryz.func57, Tryz.ntmps57
  go_wp2_with (first
    | (go_at_call 74; (with_reducible refine HV.out.mono ?_); rintro e w4 ⟨rfl, h4⟩
       have B4 : Hid (Below w.heap.size w w4) := stepB (stepB Hb.out Hb2.out) h4.out
       have hx4 := keepB h4.out Hx'.out
       have y0 : w4.cell? ⟨w.heap.size, 0, none⟩ = some (.int .i64 k) := (cell_of_row _ _ 0 _ _ _ hx4).trans rfl
       have y1 : w4.cell? ⟨w.heap.size, 1, none⟩ = some (.int .i64 i) := (cell_of_row _ _ 1 _ _ _ hx4).trans rfl
       clear hx4
       obtain ⟨F1, F2, F3, F4, hF1, hF2, hF3, hF4, ⟨⟨f0, e0⟩, ⟨f1, e1⟩, ⟨f2, e2⟩, ⟨f3, e3⟩⟩, HF, HE⟩ := mapped_box (w := w) (V := w4) (.int .i64 k) (.int .i64 i) (.slice none 0 0) (.slice none 0 0) (keepB h4.out Hx2.out) Hb.out.size))
  refine bodyPost_ret (results_row_tmp rfl _ _ W.heap.size 39 _ (0, 0) _ rfl HF.out Tryz.underlying39 rfl (by kernel_rfl)) rfl ?_
  exact ⟨rfl, B4.out.trans HE.out.1⟩
end Go.Proofs.YtcjfcomadcebnaaGreatDoor
