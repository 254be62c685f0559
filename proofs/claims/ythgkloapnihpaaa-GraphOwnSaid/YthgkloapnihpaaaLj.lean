/- Has the program's graph just the document's nodes and edges: is, by a contract. -/
import Derived.Test.YthgkloapnihpaaaM11
namespace Go.Proofs.Ythgkloapnihpaaa
open Go.RowKit Go.Maps Go.WideMaps Go.WideElems Go.ChangeShapes Go.WideShapes

theorem Gr.edgesAt {g c : Nat} {N : List Int} {E : List Ed} {W : World} (h : Gr g c N E W) (hc : c ≤ 100000) (hE : E.length ≤ 1000) (hN : N.length ≤ 1000) : Calls Try.prog 37 #[.pointer (some ⟨g, 0, none⟩)] W fun e w' => ∃ p c, e = .returned (.slice p E.length c) ∧ Hid (SlE w' p E ∧ Below W.heap.size W w') := by
  obtain ⟨Z, B, h⟩ := h
  refine (edges_at hc hE hN W h).mono ?_
  rintro e w' ⟨v, rfl, K⟩
  obtain ⟨p, c, rfl, -, hs⟩ := row_slE K.out.1
  exact ⟨p, c, rfl, hs, K.out.2⟩
theorem same_n (a1 a2 : Option Addr) (c1 c2 n : Nat) {l : List Int} (hl : l.length = n) (hn : n ≤ 100000) (w : World) (h1 : SlI w a1 l) (h2 : SlI w a2 l) :
    Calls Try.prog 17 #[.slice a1 n c1, .slice a2 n c2] w fun e w' => e = .returned (.bool true) ∧ Hid (Below w.heap.size w w') := by
  subst hl
  exact same_ints a1 a2 c1 c2 l hn w h1 h2
set_option maxHeartbeats 16000000 in
set_option maxRecDepth 100000 in
theorem is_any {g c : Nat} {N : List Int} {E : List Ed} (a a' : Option Addr) (k k' n m : Nat) (hn : N.length = n) (hm : E.length = m) (hc : c ≤ 100000) (hN : n ≤ 500) (hE : m ≤ 500) (w : World) (h : Gr g c N E w) (hd : DgAt w a a' N E) :
    Calls Try.prog 22 #[.pointer (some ⟨g, 0, none⟩), gval a n k a' m k'] w fun e w' => e = .returned (.bool true) ∧ Hid (Below w.heap.size w w') := by
  obtain ⟨W1, hW1, Hb1, hs1, Hx1⟩ := two_any w (.slice a n k) (.slice a' m k') 29
  have HG := Lib.hid (h.below Hb1.out)
  have HD := Lib.hid (hd.below Hb1.out)
  have Hn := Lib.hid hn
  have Hm := Lib.hid hm
  have HNd := Lib.hid ((HG.out.below (Below.refl _ W1).drew).nodes hc)
  rw [hn] at HNd
  have HSall : Hid (∀ W, Below W1.heap.size W1 W → W.cell? ⟨w.heap.size, 0, none⟩ = some (.slice a n k) ∧ W.cell? ⟨w.heap.size, 1, none⟩ = some (.slice a' m k')) := fun W hb => two_at ((hb.block _ hs1.out).trans Hx1.out)
  obtain ⟨x0, x1⟩ := HSall.out W1 (Below.refl _ _)
  clear h hd hn hm
  go_enter Try.func22, Try.ntmps22
  go_wp2
  go_region_held3 (fun w' => w'.cell? ⟨w.heap.size, 0, none⟩ = some (.slice a n k) ∧ w'.cell? ⟨w.heap.size, 1, none⟩ = some (.slice a' m k')) (first | (with_reducible exact HSall.out _ HB4.out) | (with_reducible exact HSall.out _ HB3.out) | go_keep)
    (first
      | (go_at_call 32; refine HNd.out.mono ?_; rintro e w3 ⟨p3, c3, rfl, K3⟩
         have HB3 : Hid (Below W1.heap.size W1 w3) := (Below.refl _ W1).drew.trans K3.out.2
         have HS := Lib.hid (same_n p3 a c3 k n Hn.out (by omega) w3 K3.out.1 (HD.out.nodes.gro HB3.out (Nat.le_refl _))))
      | (go_at_call 17; (with_reducible refine HS.out.mono ?_); rintro e w4 ⟨rfl, K4⟩
         have HB4 : Hid (Below W1.heap.size W1 w4) := HB3.out.trans (K4.out.mono HB3.out.size)))
  have HEd := Lib.hid ((HG.out.below HB4.out).edgesAt hc (by rw [Hm.out]; omega) (by rw [Hn.out]; omega))
  rw [Hm.out] at HEd
  go_wp2_with (first
    | (go_at_call 37; (with_reducible refine HEd.out.mono ?_); rintro e w5 ⟨p5, c5, rfl, K5⟩
       have HB5 : Hid (Below W1.heap.size W1 w5) := HB4.out.trans (K5.out.2.mono HB4.out.size)
       obtain ⟨y0, y1⟩ := HSall.out w5 HB5.out)
    | go_in)
  try go_frame
  go_loopw [7] (fun i wr => ∃ q : Nat, q ≤ m ∧ i = .int .i64 ((q : Nat) : Int) ∧ Hid (Below w5.heap.size w5 wr)) (fun i _ => m - (intOf i).toNat)
  case atStart => exact ⟨0, Nat.zero_le _, rfl, Below.refl _ _⟩
  case round =>
    obtain ⟨q, hq, rfl, HR⟩ := hrel
    obtain ⟨wa, hwa⟩ : ∃ wa, wa = wr := ⟨_, rfl⟩
    subst hwa
    by_cases hlt : q < m
    · have hqo : q < E.length := by rw [Hm.out]; exact hlt
      obtain ⟨x, hx⟩ : ∃ x, E.getD q e0 = x := ⟨_, rfl⟩
      obtain ⟨f1, f2, f3⟩ := x
      obtain ⟨b5, o5, rfl, -⟩ := (K5.out.1.gro HR.out (Nat.le_refl _)).at hqo
      obtain ⟨c0, c1, c2⟩ := (K5.out.1.gro HR.out (Nat.le_refl _)).cells hqo hx
      have hb1 := HB5.out.trans (HR.out.mono HB5.out.size)
      obtain ⟨b6, o6, rfl, -⟩ := (HD.out.edges.gro hb1 (Nat.le_refl _)).at hqo
      obtain ⟨d0, d1, d2⟩ := (HD.out.edges.gro hb1 (Nat.le_refl _)).cells hqo hx
      obtain ⟨z0, z1⟩ := HSall.out wa hb1
      have hltI : (q : Int) < (m : Int) := by omega
      have hq0 : (0 : Int) ≤ (q : Int) := by omega
      have Hlt := Lib.hid hlt
      clear hqo hx hb1
      go_wp2
      go_quiet (fail)
      go_wp2
      go_roundw
      case rel => exact ⟨q + 1, Hlt.out, by go_num, HR.out.trans ((drewN_below wa nq).mono HR.out.size)⟩
      case measure => simp [intOf]; omega
    · have hqm : q = m := by omega
      subst hqm
      go_wp2
      go_ret
      exact ⟨rfl, Hb1.out.trans ((HB5.out.trans (HR.out.mono HB5.out.size)).mono Hb1.out.size)⟩
end Go.Proofs.Ythgkloapnihpaaa
