/- store.New of fit objects. -/
import Derived.Test.YtcjfcomadcebnaaGreatDoorHv
namespace Go.Proofs.YtcjfcomadcebnaaGreatDoor
open Go.RowKit Go.Maps Go.WideMaps Go.WideElems Go.ChangeShapes Go.WideShapes
variable {T : TypeId} {er : Nat → Addr}

/-- What holds once a state lies in its box, ahead of And. -/
structure Placed5 (w2 W3 : World) (B : Nat) (a' : Option Addr) (k c' : Nat) (xs : List Value) (p q : Int) (V5 : World) : Prop where
  box : Boxed V5 w2.heap.size 29 (.slice a' k c')
  row : V5.heap[B]? = some (.cells #[.int .i64 p, .int .i64 q, .string ⟨#[]⟩] 34)
  below : Below w2.heap.size w2 V5
  own : V5.ownsRow W3.heap.size 34 3 (.slice a' k c') k xs
  size : W3.heap.size ≤ V5.heap.size
theorem ownsRow_below {W W' : World} {B e size n : Nat} {v : Value} {xs : List Value} (h : W.ownsRow B e size v n xs) (hb : Below W.heap.size W W') : W'.ownsRow B e size v n xs :=
  ⟨h.1, h.2.imp id fun ⟨g, cap, cur, e, hB, hg, r⟩ => ⟨g, cap, cur, e, hB, (hb.block g (Array.getElem?_eq_some_iff.1 hg).1).trans hg, r⟩⟩
theorem placed5 {w2 W3 A w4 : World} {a' : Option Addr} {k c' : Nat} {xs : List Value} {p q : Int} (hs3 : w2.heap.size < W3.heap.size) (hA : Below w2.heap.size w2 A) (hB : Boxed A w2.heap.size 29 (.slice a' k c')) (hr : A.ownsRow W3.heap.size 34 3 (.slice a' k c') k xs) (hA3 : W3.heap.size ≤ A.heap.size) (h4 : Below A.heap.size A w4) :
    ∃ W5 V5, w4.alloc (.cells #[.int .i64 p, .int .i64 q, .string ⟨#[]⟩] 34) = W5 ∧ W5.setCell ⟨w4.heap.size, 2, none⟩ (.string ⟨#[]⟩) = V5 ∧ (W5.cell? ⟨w4.heap.size, 2, none⟩ = some (.string ⟨#[]⟩) ∧ W5.frozen? ⟨w4.heap.size, 2, none⟩ = false) ∧ Hid (Placed5 w2 W3 w4.heap.size a' k c' xs p q V5) := by
  obtain ⟨W5, hW5, Hb5, hs5, Hp5⟩ := cells_new w4 #[.int .i64 p, .int .i64 q, .string ⟨#[]⟩] 34
  have h24 : w2.heap.size < w4.heap.size := Nat.lt_of_lt_of_le (Nat.lt_of_lt_of_le hs3 hA3) h4.size
  have hr5 : W5.ownsRow W3.heap.size 34 3 (.slice a' k c') k xs := ownsRow_below (ownsRow_below hr h4) Hb5.out
  have hr4 := ownsRow_below hr h4
  refine ⟨W5, _, hW5, rfl, ⟨(row_three Hp5.out).2.2, frozen_of_row _ _ 2 _ _ Hp5.out⟩, ?_, heap_setCell_same W5 _ 2 _ _ _ Hp5.out, ?_, ?_, ?_⟩
  · exact boxed_setCell (boxed_below (boxed_below hB h4 (Nat.lt_of_lt_of_le hs3 hA3)) Hb5.out h24) (Nat.ne_of_gt h24) _
  · exact ((hA.trans (h4.mono hA.size)).trans (Hb5.out.mono (Nat.le_of_lt h24))).setCell (p := ⟨w4.heap.size, 2, none⟩) (Nat.le_of_lt h24) _
  · refine ⟨hr5.1, hr5.2.imp id ?_⟩
    rintro ⟨g, cap, cur, e, hB, hg, r⟩
    rcases hr4.2 with ⟨e', _⟩ | ⟨g', cap', cur', e', _, hg', _⟩
    · rw [e] at e'; cases e'
    · rw [e] at e'; cases e'
      exact ⟨g, cap, cur, e, hB, (Below.heap_setCell _ _ _ _ (by have := (Array.getElem?_eq_some_iff.1 hg').1; show g ≠ w4.heap.size; omega)).trans hg, r⟩
  · exact Nat.le_trans hA3 (Nat.le_trans h4.size (Nat.le_trans Hb5.out.size ((Below.refl 0 W5).setCell (p := ⟨w4.heap.size, 2, none⟩) (Nat.zero_le _) _).size))

/-- The states of objects, as cells. -/
def stc (os : List (Int × Int)) : List Value := os.flatMap fun o => [.int .i64 o.1, .int .i64 o.2, .string ⟨#[]⟩]
theorem stc_len (os : List (Int × Int)) : (stc os).length = os.length * 3 := by
  induction os with
  | nil => rfl
  | cons o os ih => show (_ :: _ :: _ :: stc os).length = _; simp [ih]; omega
theorem stc_one (os : List (Int × Int)) : ∀ u ∈ stc os, u.oneCell' = true := by
  intro u hu
  simp [stc] at hu
  rcases hu with ⟨_, _, _, rfl | rfl | rfl⟩ <;> rfl
theorem stc_succ (os : List (Int × Int)) (k : Nat) (h : k < os.length) : stc (os.take (k + 1)) = stc (os.take k) ++ [.int .i64 os[k].1, .int .i64 os[k].2, .string ⟨#[]⟩] := by
  show List.flatMap _ (os.take (k + 1)) = _
  rw [List.take_succ_eq_append_getElem h, List.flatMap_append]
  rfl
theorem row_sl0 {W : World} {B : Nat} {e : TypeId} {size n c : Nat} {a : Option Addr} {xs : List Value} (h : W.ownsRow B e size (.slice a n c) n xs) : SlAt W a xs ∧ (a = none → c = 0) := by
  obtain ⟨a', c', e', hs, _⟩ := row_sl h
  cases e'
  refine ⟨hs, fun ha => ?_⟩
  rcases h.2 with ⟨e1, _⟩ | ⟨g, cap, cur, e1, _⟩
  · cases e1; rfl
  · subst ha; cases e1

set_option maxHeartbeats 1000000 in
set_option maxRecDepth 100000 in
theorem snew_ok (a : Option Addr) (c : Nat) (os : List (Int × Int)) (hn : os.length ≤ 8) (hv : ∀ o ∈ os, validO o.1 o.2 = true) (w : World) (h : SlAt w a (obs os)) (hG : Glob T er w) :
    Calls Tryz.prog 34 #[.slice a os.length c] w fun e w' => ∃ v', e = .returned (.tuple #[.agg #[v'], .nilIface]) ∧ Hid (w'.ownsRow w.heap.size 34 3 v' os.length (stc os) ∧ Below w.heap.size w w') := by
  have HV := Lib.hid (fun W' (hb : Below w.heap.size w W') => hvalid_ok (T := T) (er := er) a c os hn hv W' (h.below hb) (hG.below' hb))
  obtain ⟨n, hnn⟩ : ∃ n, os.length = n := ⟨_, rfl⟩
  rw [hnn] at hn HV ⊢
  obtain ⟨W, hW, Hb, hs, Hx⟩ := box_new w 29 (.slice none 0 0)
  go_enter Tryz.func34, Tryz.ntmps34
  go_wp2_with (first | (go_at_call 53; refine (HV.out _ Hb.out).mono ?_; rintro e w2 ⟨rfl, h2⟩; obtain ⟨W3, hW3, Hb3, hs3, Hs⟩ := box_new w2 29 (.slice none 0 0)))
  have Hw3 : Hid (Below w.heap.size w W3) := (Hb.out.trans (h2.out.mono Hb.out.size)).trans (Hb3.out.mono (Nat.le_trans Hb.out.size h2.out.size))
  have Hob : Hid (∀ k, k < n → ∀ W', Below w2.heap.size w2 W' → ∃ b off p q, a = some ⟨b, off, none⟩ ∧ validO p q = true ∧ os[k]? = some (p, q) ∧ W'.cell? ⟨b, off + k * 2, none⟩ = some (.int .i64 p) ∧ W'.cell? ⟨b, off + k * 2 + 1, none⟩ = some (.int .i64 q)) := by
    intro k hk W' hb'
    have hk' : k < os.length := by omega
    obtain ⟨g0, g1⟩ := obs_get os k hk'
    have hbb : Below w.heap.size w W' := (Hb.out.trans (h2.out.mono Hb.out.size)).trans (hb'.mono (Nat.le_trans Hb.out.size h2.out.size))
    rcases h with ⟨_, h0⟩ | ⟨b, off, rfl, hbl, hc⟩
    · rw [h0] at g0; simp at g0
    have hb2 : b < w.heap.size := hbl (by intro e; rw [e] at g0; simp at g0)
    exact ⟨b, off, _, _, rfl, hv _ (List.getElem_mem hk'), List.getElem?_eq_getElem hk', (hbb.cell (p := ⟨b, off + k * 2, none⟩) hb2).trans (hc _ _ g0), (hbb.cell (p := ⟨b, off + (k * 2 + 1), none⟩) hb2).trans (hc _ _ g1)⟩
  have HG2 := Lib.hid ((hG.below' Hb.out).below' h2.out)
  clear h hv hG
  go_loopw [19] (fun i wr => ∃ (k : Nat) (a' : Option Addr) (c' : Nat), k ≤ n ∧ i = .int .i64 k ∧ Hid (wr.ownsRow W3.heap.size 34 3 (.slice a' k c') k (stc (os.take k))) ∧ Hid (Boxed wr w2.heap.size 29 (.slice a' k c')) ∧ Hid (Below w2.heap.size w2 wr) ∧ Hid (W3.heap.size ≤ wr.heap.size)) (fun i _ => n - (intOf i).toNat)
  case atStart => exact ⟨0, none, 0, Nat.zero_le _, rfl, World.ownsRow_nil _ _ _ _, Hs.out, Hb3.out, Nat.le_refl _⟩
  case round =>
    obtain ⟨k, a', c', hk, rfl, Hrow, HB, Hr, Hz⟩ := hrel
    by_cases hlt : k < n
    · obtain ⟨b, off, p, q, rfl, hvv, hos, c0, c1⟩ := Hob.out k hlt wr Hr.out
      have hval : newV T er p q = .tuple #[stv p q [], .nilIface] := by unfold newV; rw [hvv]; rfl
      have HN := Lib.hid (fun W' (hb : Below w2.heap.size w2 W') => hval ▸ new_any (T := T) (er := er) p q W' (HG2.out.below' hb))
      clear hval hvv
      have HA : Hid (Below w2.heap.size w2 (wr.alloc (.cells #[.int .i64 p, .int .i64 q] 83))) := Hr.out.alloc Hr.out.size _
      have HBA : Hid (Boxed (wr.alloc (.cells #[.int .i64 p, .int .i64 q] 83)) w2.heap.size 29 (.slice a' k c')) := HB.out.alloc _
      have Hrow2 := Lib.hid (Hrow.out.alloc (.cells #[.int .i64 p, .int .i64 q] 83))
      have hA3 : Hid (W3.heap.size ≤ (wr.alloc (.cells #[.int .i64 p, .int .i64 q] 83)).heap.size) := by show _ ≤ _; simp; exact Nat.le_trans Hz.out (Nat.le_succ _)
      have Hkn : Hid (k < os.length ∧ (os.take k).length = k ∧ k ≤ 8) := ⟨by omega, by simp; omega, by omega⟩
      have Hos := Lib.hid hos
      clear hos
      go_wp2_with (first
        | (go_at_call 54; refine (HN.out _ HA.out).mono ?_; rintro e w4 ⟨rfl, h4⟩; obtain ⟨W5, V5, hW5, hV5, ⟨k2, k3⟩, H5⟩ := placed5 (p := p) (q := q) hs3.out HA.out HBA.out Hrow2.out hA3.out h4.out; obtain ⟨y0, y1, y2⟩ := row_three H5.out.row; have b5 := H5.out.box.cell)
        | (go_at_call 55; obtain ⟨hsl, hcz⟩ := row_sl0 H5.out.own; refine (and_sta a' k c' (stc (os.take k)) (by rw [stc_len, Hkn.out.2.1]) (stc_one _) (by have := Hkn.out.2.2; omega) p q ⟨#[]⟩ V5 hsl hcz).mono ?_; clear hsl hcz; rintro e w6 ⟨v6, rfl, h6⟩; obtain ⟨a6, c6, rfl, -, -⟩ := row_sl h6.out.1; have H6 := Lib.hid (boxed_below H5.out.box h6.out.2 (Nat.lt_of_lt_of_le hs3.out H5.out.size)); have b6 := H6.out.cell; have f6 := H6.out.frozen))
      have Hfin : Hid ((w6.setCell ⟨w2.heap.size, 0, none⟩ (.slice a6 (k + 1) c6)).ownsRow W3.heap.size 34 3 (.slice a6 (k + 1) c6) (k + 1) (stc (os.take (k + 1)))) := by
        show World.ownsRow _ _ _ _ _ _ _
        have e7 : os[k] = (p, q) := by have h9 := Hos.out; rw [List.getElem?_eq_getElem Hkn.out.1] at h9; exact Option.some.inj h9
        rw [stc_succ os k Hkn.out.1, e7]
        exact ownsRow_setCell_below (row_base h6.out.1 H5.out.size) hs3.out _
      have HBf : Hid (Boxed (w6.setCell ⟨w2.heap.size, 0, none⟩ (.slice a6 (k + 1) c6)) w2.heap.size 29 (.slice a6 (k + 1) c6)) := H6.out.set _
      have Hrf : Hid (Below w2.heap.size w2 (w6.setCell ⟨w2.heap.size, 0, none⟩ (.slice a6 (k + 1) c6))) := (H5.out.below.trans (h6.out.2.mono H5.out.below.size)).setCell (p := ⟨w2.heap.size, 0, none⟩) (Nat.le_refl _) _
      have Hzf : Hid (W3.heap.size ≤ (w6.setCell ⟨w2.heap.size, 0, none⟩ (.slice a6 (k + 1) c6)).heap.size) := Nat.le_trans H5.out.size (Nat.le_trans h6.out.2.size ((Below.refl 0 w6).setCell (p := ⟨w2.heap.size, 0, none⟩) (Nat.zero_le _) _).size)
      clear H5 h6 H6 HB Hr Hrow Hz HA HBA Hrow2 hA3 h4 HN
      go_roundw
      case rel => exact ⟨k + 1, a6, c6, by omega, by go_num, Hfin.out, HBf.out, Hrf.out, Hzf.out⟩
      case measure => simp [intOf]; omega
    · have hkn : k = n := by omega
      have hfull : os.take k = os := List.take_of_length_le (by omega)
      rw [hfull] at Hrow
      have HX : Hid (Boxed wr w.heap.size 29 (.slice none 0 0)) := boxed_below (boxed_below Hx.out h2.out hs.out) Hr.out (Nat.lt_of_lt_of_le hs.out h2.out.size)
      have q0 := HB.out.cell
      have q1 := HX.out.cell
      have q2 := HX.out.frozen
      clear hfull
      subst hkn
      go_wp2_with fail
      refine bodyPost_ret (results_row_tmp rfl _ _ w.heap.size 29 #[.slice a' k c'] (0, 0) _ rfl (HX.out.set _) Tryz.underlying29 rfl (by kernel_rfl)) rfl ?_
      have hlt3 : w.heap.size < W3.heap.size := Nat.lt_of_lt_of_le hs.out (Nat.le_trans h2.out.size (Nat.le_of_lt hs3.out))
      refine ⟨_, rfl, row_base (ownsRow_setCell_below Hrow.out hlt3 _) (Nat.le_of_lt hlt3), ?_⟩
      exact (((Hb.out.trans (h2.out.mono Hb.out.size)).trans (Hr.out.mono (Nat.le_trans Hb.out.size h2.out.size)))).setCell (p := ⟨w.heap.size, 0, none⟩) (Nat.le_refl _) _
end Go.Proofs.YtcjfcomadcebnaaGreatDoor
