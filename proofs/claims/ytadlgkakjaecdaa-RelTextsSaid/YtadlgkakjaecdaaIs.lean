/- is: the relation has just the document's pairs; by a contract. -/
import Derived.Test.YtadlgkakjaecdaaMa
namespace Go.Proofs.Ytadlgkakjaecdaa
open Go.RowKit Go.Maps Go.WideMaps Go.WideElems Go.ChangeShapes Go.WideShapes

set_option maxHeartbeats 4000000 in
set_option maxRecDepth 100000 in
theorem is_any (r b : Nat) (L : List Pr) (D : DU) (hn : L.length ≤ 10000) (a : Option Addr) (c : Nat) (M : List Pr) (hM : RiseP M) (hLM : ∀ q, q ∈ L ↔ q ∈ M) (w : World) (h : RelAt r b L D w) (hs : SlP w a M) :
    Calls Try.prog 20 #[.pointer (some ⟨r, 0, none⟩), .slice a M.length c] w fun e w' => e = .returned (.bool true) ∧ Hid (Below w.heap.size w w') := by
  have H := Lib.hid h
  have Hs := Lib.hid hs
  have HM := Lib.hid hM
  have HLM := Lib.hid hLM
  have hlen : L.length = M.length := Nat.le_antisymm (nodup_len h.prs.once (fun p hp => (hLM p).1 hp)) (nodup_len (rise_nodup hM) (fun p hp => (hLM p).2 hp))
  have Hlen := Lib.hid hlen
  have Hp := Lib.hid (pairs_any r b L D (by omega) w h)
  obtain ⟨n, hnn⟩ : ∃ n, M.length = n := ⟨_, rfl⟩
  rw [hnn] at Hlen ⊢
  have Hn := Lib.hid hnn
  have hn1 : n ≤ 10000 := by rw [← hnn, ← hlen]; exact hn
  clear h hs hM hLM hn hlen hnn
  go_enter Try.func20, Try.ntmps20
  go_wp2_with (first
    | (go_at_call 36; refine Hp.out.mono ?_; rintro e w1 ⟨v1, l, rfl, h1⟩
       obtain ⟨a1, c1, rfl, -, hsl1⟩ := row_slP h1.out.2.2.2.1
       have hlM : l = M := rise_ext h1.out.1 HM.out (fun q => (h1.out.2.1 q).trans (HLM.out q))
       have hl1 := h1.out.2.2.1
       subst hlM
       rw [Hn.out] at hl1 ⊢
       have Hsl1 := Lib.hid hsl1
       have Hb1 : Hid (Below w.heap.size w w1) := h1.out.2.2.2.2
       have Hr1 := Lib.hid (H.out.below Hb1.out)
       have Hl35 := Lib.hid (len_any r b L D w1 Hr1.out)
       rw [Hlen.out] at Hl35
       clear hl1 hsl1 h1)
    | (go_at_call 35; refine Hl35.out.mono ?_; rintro e w2 ⟨rfl, rfl⟩)
    | go_in)
  go_loopw [6] (fun i wr => ∃ k : Nat, i = .int .i64 k ∧ k ≤ n ∧ Hid (SlP wr a1 l ∧ SlP wr a l ∧ Below w.heap.size w wr)) (fun i _ => n - (intOf i).toNat)
  case atStart => exact ⟨0, rfl, Nat.zero_le _, Hsl1.out, Hs.out.below Hb1.out, Hb1.out⟩
  case round =>
    obtain ⟨k, rfl, hk, HR⟩ := hrel
    by_cases hlt : k < n
    · obtain ⟨b1, off1, e1, p0, p1⟩ := HR.out.1.at (k := k) (by rw [Hn.out]; exact hlt)
      obtain ⟨b2, off2, e2, r0, r1⟩ := HR.out.2.1.at (k := k) (by rw [Hn.out]; exact hlt)
      cases e1
      cases e2
      obtain ⟨q, hq⟩ : ∃ q, l.getD k (0, 0) = q := ⟨_, rfl⟩
      obtain ⟨q1, q2⟩ := q
      rw [hq] at p0 p1 r0 r1
      simp only at p0 p1 r0 r1
      clear hq
      go_wp2
      go_region_held3 (fun w' => w'.cell? ⟨b1, off1 + k * 2, none⟩ = some (.int .i64 q1) ∧ w'.cell? ⟨b1, off1 + k * 2 + 1, none⟩ = some (.int .i64 q2) ∧ w'.cell? ⟨b2, off2 + k * 2, none⟩ = some (.int .i64 q1) ∧ w'.cell? ⟨b2, off2 + k * 2 + 1, none⟩ = some (.int .i64 q2)) (go_keep) (fail)
      try clear hHeld
      go_wp2
      go_roundw
      case rel => exact ⟨k + 1, by go_num, by omega, HR.out.1, HR.out.2.1, HR.out.2.2.drew⟩
      case measure => simp [intOf]; omega
    · have hkn : k = n := by omega
      subst hkn
      clear hlt hk
      go_wp2
      go_ret
      exact ⟨rfl, HR.out.2.2⟩
end Go.Proofs.Ytadlgkakjaecdaa
