/- hist.Valid of objects without events. -/
import Derived.Test.YtcjfcomadcebnaaGreatDoorLt
namespace Go.Proofs.YtcjfcomadcebnaaGreatDoor
open Go.RowKit Go.Maps Go.WideMaps Go.WideElems Go.ChangeShapes Go.WideShapes
variable {T : TypeId} {er : Nat → Addr}

/-- Objects as cells. -/
def obs (os : List (Int × Int)) : List Value := os.flatMap fun o => [.int .i64 o.1, .int .i64 o.2]

theorem obs_get : ∀ (os : List (Int × Int)) (k : Nat) (h : k < os.length), (obs os)[k * 2]? = some (.int .i64 os[k].1) ∧ (obs os)[k * 2 + 1]? = some (.int .i64 os[k].2)
  | [], k, h => by simp at h
  | o :: os, 0, _ => ⟨rfl, rfl⟩
  | o :: os, k + 1, h => by
    have ih := obs_get os k (by simpa using h)
    have e : obs (o :: os) = .int .i64 o.1 :: .int .i64 o.2 :: obs os := rfl
    rw [e, show (k + 1) * 2 = k * 2 + 1 + 1 from by omega]
    simp only [List.getElem?_cons_succ, List.getElem_cons_succ]
    exact ih

set_option maxHeartbeats 1000000 in
set_option maxRecDepth 100000 in
theorem hvalid_ok (a : Option Addr) (c : Nat) (os : List (Int × Int)) (hn : os.length ≤ 8) (hv : ∀ o ∈ os, validO o.1 o.2 = true) (w : World) (h : SlAt w a (obs os)) (hG : Glob T er w) :
    Calls Tryz.prog 53 #[.agg #[.slice a os.length c, .slice none 0 0]] w fun e w' => e = .returned .nilIface ∧ Hid (Below w.heap.size w w') := by
  obtain ⟨n, hnn⟩ : ∃ n, os.length = n := ⟨_, rfl⟩
  rw [hnn] at hn ⊢
  obtain ⟨W, hW, Hb, hs, Hx⟩ := cells_new w #[.slice a n c, .slice none 0 0] 102
  have Hob : Hid (∀ k, k < n → ∀ W', Below W.heap.size W W' → ∃ b off p q, a = some ⟨b, off, none⟩ ∧ validO p q = true ∧ W'.cell? ⟨b, off + k * 2, none⟩ = some (.int .i64 p) ∧ W'.cell? ⟨b, off + k * 2 + 1, none⟩ = some (.int .i64 q)) := by
    intro k hk W' hb'
    have hk' : k < os.length := by omega
    have g0 : (obs os)[k * 2]? = some (.int .i64 os[k].1) := (obs_get os k hk').1
    have g1 : (obs os)[k * 2 + 1]? = some (.int .i64 os[k].2) := (obs_get os k hk').2
    rcases h with ⟨_, h0⟩ | ⟨b, off, rfl, hbl, hc⟩
    · rw [h0] at g0; simp at g0
    have hb2 : b < w.heap.size := hbl (by intro e; rw [e] at g0; simp at g0)
    refine ⟨b, off, _, _, rfl, hv _ (List.getElem_mem hk'), ?_, ?_⟩
    · exact (hb'.cell (p := ⟨b, off + k * 2, none⟩) (Nat.lt_trans hb2 hs.out)).trans ((Hb.out.cell (p := ⟨b, off + k * 2, none⟩) hb2).trans (hc _ _ g0))
    · exact (hb'.cell (p := ⟨b, off + (k * 2 + 1), none⟩) (Nat.lt_trans hb2 hs.out)).trans ((Hb.out.cell (p := ⟨b, off + (k * 2 + 1), none⟩) hb2).trans (hc _ _ g1))
  have HGW := Lib.hid (hG.below' Hb.out)
  clear h hv hG
  have x0 : W.cell? ⟨w.heap.size, 0, none⟩ = some (.slice a n c) := (cell_of_row _ _ 0 _ _ _ Hx.out).trans rfl
  have x1 : W.cell? ⟨w.heap.size, 1, none⟩ = some (.slice none 0 0) := (cell_of_row _ _ 1 _ _ _ Hx.out).trans rfl
  have hd8 : decide (8 < (n : Int)) = false := by simp; omega
  go_enter Tryz.func53, Tryz.ntmps53
  go_wp2_with fail
  go_loopw [23] (fun i wr => ∃ k : Nat, k ≤ n ∧ i = .int .i64 k ∧ Hid (Below W.heap.size W wr)) (fun i _ => n - (intOf i).toNat)
  case atStart => exact ⟨0, Nat.zero_le _, rfl, Below.refl _ _⟩
  case round =>
    obtain ⟨k, hk, rfl, Hr⟩ := hrel
    by_cases hlt : k < n
    · obtain ⟨b, off, p, q, rfl, hvv, c0, c1⟩ := Hob.out k hlt wr Hr.out
      have hval : validOV T er p q = .nilIface := by unfold validOV; rw [hvv]; rfl
      have HV := Lib.hid (fun W' (hb : Below W.heap.size W W') => hval ▸ validObject_any (T := T) (er := er) p q W' (HGW.out.below hb HGW.out.size))
      clear hval hvv
      have HA : Hid (Below W.heap.size W (wr.alloc (.cells #[.int .i64 p, .int .i64 q] 83))) := Hr.out.alloc Hr.out.size _
      go_wp2_with (first | (go_at_call 71; refine (HV.out _ HA.out).mono ?_; rintro e w2 ⟨rfl, h2⟩))
      have Hr2 : Hid (Below W.heap.size W w2) := HA.out.trans (h2.out.mono HA.out.size)
      clear Hr HA h2 c0 c1
      go_roundw
      case rel => exact ⟨k + 1, by omega, by go_num, Hr2.out⟩
      case measure => simp [intOf]; omega
    · have hkn : k = n := by omega
      subst hkn
      have y1 : wr.cell? ⟨w.heap.size, 1, none⟩ = some (.slice none 0 0) := (Hr.out.cell (p := ⟨w.heap.size, 1, none⟩) hs.out).trans x1
      go_wp2_with fail
      refine wp_loop_rounds 1 ?_
      rw [rounds_succ]
      go_wp2_with fail
      go_ret
      exact ⟨rfl, Hb.out.trans (Hr.out.mono Hb.out.size)⟩
end Go.Proofs.YtcjfcomadcebnaaGreatDoor
