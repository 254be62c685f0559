/- Copies and equality of lists of numbers, by contracts. -/
import Derived.Test.YtcjfcomadcebnaaGreatDoorLp
namespace Go.Proofs.YtcjfcomadcebnaaGreatDoor
open Go.RowKit Go.Maps Go.WideMaps Go.WideElems Go.ChangeShapes Go.WideShapes

/-- Numbers that lie behind a slice's address. -/
def IAt (W : World) (a : Option Addr) (zs : List Int) : Prop := zs = [] ∨ ∃ b off, a = some ⟨b, off, none⟩ ∧ ∀ k, k < zs.length → W.cell? ⟨b, off + k, none⟩ = some (.int .i64 (zs[k]?.getD 0))
theorem SlAt.ints {W : World} {a : Option Addr} {zs : List Int} (h : SlAt W a (zs.map (Value.int .i64))) : IAt W a zs := by
  rcases h with ⟨_, h0⟩ | ⟨b, off, e, _, hc⟩
  · exact .inl (by simpa using h0)
  · exact .inr ⟨b, off, e, fun k hk => hc k _ (by simp [hk])⟩
theorem IAt.below {W W' : World} {a : Option Addr} {zs : List Int} (h : IAt W a zs) (hb : Below W.heap.size W W') : IAt W' a zs := by
  rcases h with h | ⟨b, off, e, hc⟩
  · exact .inl h
  · exact .inr ⟨b, off, e, fun k hk => (hb.cell (p := ⟨b, off + k, none⟩) (World.block_lt_of_cell? W _ (hc k hk))).trans (hc k hk)⟩
theorem take_eq_step {α : Type} [DecidableEq α] {l l' : List α} {k : Nat} {d : α} (hl : l.length = l'.length) (hk : k < l.length) (ht : l.take k = l'.take k) : (l.take (k + 1) = l'.take (k + 1)) ↔ l[k]?.getD d = l'[k]?.getD d := by
  have hk' : k < l'.length := by omega
  have e1 : l.take (k + 1) = l.take k ++ [l[k]] := List.take_succ_eq_append_getElem hk
  have e2 : l'.take (k + 1) = l'.take k ++ [l'[k]] := List.take_succ_eq_append_getElem hk'
  have g1 : l[k]?.getD d = l[k] := by rw [List.getElem?_eq_getElem hk]; rfl
  have g2 : l'[k]?.getD d = l'[k] := by rw [List.getElem?_eq_getElem hk']; rfl
  rw [e1, e2, ht, g1, g2]
  constructor
  · intro h
    exact (List.cons.inj (List.append_cancel_left h)).1
  · intro h; rw [h]

set_option maxRecDepth 100000 in
set_option maxHeartbeats 1000000 in
theorem sameInts_any (a a' : Option Addr) (c c' : Nat) (l l' : List Int) (w : World) (h : IAt w a l) (h' : IAt w a' l') (hm : l.length ≤ 9223372036854775807) (hm' : l'.length ≤ 9223372036854775807) :
    Calls Tryz.prog 16 #[.slice a l.length c, .slice a' l'.length c'] w fun e w' => e = .returned (.bool (decide (l = l'))) ∧ ∃ q, w.drewN q = w' := by
  obtain ⟨D, hD⟩ : ∃ D, D = decide (l = l') := ⟨_, rfl⟩
  rw [← hD]
  have HD := Lib.hid hD
  have H := Lib.hid h
  have H' := Lib.hid h'
  clear h h' hD
  by_cases hl : l.length = l'.length
  · have hne : ((l.length : Int) != (l'.length : Int)) = false := by simp; omega
    have Hl := Lib.hid hl
    clear hl
    go_enter Tryz.func16, Tryz.ntmps16
    go_wp2
    go_loopw [5] (fun i wr => ∃ k q : Nat, k ≤ l.length ∧ i = .int .i64 k ∧ Hid (w.drewN q = wr ∧ l.take k = l'.take k)) (fun i _ => l.length - (intOf i).toNat)
    case atStart => exact ⟨0, 0, Nat.zero_le _, rfl, rfl, by simp⟩
    case round =>
      obtain ⟨k, q, hk, rfl, Hr⟩ := hrel
      by_cases hlt : k < l.length
      · have hlt' : k < l'.length := by have := Hl.out; omega
        rcases H.out with e | ⟨b, off, rfl, hc⟩
        · rw [e] at hlt; simp at hlt
        rcases H'.out with e | ⟨b', off', rfl, hc'⟩
        · rw [e] at hlt'; simp at hlt'
        have c0 : wr.cell? ⟨b, off + k, none⟩ = some (.int .i64 (l[k]?.getD 0)) := by rw [← Hr.out.1]; exact hc k hlt
        have c1 : wr.cell? ⟨b', off' + k, none⟩ = some (.int .i64 (l'[k]?.getD 0)) := by rw [← Hr.out.1]; exact hc' k hlt'
        have hst := Lib.hid (take_eq_step (d := 0) Hl.out hlt Hr.out.2)
        generalize l[k]?.getD 0 = x at *
        generalize l'[k]?.getD 0 = y at *
        clear hc hc'
        by_cases hx : x = y
        · have hxy : (x == y) = true := by simpa using hx
          have hnx := hst.out.2 hx
          have Hnx := Lib.hid hnx
          clear hx hnx
          go_wp2
          go_quiet (fail)
          go_wp2
          go_roundw
          case rel => exact ⟨k + 1, q + nq, by omega, by go_num, by rw [← Hr.out.1, World.drewN_drewN], Hnx.out⟩
          case measure => simp [intOf]; omega
        · have hxy : (x == y) = false := by simpa using hx
          have HD' : Hid (D = false) := by
            show _ = _
            rw [HD.out, decide_eq_false]
            rintro rfl
            exact hx (hst.out.1 rfl)
          clear hx
          go_wp2
          go_quiet (fail)
          go_wp2
          go_ret
          exact ⟨by rw [HD'.out]; rfl, q + nq, by rw [← Hr.out.1, World.drewN_drewN]⟩
      · have hkl : k = l.length := by omega
        have HD' : Hid (D = true) := by
          show _ = _
          have h2 := Hr.out.2
          rw [hkl, List.take_length] at h2
          have h3 := Hl.out
          rw [h3, List.take_length] at h2
          rw [HD.out, decide_eq_true h2]
        clear hkl
        go_wp2
        go_ret
        exact ⟨by rw [HD'.out]; rfl, q, Hr.out.1⟩
  · have hne : ((l.length : Int) != (l'.length : Int)) = true := by simp; omega
    have HD' : Hid (D = false) := by show _ = _; rw [HD.out, decide_eq_false]; rintro rfl; exact hl rfl
    clear hl
    go_enter Tryz.func16, Tryz.ntmps16
    go_wp2
    go_ret
    exact ⟨by rw [HD'.out]; rfl, 0, rfl⟩

end Go.Proofs.YtcjfcomadcebnaaGreatDoor
