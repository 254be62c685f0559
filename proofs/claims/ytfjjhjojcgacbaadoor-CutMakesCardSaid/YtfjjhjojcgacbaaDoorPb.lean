/- SameInts. -/
import Derived.Test.YtfjjhjojcgacbaaDoorPa
namespace Go.Proofs.YtfjjhjojcgacbaaDoor
open Go.RowKit Go.Maps Go.WideMaps Go.WideElems Go.ChangeShapes Go.WideShapes
variable {T : TypeId} {er : Nat → Addr}

theorem IsAt.ofIc {w : World} {a : Option Addr} {l : List Int} {n : Nat} (h : SlAt w a (ic l)) (hn : l.length = n) : IsAt w a l n := by
  intro k hk
  rcases h with ⟨_, h⟩ | ⟨b, o, rfl, hl, hc⟩
  · unfold ic at h; rw [List.map_eq_nil_iff] at h; subst h; simp at hn; omega
  · have hkl : k < l.length := by omega
    have hk2 : (ic l)[k]? = some (.int .i64 l[k]) := by unfold ic; rw [List.getElem?_map, List.getElem?_eq_getElem hkl]; rfl
    have hbl := hl (by intro e; unfold ic at e; rw [List.map_eq_nil_iff] at e; subst e; simp at hkl)
    exact ⟨b, o, l[k], rfl, List.getElem?_eq_getElem hkl, fun V hV => (hV.cell (p := ⟨b, o + k, none⟩) hbl).trans (hc k _ hk2)⟩
set_option maxHeartbeats 16000000 in
set_option maxRecDepth 100000 in
theorem sameInts (a b : Option Addr) (n c d : Nat) (l : List Int) (hn : l.length = n) (h6 : n ≤ 600) (w : World) (h : SlAt w a (ic l)) (g : SlAt w b (ic l)) :
    Calls Tryd.prog 20 #[.slice a n c, .slice b n d] w fun e w' => e = .returned (.bool true) ∧ Hid (Below w.heap.size w w') := by
  have H1 := Lib.hid (IsAt.ofIc h hn)
  have H2 := Lib.hid (IsAt.ofIc g hn)
  have hn6 : (n : Int) ≤ 600 := by omega
  have hnn : ((n : Int) == (n : Int)) = true := beq_yes rfl
  clear h g hn
  go_enter Tryd.func20, Tryd.ntmps20
  go_wp2_with fail
  go_loopw [5] (fun i wr => ∃ k : Nat, k ≤ n ∧ i = .int .i64 ((k : Nat) : Int) ∧ Hid (Below w.heap.size w wr)) (fun i _ => n - (intOf i).toNat)
  case atStart => exact ⟨0, Nat.zero_le _, rfl, Below.refl _ _⟩
  case round =>
    obtain ⟨k, hk, rfl, HB⟩ := hrel
    by_cases hlt : k < n
    · obtain ⟨b1, o1, x, rfl, hx, hc⟩ := H1.out k hlt
      obtain ⟨b2, o2, y, rfl, hy, hd⟩ := H2.out k hlt
      rw [hx] at hy
      injection hy with hy
      subst hy
      have hltI : (k : Int) < (n : Int) := by omega
      have BD : Hid (Below w.heap.size w wr.drew) := HB.out.drew
      have HS : Hid (wr.drew.cell? ⟨b1, o1 + k, none⟩ = some (.int .i64 x) ∧ wr.drew.cell? ⟨b2, o2 + k, none⟩ = some (.int .i64 x)) := ⟨hc _ BD.out, hd _ BD.out⟩
      have hxx : (x == x) = true := beq_yes rfl
      clear hc hd hx
      go_wp2_with fail
      go_region_held3 (fun w' => w'.cell? ⟨b1, o1 + k, none⟩ = some (.int .i64 x) ∧ w'.cell? ⟨b2, o2 + k, none⟩ = some (.int .i64 x))
        (first | (with_reducible exact HS.out))
        (fail)
      all_goals
        go_wp2_with fail
        go_roundw
        case rel => exact ⟨k + 1, by omega, by go_num, BD.out⟩
        case measure => simp [intOf]; omega
    · have hge : ¬ (k : Int) < (n : Int) := by omega
      go_wp2_with fail
      go_ret
      exact ⟨rfl, HB.out⟩
end Go.Proofs.YtfjjhjojcgacbaaDoor
