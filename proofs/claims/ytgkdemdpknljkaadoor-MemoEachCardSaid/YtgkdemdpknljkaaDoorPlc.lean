/- More calls on a set of numbers (New, Len), and place, the statement's own search in a list. -/
import Derived.Test.YtgkdemdpknljkaaDoorSeti
import Derived.Test.YtgkdemdpknljkaaDoorInts
namespace Go.Proofs.YtgkdemdpknljkaaDoor
open Go.RowKit Go.Maps Go.WideMaps Go.WideElems Go.ChangeShapes Go.WideShapes

set_option maxHeartbeats 400000 in
theorem newi (m : Int) (w : World) : Calls Tryd.prog 9 #[.int .i64 m] w fun e w' => e = .returned (.pointer (some ⟨w.heap.size, 0, none⟩)) ∧ w.alloc (.cells #[.int .i64 (max m 0), .slice none 0 0, .map none] 76) = w' := by
  go_enter Tryd.func9, Tryd.ntmps9
  go_wp2
  · go_ret
    exact ⟨rfl, by rw [show max m 0 = 0 by omega]⟩
  · go_ret
    exact ⟨rfl, by rw [show max m 0 = m by omega]⟩

set_option maxHeartbeats 400000 in
theorem seti_len (B sb : Nat) (v mv : Value) (m : Int) (ks : List Lit) (vs : List Value) (w : World) (h : SetI 3 76 B w sb v mv m ks vs) :
    Calls Tryd.prog 13 #[.pointer (some ⟨sb, 0, none⟩)] w fun e w' => e = .returned (.int .i64 ks.length) ∧ w = w' := by
  obtain ⟨a, c, rfl⟩ := ownsRow_shape h.row
  have h1 := h.cell1
  rw [← h.len] at h1
  clear h
  go_enter Tryd.func13, Tryd.ntmps13
  go_wp2
  go_ret
  exact ⟨rfl, rfl⟩

/-- Numbers as keys. -/
abbrev L (zs : List Int) : List Lit := zs.map (Lit.int .i64)

theorem same_int (x z : Int) : (Lit.int .i64 x).sameKey (Lit.int .i64 z) = (x == z) := by
  by_cases h : x = z
  · subst h; rw [WideAt.sameKey_self (isKeyI x)]; simp
  · rw [sameKey_ne (by simpa using h)]; simpa using h

theorem idx_hit (zs : List Int) (x : Int) (k : Nat) (hk : k < zs.length) (h1 : ∀ j, j < k → zs.getD j 0 ≠ x) (h2 : zs.getD k 0 = x) : idxOf (L zs) (.int .i64 x) = some (k : Int) := by
  unfold idxOf
  have : (L zs).findIdx? (fun l => (Lit.int .i64 x).sameKey l) = some k := by
    rw [List.findIdx?_eq_some_iff_getElem]
    refine ⟨by simpa using hk, ?_, fun j hj => ?_⟩
    · simp only [L, List.getElem_map, same_int]
      have : zs[k] = x := by simpa [hk] using h2
      simp [this]
    · have hj' : j < zs.length := by omega
      have := h1 j hj
      simp only [L, List.getElem_map, same_int]
      have e : zs[j] ≠ x := by simpa [hj'] using this
      simp; exact fun h => e h.symm
  rw [this]; rfl

theorem idx_miss (zs : List Int) (x : Int) (h1 : ∀ j, j < zs.length → zs.getD j 0 ≠ x) : idxOf (L zs) (.int .i64 x) = none := by
  unfold idxOf
  have : (L zs).findIdx? (fun l => (Lit.int .i64 x).sameKey l) = none := by
    rw [List.findIdx?_eq_none_iff]
    intro l hl
    obtain ⟨z, hz, rfl⟩ := List.mem_map.1 hl
    obtain ⟨j, hj, rfl⟩ := List.getElem_of_mem hz
    have := h1 j hj
    rw [same_int]
    have e : zs[j] ≠ x := by simpa [hj] using this
    simp; exact fun h => e h.symm
  rw [this]; rfl

set_option maxHeartbeats 800000 in
theorem place_any (B n : Nat) (v : Value) (zs : List Int) (x : Int) (w : World) (hrow : w.ownsRow B 3 1 v n (I zs)) (hsm : n < 1000000) :
    Calls Tryd.prog 11 #[v, .int .i64 x] w fun e w' => e = .returned (.int .i64 ((idxOf (L zs) (.int .i64 x)).getD (-1))) ∧ w = w' := by
  have hn : zs.length = n := by have := hrow.1; simpa [I] using this
  rcases hrow.2 with ⟨rfl, rfl⟩ | ⟨g, cap, cur, rfl, _⟩
  · have hm := idx_miss zs x (fun j hj => by omega)
    rw [hm]
    clear hm
    go_enter Tryd.func11, Tryd.ntmps11
    go_wp2
    refine wp_loop_rounds 1 ?_
    rw [rounds_succ]
    go_wp2
    go_ret
    exact ⟨rfl, rfl⟩
  · have hc := ownsRow_cell hrow
    have Hc := Lib.hid hc
    have Hn := Lib.hid hn
    clear hc hn hrow
    obtain ⟨r, hr⟩ : ∃ r, r = (idxOf (L zs) (.int .i64 x)).getD (-1) := ⟨_, rfl⟩
    rw [← hr]
    have Hr := Lib.hid hr
    clear hr
    go_enter Tryd.func11, Tryd.ntmps11
    go_wp2
    go_loop [5] (fun i => ∃ k : Nat, k ≤ n ∧ i = .int .i64 k ∧ Hid (∀ j, j < k → zs.getD j 0 ≠ x)) (fun i => n - (intOf i).toNat)
    case atStart => exact ⟨0, Nat.zero_le _, rfl, fun j hj => absurd hj (by omega)⟩
    case round =>
      obtain ⟨k, hk, rfl, H⟩ := hrel
      by_cases hlt : k < n
      · have hck := Hc.out k hlt
        by_cases hx : zs.getD k 0 = x
        · have hres := idx_hit zs x k (by rw [Hn.out]; exact hlt) H.out hx
          rw [hx] at hck
          have hrk : Hid (r = (k : Int)) := by show r = (k : Int); rw [Hr.out, hres]; rfl
          clear hres hx
          go_wp2
          go_ret
          exact ⟨by rw [hrk.out]; rfl, rfl⟩
        · have hne : ((zs.getD k 0) == x) = false := by simpa using hx
          have H' : Hid (∀ j, j < k + 1 → zs.getD j 0 ≠ x) := by
            intro j hj
            by_cases e : j = k
            · subst e; exact hx
            · exact H.out j (by omega)
          generalize zs.getD k 0 = y at *
          clear hx
          go_wp2
          go_round
          case rel => exact ⟨k + 1, by omega, by go_num, H'.out⟩
          case measure => simp [intOf]; omega
      · have hkn : k = n := by omega
        have hres := idx_miss zs x (fun j hj => H.out j (by rw [Hn.out] at hj; omega))
        have hrk : Hid (r = -1) := by show r = -1; rw [Hr.out, hres]; rfl
        clear hres
        go_wp2
        go_ret
        exact ⟨by rw [hrk.out]; rfl, rfl⟩
end Go.Proofs.YtgkdemdpknljkaaDoor
