/- Lists that never change: elements as rows of cells; clone, has, All, Len, At, And, With, by contracts. -/
import Derived.Test.YtcjfcomadcebnaaGreatDoorSj
import Derived.Laws.AppendOwn
import Derived.Laws.AppendOwnNone
import Derived.Lib.SliceRun
import Derived.OwnWalk
import Derived.Deep.LoopGhost
import Derived.RangeFuncBox
namespace Go.Proofs.YtcjfcomadcebnaaGreatDoor
open Go.RowKit Go.Maps Go.WideMaps Go.WideElems Go.ChangeShapes Go.WideShapes

/-- Cells that lie behind a slice's address. -/
def SlAt (W : World) (a : Option Addr) (xs : List Value) : Prop := (a = none ∧ xs = []) ∨ ∃ b off, a = some ⟨b, off, none⟩ ∧ (xs ≠ [] → b < W.heap.size) ∧ ∀ j u, xs[j]? = some u → W.cell? ⟨b, off + j, none⟩ = some u
theorem SlAt.below {W W' : World} {a : Option Addr} {xs : List Value} (h : SlAt W a xs) (hb : Below W.heap.size W W') : SlAt W' a xs := by
  rcases h with h | ⟨b, off, e, hl, h⟩
  · exact .inl h
  · refine .inr ⟨b, off, e, fun hx => Nat.lt_of_lt_of_le (hl hx) hb.size, fun j u hj => ?_⟩
    have hne : xs ≠ [] := by intro e'; rw [e'] at hj; simp at hj
    exact (hb.cell (p := ⟨b, off + j, none⟩) (hl hne)).trans (h j u hj)
theorem SlAt.drew {W : World} {a : Option Addr} {xs : List Value} (h : SlAt W a xs) : SlAt W.drew a xs := h
/-- A row of one's own, read. -/
theorem row_sl {W : World} {B : Nat} {e : TypeId} {size n : Nat} {v : Value} {xs : List Value} (h : W.ownsRow B e size v n xs) : ∃ a c, v = .slice a n c ∧ SlAt W a xs ∧ n ≤ c := by
  obtain ⟨hl, ⟨rfl, h0⟩ | ⟨g, cap, cur, rfl, hb, hg, hn, hm, hs, ht⟩⟩ := h
  · subst h0
    exact ⟨none, 0, rfl, .inl ⟨rfl, List.eq_nil_of_length_eq_zero (by rw [hl]; simp)⟩, Nat.le_refl _⟩
  · refine ⟨_, cap, rfl, .inr ⟨g, 0, rfl, fun _ => (Array.getElem?_eq_some_iff.1 hg).1, fun j u hj => ?_⟩, hn⟩
    rw [Nat.zero_add]
    have hj2 : cur[j]? = some u := by
      rw [← ht, List.getElem?_take] at hj
      split at hj
      · simpa using hj
      · cases hj
    simp [World.cell?, hg, hj2]
theorem Below.of_own {w W1 W2 : World} (hb : Below w.heap.size w W1) {v : Value} (hg : W1.grownBy W2 v.ownBlock) (hB : ∀ k, v.ownBlock = some k → w.heap.size ≤ k) : Below w.heap.size w W2 :=
  hb.grown hg hb.size (fun k hk => hB k hk)

set_option maxHeartbeats 2000000 in
set_option maxRecDepth 100000 in
theorem clone_int (a : Option Addr) (n c : Nat) (xs : List Value) (hx : xs.length = n * 1) (h1 : ∀ u ∈ xs, u.oneCell' = true) (hn : n ≤ 1000000) (w : World) (h : SlAt w a xs) :
    Calls Tryz.prog 46 #[.slice a n c] w fun e w' => ∃ v', e = .returned v' ∧ Hid (w'.ownsRow w.heap.size 3 1 v' n xs ∧ Below w.heap.size w w') := by
  obtain ⟨i0, hi, hz0, hz1, hz2⟩ := info_parts (P := Tryz.prog) (e := 3) (z := .int .i64 0) (size := 1) (bytes := 8) (by kernel_rfl)
  have q22 : ∀ (w : World) (a : Option Addr) (n c n' c' : Nat), (Go.binOp .eql 37 (.slice a n c) (.slice none n' c')).run Tryz.prog w = .ok (.bool a.isNone) w := fun w a n c n' c' => Lib.run_eql_slice_nil w _ _ a n c n' c' Tryz.underlying37
  rcases h with ⟨rfl, rfl⟩ | ⟨b, off, rfl, hbl, hc⟩
  · have hn0 : n = 0 := by simp at hx; omega
    subst hn0
    clear hx h1 hn
    go_enter Tryz.func46, Tryz.ntmps46
    go_wp2
    go_ret
    exact ⟨_, rfl, ⟨rfl, .inl ⟨rfl, rfl⟩⟩, Below.refl _ _⟩
  have A : Aside (∀ j u, xs[j]? = some u → w.cell? ⟨b, off + j, none⟩ = some u) := hc
  have Hx := Lib.hid hx
  have H1 := Lib.hid h1
  clear hc hbl hx h1
  go_enter Tryz.func46, Tryz.ntmps46
  go_wp2_with (at_builtin; refine wpList_append_own _ rfl _ _ 37 rfl w.heap.size 3 i0 (.int .i64 0) 1 8 Tryz.underlying37 hi hz0 hz1 hz2 rfl (by decide) _ _ _ rfl (World.ownsRow_made w #[] 0 (Nat.le_refl _) (Nat.zero_le _) rfl) ⟨b, off, none⟩ n c xs rfl ?qc1 ?qc2 ?qc3 ?qc4 ?qc5 ?qc6 ?_)
  case qc1 => exact Hx.out
  case qc2 =>
    intro j u hj
    rw [Addr.add_lit]
    refine Lib.cell?_alloc_some _ ?_
    exact A.out j u hj
  case qc3 => exact H1.out
  case qc4 => unfold maxLen; omega
  case qc5 => omega
  case qc6 => simp
  intro v' w1 hown hgrow hnil
  have Ho : Hid (w1.ownsRow w.heap.size 3 1 v' n xs ∧ Below w.heap.size w w1) := ⟨by simpa using hown, ((Below.refl _ w).alloc (Nat.le_refl _) _).grown hgrow (by simp) (by intro k hk; simp [Value.ownBlock] at hk; omega)⟩
  clear hown hgrow hnil
  go_wp2
  go_ret
  exact ⟨v', rfl, Ho.out⟩

set_option maxRecDepth 100000 in
theorem len_int (a : Option Addr) (n c : Nat) (w : World) : Calls Tryz.prog 27 #[.agg #[.slice a n c]] w fun e w' => e = .returned (.int .i64 n) ∧ Hid (Below w.heap.size w w') := by
  go_enter Tryz.func27, Tryz.ntmps27
  go_wp2
  go_ret
  exact ⟨rfl, (Below.refl _ _).alloc (Nat.le_refl _) _⟩

set_option maxRecDepth 100000 in
theorem all_int (a : Option Addr) (n c : Nat) (xs : List Value) (hx : xs.length = n * 1) (h1 : ∀ u ∈ xs, u.oneCell' = true) (hn : n ≤ 1000000) (w : World) (h : SlAt w a xs) :
    Calls Tryz.prog 26 #[.agg #[.slice a n c]] w fun e w' => ∃ v', e = .returned v' ∧ Hid (w'.ownsRow w.heap.size 3 1 v' n xs ∧ Below w.heap.size w w') := by
  obtain ⟨W, hW⟩ : ∃ W, w.alloc (.cells #[.slice a n c] 54) = W := ⟨_, rfl⟩
  have hb : Below w.heap.size w W := by rw [← hW]; exact (Below.refl _ _).alloc (Nat.le_refl _) _
  have hc : W.cell? ⟨w.heap.size, 0, none⟩ = some (.slice a n c) := by rw [← hW]; exact (Boxed.new w 54 _).cell
  have Hcl := Lib.hid (clone_int a n c xs hx h1 hn W (h.below hb))
  have Hb := Lib.hid hb
  clear hx h1 hn h hb
  go_enter Tryz.func26, Tryz.ntmps26
  go_wp2_with (first | (go_at_call 46; refine Hcl.out.mono ?_; rintro e w2 ⟨v', rfl, h2⟩))
  go_ret
  obtain ⟨hl, hd⟩ := h2.out.1
  exact ⟨v', rfl, ⟨hl, hd.imp id fun ⟨g, cap, cur, e, hB, r⟩ => ⟨g, cap, cur, e, Nat.le_trans Hb.out.size hB, r⟩⟩, Hb.out.trans (h2.out.2.mono Hb.out.size)⟩

set_option maxRecDepth 100000 in
theorem has_int (a : Option Addr) (n c : Nat) (i : Int) (w : World) : Calls Tryz.prog 47 #[.agg #[.slice a n c], .int .i64 i] w fun e w' => e = .returned (.bool (decide (0 ≤ i) && decide (i < n))) ∧ Hid (Below w.heap.size w w') := by
  obtain ⟨p, hp⟩ : ∃ p, decide (0 ≤ i) = p := ⟨_, rfl⟩
  obtain ⟨q, hq⟩ : ∃ q, decide (i < (n : Int)) = q := ⟨_, rfl⟩
  rw [hp, hq]
  cases p <;> cases q
  all_goals
    go_enter Tryz.func47, Tryz.ntmps47
    go_wp2
    go_ret
    exact ⟨rfl, (Below.refl _ _).alloc (Nat.le_refl _) _⟩

set_option maxHeartbeats 2000000 in
set_option maxRecDepth 100000 in
theorem clone_str (a : Option Addr) (n c : Nat) (xs : List Value) (hx : xs.length = n * 1) (h1 : ∀ u ∈ xs, u.oneCell' = true) (hn : n ≤ 1000000) (w : World) (h : SlAt w a xs) :
    Calls Tryz.prog 48 #[.slice a n c] w fun e w' => ∃ v', e = .returned v' ∧ Hid (w'.ownsRow w.heap.size 9 1 v' n xs ∧ Below w.heap.size w w') := by
  obtain ⟨i0, hi, hz0, hz1, hz2⟩ := info_parts (P := Tryz.prog) (e := 9) (z := .string ⟨#[]⟩) (size := 1) (bytes := 16) (by kernel_rfl)
  have q22 : ∀ (w : World) (a : Option Addr) (n c n' c' : Nat), (Go.binOp .eql 61 (.slice a n c) (.slice none n' c')).run Tryz.prog w = .ok (.bool a.isNone) w := fun w a n c n' c' => Lib.run_eql_slice_nil w _ _ a n c n' c' Tryz.underlying61
  rcases h with ⟨rfl, rfl⟩ | ⟨b, off, rfl, hbl, hc⟩
  · have hn0 : n = 0 := by simp at hx; omega
    subst hn0
    clear hx h1 hn
    go_enter Tryz.func48, Tryz.ntmps48
    go_wp2
    go_ret
    exact ⟨_, rfl, ⟨rfl, .inl ⟨rfl, rfl⟩⟩, Below.refl _ _⟩
  have A : Aside (∀ j u, xs[j]? = some u → w.cell? ⟨b, off + j, none⟩ = some u) := hc
  have Hx := Lib.hid hx
  have H1 := Lib.hid h1
  clear hc hbl hx h1
  go_enter Tryz.func48, Tryz.ntmps48
  go_wp2_with (at_builtin; refine wpList_append_own _ rfl _ _ 61 rfl w.heap.size 9 i0 (.string ⟨#[]⟩) 1 16 Tryz.underlying61 hi hz0 hz1 hz2 rfl (by decide) _ _ _ rfl (World.ownsRow_made w #[] 0 (Nat.le_refl _) (Nat.zero_le _) rfl) ⟨b, off, none⟩ n c xs rfl ?qc1 ?qc2 ?qc3 ?qc4 ?qc5 ?qc6 ?_)
  case qc1 => exact Hx.out
  case qc2 =>
    intro j u hj
    rw [Addr.add_lit]
    refine Lib.cell?_alloc_some _ ?_
    exact A.out j u hj
  case qc3 => exact H1.out
  case qc4 => unfold maxLen; omega
  case qc5 => omega
  case qc6 => simp
  intro v' w1 hown hgrow hnil
  have Ho : Hid (w1.ownsRow w.heap.size 9 1 v' n xs ∧ Below w.heap.size w w1) := ⟨by simpa using hown, ((Below.refl _ w).alloc (Nat.le_refl _) _).grown hgrow (by simp) (by intro k hk; simp [Value.ownBlock] at hk; omega)⟩
  clear hown hgrow hnil
  go_wp2
  go_ret
  exact ⟨v', rfl, Ho.out⟩

set_option maxRecDepth 100000 in
theorem len_str (a : Option Addr) (n c : Nat) (w : World) : Calls Tryz.prog 28 #[.agg #[.slice a n c]] w fun e w' => e = .returned (.int .i64 n) ∧ Hid (Below w.heap.size w w') := by
  go_enter Tryz.func28, Tryz.ntmps28
  go_wp2
  go_ret
  exact ⟨rfl, (Below.refl _ _).alloc (Nat.le_refl _) _⟩

set_option maxRecDepth 100000 in
theorem all_str (a : Option Addr) (n c : Nat) (xs : List Value) (hx : xs.length = n * 1) (h1 : ∀ u ∈ xs, u.oneCell' = true) (hn : n ≤ 1000000) (w : World) (h : SlAt w a xs) :
    Calls Tryz.prog 30 #[.agg #[.slice a n c]] w fun e w' => ∃ v', e = .returned v' ∧ Hid (w'.ownsRow w.heap.size 9 1 v' n xs ∧ Below w.heap.size w w') := by
  obtain ⟨W, hW⟩ : ∃ W, w.alloc (.cells #[.slice a n c] 63) = W := ⟨_, rfl⟩
  have hb : Below w.heap.size w W := by rw [← hW]; exact (Below.refl _ _).alloc (Nat.le_refl _) _
  have hc : W.cell? ⟨w.heap.size, 0, none⟩ = some (.slice a n c) := by rw [← hW]; exact (Boxed.new w 63 _).cell
  have Hcl := Lib.hid (clone_str a n c xs hx h1 hn W (h.below hb))
  have Hb := Lib.hid hb
  clear hx h1 hn h hb
  go_enter Tryz.func30, Tryz.ntmps30
  go_wp2_with (first | (go_at_call 48; refine Hcl.out.mono ?_; rintro e w2 ⟨v', rfl, h2⟩))
  go_ret
  obtain ⟨hl, hd⟩ := h2.out.1
  exact ⟨v', rfl, ⟨hl, hd.imp id fun ⟨g, cap, cur, e, hB, r⟩ => ⟨g, cap, cur, e, Nat.le_trans Hb.out.size hB, r⟩⟩, Hb.out.trans (h2.out.2.mono Hb.out.size)⟩

set_option maxHeartbeats 2000000 in
set_option maxRecDepth 100000 in
theorem clone_sta (a : Option Addr) (n c : Nat) (xs : List Value) (hx : xs.length = n * 3) (h1 : ∀ u ∈ xs, u.oneCell' = true) (hn : n ≤ 1000000) (w : World) (h : SlAt w a xs) :
    Calls Tryz.prog 91 #[.slice a n c] w fun e w' => ∃ v', e = .returned v' ∧ Hid (w'.ownsRow w.heap.size 34 3 v' n xs ∧ Below w.heap.size w w') := by
  obtain ⟨i0, hi, hz0, hz1, hz2⟩ := info_parts (P := Tryz.prog) (e := 34) (z := .agg #[.int .i64 0, .int .i64 0, .string ⟨#[]⟩]) (size := 3) (bytes := 32) (by kernel_rfl)
  have q22 : ∀ (w : World) (a : Option Addr) (n c n' c' : Nat), (Go.binOp .eql 25 (.slice a n c) (.slice none n' c')).run Tryz.prog w = .ok (.bool a.isNone) w := fun w a n c n' c' => Lib.run_eql_slice_nil w _ _ a n c n' c' Tryz.underlying25
  rcases h with ⟨rfl, rfl⟩ | ⟨b, off, rfl, hbl, hc⟩
  · have hn0 : n = 0 := by simp at hx; omega
    subst hn0
    clear hx h1 hn
    go_enter Tryz.func91, Tryz.ntmps91
    go_wp2
    go_ret
    exact ⟨_, rfl, ⟨rfl, .inl ⟨rfl, rfl⟩⟩, Below.refl _ _⟩
  have A : Aside (∀ j u, xs[j]? = some u → w.cell? ⟨b, off + j, none⟩ = some u) := hc
  have Hx := Lib.hid hx
  have H1 := Lib.hid h1
  clear hc hbl hx h1
  go_enter Tryz.func91, Tryz.ntmps91
  go_wp2_with (at_builtin; refine wpList_append_own _ rfl _ _ 25 rfl w.heap.size 34 i0 (.agg #[.int .i64 0, .int .i64 0, .string ⟨#[]⟩]) 3 32 Tryz.underlying25 hi hz0 hz1 hz2 rfl (by decide) _ _ _ rfl (World.ownsRow_made w #[] 0 (Nat.le_refl _) (Nat.zero_le _) rfl) ⟨b, off, none⟩ n c xs rfl ?qc1 ?qc2 ?qc3 ?qc4 ?qc5 ?qc6 ?_)
  case qc1 => exact Hx.out
  case qc2 =>
    intro j u hj
    rw [Addr.add_lit]
    refine Lib.cell?_alloc_some _ ?_
    exact A.out j u hj
  case qc3 => exact H1.out
  case qc4 => unfold maxLen; omega
  case qc5 => omega
  case qc6 => simp
  intro v' w1 hown hgrow hnil
  have Ho : Hid (w1.ownsRow w.heap.size 34 3 v' n xs ∧ Below w.heap.size w w1) := ⟨by simpa using hown, ((Below.refl _ w).alloc (Nat.le_refl _) _).grown hgrow (by simp) (by intro k hk; simp [Value.ownBlock] at hk; omega)⟩
  clear hown hgrow hnil
  go_wp2
  go_ret
  exact ⟨v', rfl, Ho.out⟩

set_option maxRecDepth 100000 in
theorem len_sta (a : Option Addr) (n c : Nat) (w : World) : Calls Tryz.prog 51 #[.agg #[.slice a n c]] w fun e w' => e = .returned (.int .i64 n) ∧ Hid (Below w.heap.size w w') := by
  go_enter Tryz.func51, Tryz.ntmps51
  go_wp2
  go_ret
  exact ⟨rfl, (Below.refl _ _).alloc (Nat.le_refl _) _⟩

set_option maxRecDepth 100000 in
theorem all_sta (a : Option Addr) (n c : Nat) (xs : List Value) (hx : xs.length = n * 3) (h1 : ∀ u ∈ xs, u.oneCell' = true) (hn : n ≤ 1000000) (w : World) (h : SlAt w a xs) :
    Calls Tryz.prog 67 #[.agg #[.slice a n c]] w fun e w' => ∃ v', e = .returned v' ∧ Hid (w'.ownsRow w.heap.size 34 3 v' n xs ∧ Below w.heap.size w w') := by
  obtain ⟨W, hW⟩ : ∃ W, w.alloc (.cells #[.slice a n c] 27) = W := ⟨_, rfl⟩
  have hb : Below w.heap.size w W := by rw [← hW]; exact (Below.refl _ _).alloc (Nat.le_refl _) _
  have hc : W.cell? ⟨w.heap.size, 0, none⟩ = some (.slice a n c) := by rw [← hW]; exact (Boxed.new w 27 _).cell
  have Hcl := Lib.hid (clone_sta a n c xs hx h1 hn W (h.below hb))
  have Hb := Lib.hid hb
  clear hx h1 hn h hb
  go_enter Tryz.func67, Tryz.ntmps67
  go_wp2_with (first | (go_at_call 91; refine Hcl.out.mono ?_; rintro e w2 ⟨v', rfl, h2⟩))
  go_ret
  obtain ⟨hl, hd⟩ := h2.out.1
  exact ⟨v', rfl, ⟨hl, hd.imp id fun ⟨g, cap, cur, e, hB, r⟩ => ⟨g, cap, cur, e, Nat.le_trans Hb.out.size hB, r⟩⟩, Hb.out.trans (h2.out.2.mono Hb.out.size)⟩

set_option maxRecDepth 100000 in
theorem has_sta (a : Option Addr) (n c : Nat) (i : Int) (w : World) : Calls Tryz.prog 61 #[.agg #[.slice a n c], .int .i64 i] w fun e w' => e = .returned (.bool (decide (0 ≤ i) && decide (i < n))) ∧ Hid (Below w.heap.size w w') := by
  obtain ⟨p, hp⟩ : ∃ p, decide (0 ≤ i) = p := ⟨_, rfl⟩
  obtain ⟨q, hq⟩ : ∃ q, decide (i < (n : Int)) = q := ⟨_, rfl⟩
  rw [hp, hq]
  cases p <;> cases q
  all_goals
    go_enter Tryz.func61, Tryz.ntmps61
    go_wp2
    go_ret
    exact ⟨rfl, (Below.refl _ _).alloc (Nat.le_refl _) _⟩
end Go.Proofs.YtcjfcomadcebnaaGreatDoor
