/- slices.Grow laid; slices.Concat of three lists of numbers, by contracts. -/
import Derived.Test.YtdemoikadojepaaSq
import Derived.Shelf.Spec.SlicesGrow
namespace Go.Proofs.Ytdemoikadojepaa
open Go.RowKit Go.Maps Go.WideMaps Go.WideElems Go.ChangeShapes Go.WideShapes
open Go.Shelf
def growR : Go.Shelf.Ren := ⟨fun | 4 => 51 | n => n, fun | 0 => 0 | 3 => 3 | 4 => 4 | 9 => 9 | 20 => 20 | 22 => 42 | 25 => 3 | n => n, fun | n => n⟩
theorem growL : Go.Proofs.Lays8.n4 Try.prog growR := {
  mixed := by kernel_rfl
  f4 := ⟨Try.f51.name, by decide, Try.func51.trans (congrArg some (by kernel_rfl))⟩
  t0 := Try.underlying0
  a0 := Try.isAgg0
  z0 := Try.sizeOf0
  v0 := Try.zeroValue0
  t3 := Try.underlying3
  a3 := Try.isAgg3
  z3 := Try.sizeOf3
  v3 := Try.zeroValue3
  t4 := Try.underlying4
  a4 := Try.isAgg4
  z4 := Try.sizeOf4
  v4 := Try.zeroValue4
  t9 := Try.underlying9
  a9 := Try.isAgg9
  z9 := Try.sizeOf9
  v9 := Try.zeroValue9
  t20 := Try.underlying20
  a20 := Try.isAgg20
  z20 := Try.sizeOf20
  v20 := Try.zeroValue20
  t22 := Try.underlying42
  a22 := Try.isAgg42
  z22 := Try.sizeOf42
  v22 := Try.zeroValue42 }
/-- Room made for numbers. -/
theorem grow_any (n : Nat) (h1 : 1 ≤ n) (hn : n ≤ 1000) (w : World) : Calls Try.prog 51 #[.slice none 0 0, .int .i64 n] w fun e w' => ∃ v, e = .returned v ∧ Hid (w'.ownsRow w.heap.size 3 1 v 0 [] ∧ Below w.heap.size w w') := by
  obtain ⟨i0, hi, hz0, hz1, hz2⟩ := info_parts elem3
  refine (Any8.slices_Grow_grow growL i0 _ hi hz0 (by rw [hz1]; decide) none 0 0 n [] w (Nat.le_refl _) (by omega) (by rw [hz2]; omega) (by omega) (by simp) (fun _ => rfl) (fun a h => by cases h)).mono ?_
  rintro e w' ⟨rfl, rfl⟩
  have hc : grownCap w (0 + n) 0 3 ≤ maxLen := grownCap_le_maxLen w _ 0 3 (by unfold maxLen; omega)
  have hge : 0 + n ≤ grownCap w (0 + n) 0 3 := grownCap_ge w _ 0 3
  refine ⟨_, rfl, ⟨rfl, .inr ⟨w.heap.size, _, _, rfl, Nat.le_refl _, World.alloc_heap_new _ _, Nat.zero_le _, hc, ?_, by simp⟩⟩, (Below.refl _ w).drew.alloc (Nat.le_refl _) _⟩
  simp [Builtin.zeroCells, Value.cells, growR]
  simp at hge
  omega
/-- The three rows that are put one behind the other. -/
structure Three (W : World) (b : Nat) (a0 a1 a2 : Nat) (n0 n1 n2 : Nat) (F0 F1 F2 : List Int) : Prop where
  c0 : W.cell? ⟨b, 0, none⟩ = some (.slice (some ⟨a0, 0, none⟩) n0 n0)
  c1 : W.cell? ⟨b, 1, none⟩ = some (.slice (some ⟨a1, 0, none⟩) n1 n1)
  c2 : W.cell? ⟨b, 2, none⟩ = some (.slice (some ⟨a2, 0, none⟩) n2 n2)
  r0 : W.heap[a0]? = some (.cells (ints F0).toArray 3)
  r1 : W.heap[a1]? = some (.cells (ints F1).toArray 3)
  r2 : W.heap[a2]? = some (.cells (ints F2).toArray 3)
theorem Three.below {W W' : World} {b a0 a1 a2 n0 n1 n2 : Nat} {F0 F1 F2 : List Int} (h : Three W b a0 a1 a2 n0 n1 n2 F0 F1 F2) (hb : Below W.heap.size W W') : Three W' b a0 a1 a2 n0 n1 n2 F0 F1 F2 := by
  have hl : b < W.heap.size := World.block_lt_of_cell? W _ h.c0
  have lt : ∀ {a : Nat} {x}, W.heap[a]? = some x → a < W.heap.size := fun h => (Array.getElem?_eq_some_iff.1 h).1
  exact ⟨(hb.cell (p := ⟨b, 0, none⟩) hl).trans h.c0, (hb.cell (p := ⟨b, 1, none⟩) hl).trans h.c1, (hb.cell (p := ⟨b, 2, none⟩) hl).trans h.c2, (hb.block a0 (lt h.r0)).trans h.r0, (hb.block a1 (lt h.r1)).trans h.r1, (hb.block a2 (lt h.r2)).trans h.r2⟩
/-- What is there behind k of the rows. -/
def part3 (F0 F1 F2 : List Int) : Nat → List Int
  | 0 => []
  | 1 => F0
  | 2 => F0 ++ F1
  | _ => F0 ++ F1 ++ F2
def size3 (n0 n1 n2 : Nat) : Nat → Nat
  | 0 => 0
  | 1 => n0
  | 2 => n0 + n1
  | _ => n0 + n1 + n2
/-- The k-th of the rows. -/
def pick3 {α : Type} (x0 x1 x2 : α) : Nat → α
  | 0 => x0
  | 1 => x1
  | _ => x2
theorem Three.at {W : World} {b a0 a1 a2 n0 n1 n2 : Nat} {F0 F1 F2 : List Int} (h : Three W b a0 a1 a2 n0 n1 n2 F0 F1 F2) (k : Nat) (hk : k < 3) :
    W.cell? ⟨b, k, none⟩ = some (.slice (some ⟨pick3 a0 a1 a2 k, 0, none⟩) (pick3 n0 n1 n2 k) (pick3 n0 n1 n2 k)) ∧ W.heap[pick3 a0 a1 a2 k]? = some (.cells (ints (pick3 F0 F1 F2 k)).toArray 3) ∧ size3 n0 n1 n2 (k + 1) = size3 n0 n1 n2 k + pick3 n0 n1 n2 k ∧ part3 F0 F1 F2 (k + 1) = part3 F0 F1 F2 k ++ pick3 F0 F1 F2 k := by
  match k, hk with
  | 0, _ => exact ⟨h.c0, h.r0, by simp [size3, pick3], by simp [part3, pick3]⟩
  | 1, _ => exact ⟨h.c1, h.r1, by simp [size3, pick3], by simp [part3, pick3]⟩
  | 2, _ => exact ⟨h.c2, h.r2, by simp [size3, pick3], by simp [part3, pick3]⟩

set_option maxHeartbeats 2000000 in
theorem cat_any (b a0 a1 a2 c n0 n1 n2 : Nat) (F0 F1 F2 : List Int) (h0 : F0.length = n0) (h1 : F1.length = n1) (h2 : F2.length = n2) (hpos : 1 ≤ n0) (hn : n0 + n1 + n2 ≤ 1000) (w : World) (hT : Three w b a0 a1 a2 n0 n1 n2 F0 F1 F2) :
    Calls Try.prog 39 #[.slice (some ⟨b, 0, none⟩) 3 c] w fun e w' => ∃ v, e = .returned v ∧ Hid (w'.ownsRow w.heap.size 3 1 v (n0 + n1 + n2) (ints (F0 ++ F1 ++ F2)) ∧ Below w.heap.size w w') := by
  obtain ⟨i0, hi, hz0, hz1, hz2⟩ := info_parts elem3
  have HT := Lib.hid hT
  have Hlen : Hid (∀ k, k < 3 → (pick3 F0 F1 F2 k).length = pick3 n0 n1 n2 k ∧ pick3 n0 n1 n2 k ≤ 1000 ∧ size3 n0 n1 n2 k ≤ 1000 ∧ size3 n0 n1 n2 (k + 1) ≤ 1000) := by
    intro k hk
    match k, hk with
    | 0, _ => exact ⟨h0, by simp [pick3, size3]; omega⟩
    | 1, _ => exact ⟨h1, by simp [pick3, size3]; omega⟩
    | 2, _ => exact ⟨h2, by simp [pick3, size3]; omega⟩
  have Hsz : Hid (size3 n0 n1 n2 3 = n0 + n1 + n2 ∧ part3 F0 F1 F2 3 = F0 ++ F1 ++ F2) := ⟨rfl, rfl⟩
  clear hT h0 h1 h2
  go_enter Try.func39, Try.ntmps39
  go_wp2
  go_loopw [3, 11] (fun s i wr => ∃ k : Nat, k ≤ 3 ∧ i = .int .i64 k ∧ s = .int .i64 (size3 n0 n1 n2 k) ∧ Hid (Below w.heap.size w wr)) (fun _ i _ => 3 - (intOf i).toNat)
  case atStart => exact ⟨0, by omega, rfl, rfl, Below.refl _ _⟩
  case round =>
    obtain ⟨k, hk, rfl, rfl, HR⟩ := hrel
    by_cases hlt : k < 3
    · have HT2 := Lib.hid (HT.out.below HR.out)
      obtain ⟨c0, r0, e1, e2⟩ := HT2.out.at k hlt
      obtain ⟨l0, l1, l2, l3⟩ := Hlen.out k hlt
      clear e2 r0 l0
      generalize pick3 n0 n1 n2 k = m at *
      generalize pick3 a0 a1 a2 k = am at *
      obtain ⟨z, hz⟩ : ∃ z, size3 n0 n1 n2 k = z := ⟨_, rfl⟩
      have hz' : size3 n0 n1 n2 (k + 1) = z + m := by rw [e1, hz]
      rw [hz] at l2
      rw [hz'] at l3
      rw [hz]
      have Hz := Lib.hid hz'
      clear e1 hz hz'
      go_wp2
      go_roundw
      case rel => exact ⟨k + 1, by omega, by go_num, by rw [Hz.out]; go_num, HR.out⟩
      case measure => simp [intOf]; omega
    · have hk3 : k = 3 := by omega
      subst hk3
      obtain ⟨N, hN⟩ : ∃ N, N = n0 + n1 + n2 := ⟨_, rfl⟩
      rw [Hsz.out.1, ← hN]
      have hN1 : 1 ≤ N := by omega
      have hN2 : N ≤ 1000 := by omega
      have HN := Lib.hid hN
      clear hlt hk hN hn hpos
      go_wp2_with (first
        | (go_at_call 51; refine (grow_any N hN1 hN2 wr).mono ?_; rintro e w2 ⟨v, rfl, h2⟩
           have HG : Hid (w2.ownsRow w.heap.size 3 1 v 0 [] ∧ Below w.heap.size w w2) := ⟨row_base h2.out.1 HR.out.size, HR.out.trans (h2.out.2.mono HR.out.size)⟩
           clear h2))
      go_loopw [6, 27] (fun v i wr => ∃ k : Nat, k ≤ 3 ∧ i = .int .i64 k ∧ Hid (wr.ownsRow w.heap.size 3 1 v (size3 n0 n1 n2 k) (ints (part3 F0 F1 F2 k)) ∧ Below w.heap.size w wr)) (fun _ i _ => 3 - (intOf i).toNat)
      case atStart => exact ⟨0, by omega, rfl, HG.out⟩
      case round =>
        obtain ⟨k, hk, rfl, HR⟩ := hrel
        obtain ⟨v1, hv1⟩ : ∃ v1, u6 = v1 := ⟨_, rfl⟩
        rw [hv1] at HR ⊢
        clear hv1
        by_cases hlt : k < 3
        · have HT2 := Lib.hid (HT.out.below HR.out.2)
          obtain ⟨c0, r0, e1, e2⟩ := HT2.out.at k hlt
          obtain ⟨l0, l1, l2, l3⟩ := Hlen.out k hlt
          have Hend : Hid (∀ v' w', w'.ownsRow w.heap.size 3 1 v' (size3 n0 n1 n2 k + pick3 n0 n1 n2 k) (ints (part3 F0 F1 F2 k) ++ ints (pick3 F0 F1 F2 k)) → wr.grownBy w' v1.ownBlock → (w'.ownsRow w.heap.size 3 1 v' (size3 n0 n1 n2 (k + 1)) (ints (part3 F0 F1 F2 (k + 1))) ∧ Below w.heap.size w w')) := fun v' w' h1 h2 =>
            ⟨row_eq h1 e1.symm (by rw [e2]; exact List.map_append.symm), below_own HR.out.2 h2 HR.out.1 HR.out.2.size⟩
          have Hnews : Hid (∀ j u, (ints (pick3 F0 F1 F2 k))[j]? = some u → wr.cell? ((⟨pick3 a0 a1 a2 k, 0, none⟩ : Addr).add j) = some u) := World.news_of_block r0
          have Hl : Hid ((ints (pick3 F0 F1 F2 k)).length = pick3 n0 n1 n2 k * 1) := by
            show _ = _
            simpa using l0
          rw [e1] at l3
          have HRr := Lib.hid HR.out.1
          clear e1 e2 r0 l0
          generalize pick3 n0 n1 n2 k = m at *
          generalize pick3 a0 a1 a2 k = am at *
          generalize pick3 F0 F1 F2 k = Fm at *
          generalize part3 F0 F1 F2 k = Fp at *
          generalize size3 n0 n1 n2 k = z at *
          go_wp2_with (first
            | (at_builtin; refine wpList_append_own _ rfl _ _ 42 rfl w.heap.size 3 i0 _ 1 8 Try.underlying42 hi hz0 hz1 hz2 rfl (by decide) v1 z _ rfl HRr.out ⟨am, 0, none⟩ m m (ints Fm) rfl Hl.out Hnews.out (ints_one _) (by unfold maxLen; omega) (by omega) HR.out.2.size ?_
               intro v5 w5 hown5 hgrow5 hnil5
               have H5 := Lib.hid (Hend.out v5 w5 hown5 hgrow5)
               clear hown5 hgrow5 hnil5)
            | go_in)
          clear Hend
          go_roundw
          case rel => exact ⟨k + 1, by omega, by go_num, H5.out⟩
          case measure => simp [intOf]; omega
        · have hk3 : k = 3 := by omega
          subst hk3
          rw [Hsz.out.1, Hsz.out.2] at HR
          clear hlt hk
          go_wp2
          go_ret
          exact ⟨_, rfl, HR.out⟩
end Go.Proofs.Ytdemoikadojepaa
