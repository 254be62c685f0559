/- What is answered, written over. -/
import Derived.Test.YtfjjhjojcgacbaaDoorM9
import Derived.Deep.Cut
namespace Go.Proofs.YtfjjhjojcgacbaaDoor
open Go.RowKit Go.Maps Go.WideMaps Go.WideElems Go.ChangeShapes Go.WideShapes
variable {T : TypeId} {er : Nat → Addr}

/-- From a place on rows of objects and of events may have been written over, nothing else. -/
structure Wr (B : Nat) (V U : World) : Prop where
  below : Below B V U
  cells : ∀ (k : Nat) (cs : Array Value) (t : TypeId), V.heap[k]? = some (.cells cs t) → ∃ cs', U.heap[k]? = some (.cells cs' t) ∧ cs'.size = cs.size ∧ (t ≠ 31 → t ≠ 34 → cs' = cs)
theorem Wr.refl (B : Nat) (V : World) : Wr B V V := ⟨Below.refl _ _, fun _ cs _ h => ⟨cs, h, rfl, fun _ _ => rfl⟩⟩
theorem Wr.trans {B : Nat} {V U W : World} (h : Wr B V U) (k : Wr B U W) : Wr B V W := by
  refine ⟨h.below.trans k.below, fun i cs t hc => ?_⟩
  obtain ⟨c1, h1, s1, e1⟩ := h.cells i cs t hc
  obtain ⟨c2, h2, s2, e2⟩ := k.cells i c1 t h1
  exact ⟨c2, h2, s2.trans s1, fun a b => (e2 a b).trans (e1 a b)⟩
theorem Wr.of {B : Nat} {V U : World} (hB : B ≤ V.heap.size) (h : Below V.heap.size V U) : Wr B V U := ⟨h.mono hB, fun _ cs _ hc => ⟨cs, keepB h hc, rfl, fun _ _ => rfl⟩⟩
theorem Wr.set {B : Nat} {V U : World} {g : Nat} {cur : Array Value} {e : TypeId} (h : Wr B V U) (hg : U.heap[g]? = some (.cells cur e)) (he : e = 31 ∨ e = 34) (hB : B ≤ g) (o : Nat) (x : Value) : Wr B V (U.setCell ⟨g, o, none⟩ x) := by
  refine ⟨h.below.setCell (p := ⟨g, o, none⟩) hB _, fun i cs t hc => ?_⟩
  obtain ⟨c1, h1, s1, e1⟩ := h.cells i cs t hc
  by_cases hi : g = i
  · subst hi
    rw [hg] at h1
    injection h1 with h1
    injection h1 with h1 h2
    subst h1 h2
    refine ⟨_, heap_setCell_same U g o _ _ x hg, by rw [Array.size_setIfInBounds]; exact s1, fun a b => ?_⟩
    rcases he with he | he
    · exact absurd he a
    · exact absurd he b
  · exact ⟨c1, keepS hi h1, s1, e1⟩
theorem Wr.box {B : Nat} {V U : World} {k : Nat} {cs : Array Value} (h : Wr B V U) (hk : V.heap[k]? = some (.cells cs 25)) : U.heap[k]? = some (.cells cs 25) := by
  obtain ⟨c1, h1, _, e1⟩ := h.cells k cs 25 hk
  rw [e1 (by decide) (by decide)] at h1
  exact h1
/-- A row of one's own, whatever lies in it. -/
def RowW (B : Nat) (e : TypeId) (size n : Nat) (v : Value) (V : World) : Prop := ∃ xs, V.ownsRow B e size v n xs
theorem RowW.wr {B C : Nat} {e : TypeId} {size n : Nat} {v : Value} {V U : World} (h : RowW B e size n v V) (hw : Wr C V U) : RowW B e size n v U := by
  obtain ⟨xs, hl, hr⟩ := h
  rcases hr with ⟨rfl, rfl⟩ | ⟨g, cap, cur, rfl, hb, hg, hn, hm, hs, hx⟩
  · exact ⟨[], by simp, .inl ⟨rfl, rfl⟩⟩
  · obtain ⟨c1, h1, s1, _⟩ := hw.cells g cur e hg
    refine ⟨c1.toList.take (n * size), ?_, .inr ⟨g, cap, c1, rfl, hb, h1, hn, hm, s1.trans hs, rfl⟩⟩
    rw [List.length_take, Array.length_toList, s1, hs]
    exact Nat.min_eq_left (Nat.mul_le_mul_right _ hn)
theorem RowW.at {B : Nat} {e : TypeId} {size n c : Nat} {a : Option Addr} {V : World} (h : RowW B e size n (.slice a n c) V) (hn : 0 < n) : ∃ g cur, a = some ⟨g, 0, none⟩ ∧ B ≤ g ∧ V.heap[g]? = some (.cells cur e) ∧ n * size ≤ cur.size := by
  obtain ⟨xs, hl, hr⟩ := h
  rcases hr with ⟨_, h0⟩ | ⟨g, cap, cur, e1, hb, hg, hnc, hm, hs, hx⟩
  · omega
  · injection e1 with e1 e2 e3
    exact ⟨g, cur, e1, hb, hg, by rw [hs]; exact Nat.mul_le_mul_right _ hnc⟩
theorem RowW.base {B C : Nat} {e : TypeId} {size n : Nat} {v : Value} {V : World} (h : RowW C e size n v V) (hb : B ≤ C) : RowW B e size n v V := by
  obtain ⟨xs, h⟩ := h
  exact ⟨xs, row_base h hb⟩
theorem put_2 {B : Nat} {V0 V : World} {g o : Nat} {cur : Array Value} {e : TypeId} (he : e = 31 ∨ e = 34) (hw : Wr B V0 V) (hB : B ≤ g) (h : V.heap[g]? = some (.cells cur e)) (ho : o + 1 < cur.size) (p0 p1 : Value) :
    ∃ V1 V2 u0 u1, (V.setCell ⟨g, o, none⟩ p0 = V1 ∧ V1.setCell ⟨g, o + 1, none⟩ p1 = V2) ∧ (((V.cell? ⟨g, o, none⟩ = some u0) ∧ V.frozen? ⟨g, o, none⟩ = false) ∧ ((V1.cell? ⟨g, o + 1, none⟩ = some u1) ∧ V1.frozen? ⟨g, o + 1, none⟩ = false)) ∧ Hid (Wr B V0 V2) := by
  have k0 := h
  obtain ⟨c1, hc1⟩ : ∃ c, cur.setIfInBounds (o) p0 = c := ⟨_, rfl⟩
  have s1 : c1.size = cur.size := by rw [← hc1, Array.size_setIfInBounds]
  obtain ⟨V1, hV1⟩ : ∃ W, V.setCell ⟨g, o, none⟩ p0 = W := ⟨_, rfl⟩
  have k1 : V1.heap[g]? = some (.cells c1 e) := by rw [← hV1, ← hc1]; exact heap_setCell_same _ g _ _ e _ k0
  have w1 : Wr B V0 V1 := by rw [← hV1]; exact Wr.set hw k0 he hB _ _
  obtain ⟨c2, hc2⟩ : ∃ c, c1.setIfInBounds (o + 1) p1 = c := ⟨_, rfl⟩
  have s2 : c2.size = cur.size := by rw [← hc2, Array.size_setIfInBounds]; exact s1
  obtain ⟨V2, hV2⟩ : ∃ W, V1.setCell ⟨g, o + 1, none⟩ p1 = W := ⟨_, rfl⟩
  have k2 : V2.heap[g]? = some (.cells c2 e) := by rw [← hV2, ← hc2]; exact heap_setCell_same _ g _ _ e _ k1
  have w2 : Wr B V0 V2 := by rw [← hV2]; exact Wr.set w1 k1 he hB _ _
  exact ⟨V1, V2, _, _, ⟨hV1, hV2⟩, ⟨⟨(cell_of_row _ _ _ _ _ _ k0).trans (Array.getElem?_eq_getElem (by omega)), frozen_of_row _ g _ _ e k0⟩, ⟨(cell_of_row _ _ _ _ _ _ k1).trans (Array.getElem?_eq_getElem (by rw [s1]; omega)), frozen_of_row _ g _ _ e k1⟩⟩, w2⟩
theorem put_8 {B : Nat} {V0 V : World} {g o : Nat} {cur : Array Value} {e : TypeId} (he : e = 31 ∨ e = 34) (hw : Wr B V0 V) (hB : B ≤ g) (h : V.heap[g]? = some (.cells cur e)) (ho : o + 7 < cur.size) (p0 p1 p2 p3 p4 p5 p6 p7 : Value) :
    ∃ V1 V2 V3 V4 V5 V6 V7 V8 u0 u1 u2 u3 u4 u5 u6 u7, (V.setCell ⟨g, o, none⟩ p0 = V1 ∧ V1.setCell ⟨g, o + 1, none⟩ p1 = V2 ∧ V2.setCell ⟨g, o + 2, none⟩ p2 = V3 ∧ V3.setCell ⟨g, o + 3, none⟩ p3 = V4 ∧ V4.setCell ⟨g, o + 4, none⟩ p4 = V5 ∧ V5.setCell ⟨g, o + 5, none⟩ p5 = V6 ∧ V6.setCell ⟨g, o + 6, none⟩ p6 = V7 ∧ V7.setCell ⟨g, o + 7, none⟩ p7 = V8) ∧ (((V.cell? ⟨g, o, none⟩ = some u0) ∧ V.frozen? ⟨g, o, none⟩ = false) ∧ ((V1.cell? ⟨g, o + 1, none⟩ = some u1) ∧ V1.frozen? ⟨g, o + 1, none⟩ = false) ∧ ((V2.cell? ⟨g, o + 2, none⟩ = some u2) ∧ V2.frozen? ⟨g, o + 2, none⟩ = false) ∧ ((V3.cell? ⟨g, o + 3, none⟩ = some u3) ∧ V3.frozen? ⟨g, o + 3, none⟩ = false) ∧ ((V4.cell? ⟨g, o + 4, none⟩ = some u4) ∧ V4.frozen? ⟨g, o + 4, none⟩ = false) ∧ ((V5.cell? ⟨g, o + 5, none⟩ = some u5) ∧ V5.frozen? ⟨g, o + 5, none⟩ = false) ∧ ((V6.cell? ⟨g, o + 6, none⟩ = some u6) ∧ V6.frozen? ⟨g, o + 6, none⟩ = false) ∧ ((V7.cell? ⟨g, o + 7, none⟩ = some u7) ∧ V7.frozen? ⟨g, o + 7, none⟩ = false)) ∧ Hid (Wr B V0 V8) := by
  have k0 := h
  obtain ⟨c1, hc1⟩ : ∃ c, cur.setIfInBounds (o) p0 = c := ⟨_, rfl⟩
  have s1 : c1.size = cur.size := by rw [← hc1, Array.size_setIfInBounds]
  obtain ⟨V1, hV1⟩ : ∃ W, V.setCell ⟨g, o, none⟩ p0 = W := ⟨_, rfl⟩
  have k1 : V1.heap[g]? = some (.cells c1 e) := by rw [← hV1, ← hc1]; exact heap_setCell_same _ g _ _ e _ k0
  have w1 : Wr B V0 V1 := by rw [← hV1]; exact Wr.set hw k0 he hB _ _
  obtain ⟨c2, hc2⟩ : ∃ c, c1.setIfInBounds (o + 1) p1 = c := ⟨_, rfl⟩
  have s2 : c2.size = cur.size := by rw [← hc2, Array.size_setIfInBounds]; exact s1
  obtain ⟨V2, hV2⟩ : ∃ W, V1.setCell ⟨g, o + 1, none⟩ p1 = W := ⟨_, rfl⟩
  have k2 : V2.heap[g]? = some (.cells c2 e) := by rw [← hV2, ← hc2]; exact heap_setCell_same _ g _ _ e _ k1
  have w2 : Wr B V0 V2 := by rw [← hV2]; exact Wr.set w1 k1 he hB _ _
  obtain ⟨c3, hc3⟩ : ∃ c, c2.setIfInBounds (o + 2) p2 = c := ⟨_, rfl⟩
  have s3 : c3.size = cur.size := by rw [← hc3, Array.size_setIfInBounds]; exact s2
  obtain ⟨V3, hV3⟩ : ∃ W, V2.setCell ⟨g, o + 2, none⟩ p2 = W := ⟨_, rfl⟩
  have k3 : V3.heap[g]? = some (.cells c3 e) := by rw [← hV3, ← hc3]; exact heap_setCell_same _ g _ _ e _ k2
  have w3 : Wr B V0 V3 := by rw [← hV3]; exact Wr.set w2 k2 he hB _ _
  obtain ⟨c4, hc4⟩ : ∃ c, c3.setIfInBounds (o + 3) p3 = c := ⟨_, rfl⟩
  have s4 : c4.size = cur.size := by rw [← hc4, Array.size_setIfInBounds]; exact s3
  obtain ⟨V4, hV4⟩ : ∃ W, V3.setCell ⟨g, o + 3, none⟩ p3 = W := ⟨_, rfl⟩
  have k4 : V4.heap[g]? = some (.cells c4 e) := by rw [← hV4, ← hc4]; exact heap_setCell_same _ g _ _ e _ k3
  have w4 : Wr B V0 V4 := by rw [← hV4]; exact Wr.set w3 k3 he hB _ _
  obtain ⟨c5, hc5⟩ : ∃ c, c4.setIfInBounds (o + 4) p4 = c := ⟨_, rfl⟩
  have s5 : c5.size = cur.size := by rw [← hc5, Array.size_setIfInBounds]; exact s4
  obtain ⟨V5, hV5⟩ : ∃ W, V4.setCell ⟨g, o + 4, none⟩ p4 = W := ⟨_, rfl⟩
  have k5 : V5.heap[g]? = some (.cells c5 e) := by rw [← hV5, ← hc5]; exact heap_setCell_same _ g _ _ e _ k4
  have w5 : Wr B V0 V5 := by rw [← hV5]; exact Wr.set w4 k4 he hB _ _
  obtain ⟨c6, hc6⟩ : ∃ c, c5.setIfInBounds (o + 5) p5 = c := ⟨_, rfl⟩
  have s6 : c6.size = cur.size := by rw [← hc6, Array.size_setIfInBounds]; exact s5
  obtain ⟨V6, hV6⟩ : ∃ W, V5.setCell ⟨g, o + 5, none⟩ p5 = W := ⟨_, rfl⟩
  have k6 : V6.heap[g]? = some (.cells c6 e) := by rw [← hV6, ← hc6]; exact heap_setCell_same _ g _ _ e _ k5
  have w6 : Wr B V0 V6 := by rw [← hV6]; exact Wr.set w5 k5 he hB _ _
  obtain ⟨c7, hc7⟩ : ∃ c, c6.setIfInBounds (o + 6) p6 = c := ⟨_, rfl⟩
  have s7 : c7.size = cur.size := by rw [← hc7, Array.size_setIfInBounds]; exact s6
  obtain ⟨V7, hV7⟩ : ∃ W, V6.setCell ⟨g, o + 6, none⟩ p6 = W := ⟨_, rfl⟩
  have k7 : V7.heap[g]? = some (.cells c7 e) := by rw [← hV7, ← hc7]; exact heap_setCell_same _ g _ _ e _ k6
  have w7 : Wr B V0 V7 := by rw [← hV7]; exact Wr.set w6 k6 he hB _ _
  obtain ⟨c8, hc8⟩ : ∃ c, c7.setIfInBounds (o + 7) p7 = c := ⟨_, rfl⟩
  have s8 : c8.size = cur.size := by rw [← hc8, Array.size_setIfInBounds]; exact s7
  obtain ⟨V8, hV8⟩ : ∃ W, V7.setCell ⟨g, o + 7, none⟩ p7 = W := ⟨_, rfl⟩
  have k8 : V8.heap[g]? = some (.cells c8 e) := by rw [← hV8, ← hc8]; exact heap_setCell_same _ g _ _ e _ k7
  have w8 : Wr B V0 V8 := by rw [← hV8]; exact Wr.set w7 k7 he hB _ _
  exact ⟨V1, V2, V3, V4, V5, V6, V7, V8, _, _, _, _, _, _, _, _, ⟨hV1, hV2, hV3, hV4, hV5, hV6, hV7, hV8⟩, ⟨⟨(cell_of_row _ _ _ _ _ _ k0).trans (Array.getElem?_eq_getElem (by omega)), frozen_of_row _ g _ _ e k0⟩, ⟨(cell_of_row _ _ _ _ _ _ k1).trans (Array.getElem?_eq_getElem (by rw [s1]; omega)), frozen_of_row _ g _ _ e k1⟩, ⟨(cell_of_row _ _ _ _ _ _ k2).trans (Array.getElem?_eq_getElem (by rw [s2]; omega)), frozen_of_row _ g _ _ e k2⟩, ⟨(cell_of_row _ _ _ _ _ _ k3).trans (Array.getElem?_eq_getElem (by rw [s3]; omega)), frozen_of_row _ g _ _ e k3⟩, ⟨(cell_of_row _ _ _ _ _ _ k4).trans (Array.getElem?_eq_getElem (by rw [s4]; omega)), frozen_of_row _ g _ _ e k4⟩, ⟨(cell_of_row _ _ _ _ _ _ k5).trans (Array.getElem?_eq_getElem (by rw [s5]; omega)), frozen_of_row _ g _ _ e k5⟩, ⟨(cell_of_row _ _ _ _ _ _ k6).trans (Array.getElem?_eq_getElem (by rw [s6]; omega)), frozen_of_row _ g _ _ e k6⟩, ⟨(cell_of_row _ _ _ _ _ _ k7).trans (Array.getElem?_eq_getElem (by rw [s7]; omega)), frozen_of_row _ g _ _ e k7⟩⟩, w8⟩

set_option maxHeartbeats 8000000 in
set_option maxRecDepth 100000 in
theorem spoil_any (a b : Option Addr) (n c m d : Nat) (B : Nat) (V : World) (hB : B ≤ V.heap.size) (h1 : RowW B 31 2 n (.slice a n c) V) (h2 : RowW B 34 8 m (.slice b m d) V) (hf : n ≤ 100000 ∧ m ≤ 100000) :
    Calls Tryd.prog 34 #[hv a n c b m d] V fun e w' => (∃ v, e = .returned v) ∧ Hid (Wr B V w') := by
  obtain ⟨W, hW, Hb, hs, Hx⟩ := cells_new V #[.slice a n c, .slice b m d] 25
  have HW0 : Hid (Wr B V W) := Wr.of hB Hb.out
  have H1 := Lib.hid (h1.wr HW0.out)
  have H2 := Lib.hid (h2.wr HW0.out)
  obtain ⟨x0, x1⟩ := row_two Hx.out
  have hn6 : (n : Int) ≤ 100000 := by omega
  have hm6 : (m : Int) ≤ 100000 := by omega
  clear h1 h2 hf hs hB
  go_enter Tryd.func34, Tryd.ntmps34
  go_wp2_with fail
  go_loopw [2] (fun i wr => ∃ k : Nat, k ≤ n ∧ i = .int .i64 ((k : Nat) : Int) ∧ Hid (Wr B W wr)) (fun i _ => n - (intOf i).toNat)
  case atStart => exact ⟨0, Nat.zero_le _, rfl, Wr.refl _ _⟩
  case round =>
    obtain ⟨k, hk, rfl, HR⟩ := hrel
    obtain ⟨y0, y1⟩ := row_two (HR.out.box Hx.out)
    by_cases hlt : k < n
    · have hltI : (k : Int) < (n : Int) := by omega
      obtain ⟨g, cur, rfl, hBg, hg, hsz⟩ := H1.out.at (by omega)
      obtain ⟨c1, hc1, s1, -⟩ := HR.out.cells g cur 31 hg
      obtain ⟨V1, V2, u0, u1, ⟨hV1, hV2⟩, ⟨⟨f0, g0⟩, ⟨f1, g1⟩⟩, HP⟩ := put_2 (o := k * 2) (.inl rfl) HR.out hBg hc1 (by omega) (.int .i64 (-9)) (.int .i64 0)
      clear hg hsz hc1 s1 hBg
      go_wp2_with fail
      go_roundw
      case rel => exact ⟨k + 1, by omega, by go_num, HP.out⟩
      case measure => simp [intOf]; omega
    · have hge : ¬ (k : Int) < (n : Int) := by omega
      obtain ⟨wb, hwb⟩ : ∃ wb, wb = wr := ⟨_, rfl⟩
      subst hwb
      go_wp2_with fail
      clear y0 y1
      go_loopw [3] (fun i wr => ∃ k : Nat, k ≤ m ∧ i = .int .i64 ((k : Nat) : Int) ∧ Hid (Wr B W wr)) (fun i _ => m - (intOf i).toNat)
      case atStart => exact ⟨0, Nat.zero_le _, rfl, HR.out⟩
      case round =>
        obtain ⟨k, hk, rfl, HR2⟩ := hrel
        obtain ⟨y0, y1⟩ := row_two (HR2.out.box Hx.out)
        by_cases hlt : k < m
        · have hltI : (k : Int) < (m : Int) := by omega
          obtain ⟨g, cur, rfl, hBg, hg, hsz⟩ := H2.out.at (by omega)
          obtain ⟨c1, hc1, s1, -⟩ := HR2.out.cells g cur 34 hg
          obtain ⟨V1, V2, V3, V4, V5, V6, V7, V8, u0, u1, u2, u3, u4, u5, u6, u7, ⟨hV1, hV2, hV3, hV4, hV5, hV6, hV7, hV8⟩, ⟨⟨f0, g0⟩, ⟨f1, g1⟩, ⟨f2, g2⟩, ⟨f3, g3⟩, ⟨f4, g4⟩, ⟨f5, g5⟩, ⟨f6, g6⟩, ⟨f7, g7⟩⟩, HP⟩ := put_8 (o := k * 8) (.inr rfl) HR2.out hBg hc1 (by omega) (.int .i64 (-9)) (.int .i64 0) (.int .i64 0) (.int .i64 0) (.int .i64 0) (.int .i64 0) (.int .i64 0) (.int .i64 0)
          clear hg hsz hc1 s1 hBg
          go_wp2_with fail
          go_roundw
          case rel => exact ⟨k + 1, by omega, by go_num, HP.out⟩
          case measure => simp [intOf]; omega
        · have hge2 : ¬ (k : Int) < (m : Int) := by omega
          go_wp2_with fail
          refine bodyPost_end (results_none rfl _ _ _) rfl ?_
          exact ⟨⟨_, rfl⟩, HW0.out.trans HR2.out⟩
/-- A history that is answered, in rows of its own. -/
def OutR (V : World) (n m : Nat) (e : Ending) (w' : World) : Prop := ∃ a c b d, e = .returned (.agg #[.slice a n c, .slice b m d]) ∧ Hid ((RowW V.heap.size 31 2 n (.slice a n c) w' ∧ RowW V.heap.size 34 8 m (.slice b m d) w') ∧ Below V.heap.size V w')
def OutS (V : World) (n m : Nat) (e : Ending) (w' : World) : Prop := ∃ a c b d, e = .returned (.tuple #[.agg #[.slice a n c, .slice b m d], .nilIface]) ∧ Hid ((RowW V.heap.size 31 2 n (.slice a n c) w' ∧ RowW V.heap.size 34 8 m (.slice b m d) w') ∧ Below V.heap.size V w')
theorem outR {V w' : World} {n m : Nat} {v1 v2 : Value} {xs ys : List Value} {e : Ending} (he : e = .returned (.agg #[v1, v2])) (h1 : w'.ownsRow V.heap.size 31 2 v1 n xs) (h2 : w'.ownsRow V.heap.size 34 8 v2 m ys) (hb : Below V.heap.size V w') : OutR V n m e w' := by
  obtain ⟨a, c, rfl, _, _⟩ := row_sl h1
  obtain ⟨b, d, rfl, _, _⟩ := row_sl h2
  exact ⟨a, c, b, d, he, ⟨⟨_, h1⟩, ⟨_, h2⟩⟩, hb⟩
theorem outS {V w' : World} {n m : Nat} {v1 v2 : Value} {xs ys : List Value} {e : Ending} (he : e = .returned (.tuple #[.agg #[v1, v2], .nilIface])) (h1 : w'.ownsRow V.heap.size 31 2 v1 n xs) (h2 : w'.ownsRow V.heap.size 34 8 v2 m ys) (hb : Below V.heap.size V w') : OutS V n m e w' := by
  obtain ⟨a, c, rfl, _, _⟩ := row_sl h1
  obtain ⟨b, d, rfl, _, _⟩ := row_sl h2
  exact ⟨a, c, b, d, he, ⟨⟨_, h1⟩, ⟨_, h2⟩⟩, hb⟩
section
variable {V : World} {a b : Option Addr} {n c m d : Nat} {os : List (Int × Int)} {es : List Ev} (h : InH V a n c b m d os es)
include h
theorem prefix_r (z : Int) {m' : Nat} (hm' : preN z m = m') : Calls Tryd.prog 13 #[hv a n c b m d, .int .i64 z] V (OutR V n m') := by
  refine (prefix_any a b n c m d z (obs os) (evs es) (by rw [obs_len, h.hn]) (by rw [evs_len, h.hm]) (obs_one _) (evs_one _) h.few h.hd V h.so h.se).mono ?_
  rintro e w' ⟨v1, v2, h1, H⟩
  rw [hm'] at H
  exact outR h1 H.out.1 H.out.2.1 H.out.2.2
theorem without_r (tx : Int) {m' : Nat} (hm' : (es.filter fun e => !(e.tx == tx)).length = m') : Calls Tryd.prog 15 #[hv a n c b m d, .int .i64 tx] V (OutR V n m') := by
  refine (without_any a b n c m d tx (obs os) es (by rw [obs_len, h.hn]) h.hm (obs_one _) h.few V h.so (EvsAt.of h.se h.hm)).mono ?_
  rintro e w' ⟨v1, v2, h1, H⟩
  rw [hm'] at H
  exact outR h1 H.out.1 H.out.2.1 H.out.2.2
theorem only33_r : Calls Tryd.prog 17 #[hv a n c b m d, .func (.func 33) #[] #[]] V (OutR V n m) := by
  have he : (es.filter fun e => (fun _ => true) e.tx) = es := by simp
  refine (only_33 (fun _ => true) a b n c m d (obs os) es (by rw [obs_len, h.hn]) h.hm (obs_one _) h.few V h.so (EvsAt.of h.se h.hm) (fun U _ t => own33 t U)).mono ?_
  rintro e w' ⟨v1, v2, h1, H⟩
  rw [he, h.hm] at H
  exact outR h1 H.out.1 H.out.2.1 H.out.2.2
theorem spare_r (hG : Glob T er V) {s : St} (hr : tabZ os es = some s) {n' : Nat} (hn' : namedZ es = n') : Calls Tryd.prog 27 #[hv a n c b m d] V (OutS V n' m) := by
  have hc := spare_any a b n c m d os es h.hn h.hm V h.so h.se hG h.hc
  rw [hr] at hc
  refine hc.mono ?_
  rintro e w' ⟨v1, v2, h1, H⟩
  rw [hn', h.hm] at H
  exact outS h1 H.out.1 H.out.2.1 H.out.2.2
end
end Go.Proofs.YtfjjhjojcgacbaaDoor
