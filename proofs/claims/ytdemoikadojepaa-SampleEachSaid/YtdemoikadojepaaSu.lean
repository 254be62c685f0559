/- The same of acts, of programs, by contracts. -/
import Derived.Test.YtdemoikadojepaaSt
namespace Go.Proofs.Ytdemoikadojepaa
open Go.RowKit Go.Maps Go.WideMaps Go.WideElems Go.ChangeShapes Go.WideShapes

theorem row_six {W : World} {B : Nat} {x y z u x' y' : Value} {t : TypeId} (h : W.heap[B]? = some (.cells #[x, y, z, u, x', y'] t)) :
    (W.cell? ⟨B, 0, none⟩ = some x ∧ W.cell? ⟨B, 1, none⟩ = some y ∧ W.cell? ⟨B, 2, none⟩ = some z) ∧ W.cell? ⟨B, 3, none⟩ = some u ∧ W.cell? ⟨B, 4, none⟩ = some x' ∧ W.cell? ⟨B, 5, none⟩ = some y' := by simp [World.cell?, h]
theorem ne_self (x : Int) : (x == x) = true := by simp

set_option maxHeartbeats 4000000 in
set_option maxRecDepth 100000 in
theorem sacts_eq (b1 b2 c1 c2 : Nat) (x0 x1 x2 x3 x4 x5 : Int) (w : World) (h1 : w.heap[b1]? = some (.cells (ints [x0, x1, x2, x3, x4, x5]).toArray 73)) (h2 : w.heap[b2]? = some (.cells (ints [x0, x1, x2, x3, x4, x5]).toArray 73)) :
    Calls Try.prog 41 #[.slice (some ⟨b1, 0, none⟩) 2 c1, .slice (some ⟨b2, 0, none⟩) 2 c2] w fun e w' => e = .returned (.bool true) ∧ ∃ q, w.drewN q = w' := by
  have H1 := Lib.hid h1
  have H2 := Lib.hid h2
  clear h1 h2
  go_enter Try.func41, Try.ntmps41
  go_wp2
  go_loopw [5] (fun i wr => ∃ k q : Nat, i = .int .i64 k ∧ k ≤ 2 ∧ Hid (w.drewN q = wr)) (fun i _ => 2 - (intOf i).toNat)
  case atStart => exact ⟨0, 0, rfl, by omega, rfl⟩
  case round =>
    obtain ⟨k, q, rfl, hk, HR⟩ := hrel
    have G1 : Hid (wr.heap[b1]? = some (.cells #[.int .i64 x0, .int .i64 x1, .int .i64 x2, .int .i64 x3, .int .i64 x4, .int .i64 x5] 73)) := by
      show _ = _
      rw [← HR.out]; exact H1.out
    have G2 : Hid (wr.heap[b2]? = some (.cells #[.int .i64 x0, .int .i64 x1, .int .i64 x2, .int .i64 x3, .int .i64 x4, .int .i64 x5] 73)) := by
      show _ = _
      rw [← HR.out]; exact H2.out
    obtain ⟨⟨p0, p1, p2⟩, p3, p4, p5⟩ := row_six G1.out
    obtain ⟨⟨q0, q1, q2⟩, q3, q4, q5⟩ := row_six G2.out
    by_cases hlt : k < 2
    · have hk2 : k = 0 ∨ k = 1 := by omega
      clear hk hlt
      rcases hk2 with rfl | rfl
      · go_wp2
        go_quiet (fail)
        go_wp2
        go_roundw
        case rel => exact ⟨1, q + nq, by go_num, by omega, by show _ = _; rw [← HR.out, World.drewN_drewN]⟩
        case measure => simp [intOf]
      · go_wp2
        go_quiet (fail)
        go_wp2
        go_roundw
        case rel => exact ⟨2, q + nq, by go_num, by omega, by show _ = _; rw [← HR.out, World.drewN_drewN]⟩
        case measure => simp [intOf]
    · have hk2 : k = 2 := by omega
      subst hk2
      clear hlt hk
      go_wp2
      go_ret
      exact ⟨rfl, q, HR.out⟩
/-- A list's cells, told by its row. -/
theorem row_cell {W : World} {B e size n : Nat} {v : Value} {xs : List Value} (h : W.ownsRow B e size v n xs) (hx : xs ≠ []) : ∃ g c, v = .slice (some ⟨g, 0, none⟩) n c ∧ g < W.heap.size ∧ ∀ j u, xs[j]? = some u → W.cell? ⟨g, j, none⟩ = some u := by
  obtain ⟨hl, ⟨rfl, h0⟩ | ⟨g, cap, cur, rfl, hb, hg, hn, hm, hs, ht⟩⟩ := h
  · subst h0
    exact absurd (List.eq_nil_of_length_eq_zero (by rw [hl]; simp)) hx
  · refine ⟨g, cap, rfl, (Array.getElem?_eq_some_iff.1 hg).1, fun j u hj => ?_⟩
    have hj2 : cur[j]? = some u := by
      rw [← ht, List.getElem?_take] at hj
      split at hj
      · simpa using hj
      · cases hj
    simp [World.cell?, hg, hj2]

theorem belowN {n : Nat} {W V : World} (h : Below n W V) (q : Nat) : Below n W (V.drewN q) := h.trans ⟨rfl, rfl, rfl, Nat.le_refl _, fun _ _ => rfl⟩

set_option maxHeartbeats 4000000 in
set_option maxRecDepth 100000 in
theorem sprog_eq {B B' q u0 u1 v0 v1 q' u0' u1' v0' v1' : Nat} {vt vt' : Value} {w : World} (h1 : PgAt B q u0 u1 v0 v1 vt w) (h2 : PgAt B' q' u0' u1' v0' v1' vt' w) :
    Calls Try.prog 19 #[.agg #[.slice (some ⟨q, 0, none⟩) 2 2, vt], .agg #[.slice (some ⟨q', 0, none⟩) 2 2, vt']] w fun e w' => e = .returned (.bool true) ∧ Hid (Below w.heap.size w w') := by
  obtain ⟨t, ct, rfl, ht, hT⟩ := row_cell h1.ts (by simp)
  obtain ⟨t', ct', rfl, ht', hT'⟩ := row_cell h2.ts (by simp)
  obtain ⟨W1, hW1, Hb1, hs1, Hx1⟩ := cells_new w #[.slice (some ⟨q, 0, none⟩) 2 2, .slice (some ⟨t, 0, none⟩) 2 ct] 45
  obtain ⟨W2, hW2, Hb2, hs2, Hx2⟩ := cells_new W1 #[.slice (some ⟨q', 0, none⟩) 2 2, .slice (some ⟨t', 0, none⟩) 2 ct'] 45
  have Hb : Hid (Below w.heap.size w W2) := stepB Hb1.out Hb2.out
  have hq : W2.heap[q]? = some (.cells (ints [0, 0]).toArray 3) := keepB Hb.out h1.cs
  have hq' : W2.heap[q']? = some (.cells (ints [0, 0]).toArray 3) := keepB Hb.out h2.cs
  have sl : ∀ {g : Nat}, W2.heap[g]? = some (.cells (ints [0, 0]).toArray 3) → SlAt W2 (some ⟨g, 0, none⟩) (ints [0, 0]) := fun {g} h => .inr ⟨g, 0, rfl, fun _ => (Array.getElem?_eq_some_iff.1 h).1, fun j u hj => by rw [Nat.zero_add, cell_of_row _ _ j _ _ _ h, ← hj]; exact (List.getElem?_toArray (xs := ints [0, 0]) (i := j))⟩
  have HI := Lib.hid (sints_eq (some ⟨q, 0, none⟩) (some ⟨q', 0, none⟩) 2 2 2 [0, 0] rfl (by decide) W2 (sl hq) (sl hq'))
  have box1 := keepB Hb2.out Hx1.out
  have kc : ∀ {X : World} {b o : Nat} {u : Value}, Below w.heap.size w X → w.cell? ⟨b, o, none⟩ = some u → X.cell? ⟨b, o, none⟩ = some u := fun {X b o u} hb h => (hb.cell (p := ⟨b, o, none⟩) (World.block_lt_of_cell? w _ h)).trans h
  have bx : ∀ wr, Below W2.heap.size W2 wr → Below w.heap.size w wr ∧ (wr.cell? ⟨w.heap.size, 1, none⟩ = some (.slice (some ⟨t, 0, none⟩) 2 ct) ∧ wr.cell? ⟨W1.heap.size, 1, none⟩ = some (.slice (some ⟨t', 0, none⟩) 2 ct')) := fun wr h => ⟨stepB Hb.out h, (row_two (keepB h box1)).2, (row_two (keepB h Hx2.out)).2⟩
  have one : ∀ {X : World} {g : Nat} {u : Value} {ty : TypeId}, X.heap[g]? = some (.cells #[u] ty) → X.cell? ⟨g, 0, none⟩ = some u := fun {X g u ty} h => by simp [World.cell?, h]
  have HF0 := Lib.hid (fun wr (h : Below W2.heap.size W2 wr) => show (wr.cell? ⟨w.heap.size, 1, none⟩ = some (.slice (some ⟨t, 0, none⟩) 2 ct) ∧ wr.cell? ⟨W1.heap.size, 1, none⟩ = some (.slice (some ⟨t', 0, none⟩) 2 ct')) ∧ wr.cell? ⟨t, 0, none⟩ = some (.slice (some ⟨u0, 0, none⟩) 1 1) ∧ wr.cell? ⟨t', 0, none⟩ = some (.slice (some ⟨u0', 0, none⟩) 1 1) ∧ wr.cell? ⟨u0, 0, none⟩ = some (.slice (some ⟨v0, 0, none⟩) 2 2) ∧ wr.cell? ⟨u0', 0, none⟩ = some (.slice (some ⟨v0', 0, none⟩) 2 2) ∧ wr.heap[v0]? = some (.cells (ints [2, 0, 1, 2, 1, 1]).toArray 73) ∧ wr.heap[v0']? = some (.cells (ints [2, 0, 1, 2, 1, 1]).toArray 73) from
    have hw := (bx wr h).1
    ⟨(bx wr h).2, kc hw (hT 0 _ rfl), kc hw (hT' 0 _ rfl), one (keepB hw h1.t0), one (keepB hw h2.t0), keepB hw h1.a0, keepB hw h2.a0⟩)
  have HF1 := Lib.hid (fun wr (h : Below W2.heap.size W2 wr) => show (wr.cell? ⟨w.heap.size, 1, none⟩ = some (.slice (some ⟨t, 0, none⟩) 2 ct) ∧ wr.cell? ⟨W1.heap.size, 1, none⟩ = some (.slice (some ⟨t', 0, none⟩) 2 ct')) ∧ wr.cell? ⟨t, 1, none⟩ = some (.slice (some ⟨u1, 0, none⟩) 1 1) ∧ wr.cell? ⟨t', 1, none⟩ = some (.slice (some ⟨u1', 0, none⟩) 1 1) ∧ wr.cell? ⟨u1, 0, none⟩ = some (.slice (some ⟨v1, 0, none⟩) 2 2) ∧ wr.cell? ⟨u1', 0, none⟩ = some (.slice (some ⟨v1', 0, none⟩) 2 2) ∧ wr.heap[v1]? = some (.cells (ints [1, 0, 0, 1, 1, 0]).toArray 73) ∧ wr.heap[v1']? = some (.cells (ints [1, 0, 0, 1, 1, 0]).toArray 73) from
    have hw := (bx wr h).1
    ⟨(bx wr h).2, kc hw (hT 1 _ rfl), kc hw (hT' 1 _ rfl), one (keepB hw h1.t1), one (keepB hw h2.t1), keepB hw h1.a1, keepB hw h2.a1⟩)
  obtain ⟨e0, e1⟩ := row_two Hx2.out
  obtain ⟨g0, g1⟩ := row_two box1
  have HB := Lib.hid (fun wr (h : Below W2.heap.size W2 wr) => bx wr h)
  clear kc bx one sl hq hq' box1 h1 h2 hT hT' ht ht' Hx1 Hx2 Hb1 Hb2
  go_enter Try.func19, Try.ntmps19
  go_wp2_with (first
    | (go_at_call 20; (with_reducible refine HI.out.mono ?_); rintro e w3 ⟨rfl, h3⟩
       obtain ⟨z1, z2⟩ := (HB.out w3 h3.out).2
       clear e0 e1 g0 g1))
  clear z1 z2
  go_loopw [6] (fun i wr => ∃ k : Nat, k ≤ 2 ∧ i = .int .i64 k ∧ Hid (Below W2.heap.size W2 wr)) (fun i _ => 2 - (intOf i).toNat)
  case atStart => exact ⟨0, by omega, rfl, h3.out⟩
  case round =>
    obtain ⟨k, hk, rfl, HR⟩ := hrel
    by_cases hlt : k < 2
    · have hk2 : k = 0 ∨ k = 1 := by omega
      clear hk hlt h3
      rcases hk2 with rfl | rfl
      · obtain ⟨⟨p0, p1⟩, c0, c1, d0, d1, f0, f1⟩ := HF0.out wr HR.out
        have hcast : ((0 : Nat) : Int) = 0 := rfl
        rw [hcast]
        clear hcast
        go_wp2
        go_quiet (fail)
        have HQ : Hid (Below W2.heap.size W2 (wr.drewN nq)) := belowN HR.out nq
        clear p0 p1 c0 c1 d0 d1 f0 f1
        go_wp2
        go_loopw [7, 8] (fun k s wx => ∃ j : Nat, j ≤ 1 ∧ k = .int .i64 j ∧ Hid (Below W2.heap.size W2 wx)) (fun k _ _ => 1 - (intOf k).toNat)
        case atStart => exact ⟨0, by omega, rfl, HQ.out⟩
        case round =>
          clear HR HQ
          obtain ⟨j, hj, rfl, HR⟩ := hrel
          obtain ⟨⟨p0, p1⟩, c0, c1, d0, d1, f0, f1⟩ := HF0.out wr HR.out
          have hj2 : j = 0 ∨ j = 1 := by omega
          clear hj
          rcases hj2 with rfl | rfl
          · have HA := Lib.hid (sacts_eq v0 v0' 2 2 2 0 1 2 1 1 wr.drew f0 f1)
            clear f0 f1
            go_wp2
            go_region_held3 (fun w' => w'.cell? ⟨w.heap.size, 1, none⟩ = some (.slice (some ⟨t, 0, none⟩) 2 ct) ∧ w'.cell? ⟨W1.heap.size, 1, none⟩ = some (.slice (some ⟨t', 0, none⟩) 2 ct') ∧ w'.cell? ⟨t, 0, none⟩ = some (.slice (some ⟨u0, 0, none⟩) 1 1) ∧ w'.cell? ⟨t', 0, none⟩ = some (.slice (some ⟨u0', 0, none⟩) 1 1) ∧ w'.cell? ⟨u0, 0, none⟩ = some (.slice (some ⟨v0, 0, none⟩) 2 2) ∧ w'.cell? ⟨u0', 0, none⟩ = some (.slice (some ⟨v0', 0, none⟩) 2 2)) ((exact ⟨p0, p1, c0, c1, d0, d1⟩))
              (first
                | (go_at_call 41; (with_reducible refine HA.out.mono ?_); rintro e w6 ⟨rfl, q6, rfl⟩))
            have HQ : Hid (Below W2.heap.size W2 (wr.drewN (1 + q6))) := belowN HR.out _
            go_wp2
            go_roundw
            case rel => exact ⟨1, by omega, by go_num, HQ.out⟩
            case measure => simp [intOf]
          · go_wp2
            go_roundw
            case rel => exact ⟨1, by omega, by go_num, HR.out⟩
            case measure => simp [intOf]
      · obtain ⟨⟨p0, p1⟩, c0, c1, d0, d1, f0, f1⟩ := HF1.out wr HR.out
        have hcast : ((1 : Nat) : Int) = 1 := rfl
        rw [hcast]
        clear hcast
        go_wp2
        go_quiet (fail)
        have HQ : Hid (Below W2.heap.size W2 (wr.drewN nq)) := belowN HR.out nq
        clear p0 p1 c0 c1 d0 d1 f0 f1
        go_wp2
        go_loopw [7, 8] (fun k s wx => ∃ j : Nat, j ≤ 1 ∧ k = .int .i64 j ∧ Hid (Below W2.heap.size W2 wx)) (fun k _ _ => 1 - (intOf k).toNat)
        case atStart => exact ⟨0, by omega, rfl, HQ.out⟩
        case round =>
          clear HR HQ
          obtain ⟨j, hj, rfl, HR⟩ := hrel
          obtain ⟨⟨p0, p1⟩, c0, c1, d0, d1, f0, f1⟩ := HF1.out wr HR.out
          have hj2 : j = 0 ∨ j = 1 := by omega
          clear hj
          rcases hj2 with rfl | rfl
          · have HA := Lib.hid (sacts_eq v1 v1' 2 2 1 0 0 1 1 0 wr.drew f0 f1)
            clear f0 f1
            go_wp2
            go_region_held3 (fun w' => w'.cell? ⟨w.heap.size, 1, none⟩ = some (.slice (some ⟨t, 0, none⟩) 2 ct) ∧ w'.cell? ⟨W1.heap.size, 1, none⟩ = some (.slice (some ⟨t', 0, none⟩) 2 ct') ∧ w'.cell? ⟨t, 1, none⟩ = some (.slice (some ⟨u1, 0, none⟩) 1 1) ∧ w'.cell? ⟨t', 1, none⟩ = some (.slice (some ⟨u1', 0, none⟩) 1 1) ∧ w'.cell? ⟨u1, 0, none⟩ = some (.slice (some ⟨v1, 0, none⟩) 2 2) ∧ w'.cell? ⟨u1', 0, none⟩ = some (.slice (some ⟨v1', 0, none⟩) 2 2)) ((exact ⟨p0, p1, c0, c1, d0, d1⟩))
              (first
                | (go_at_call 41; (with_reducible refine HA.out.mono ?_); rintro e w6 ⟨rfl, q6, rfl⟩))
            have HQ : Hid (Below W2.heap.size W2 (wr.drewN (1 + q6))) := belowN HR.out _
            go_wp2
            go_roundw
            case rel => exact ⟨1, by omega, by go_num, HQ.out⟩
            case measure => simp [intOf]
          · go_wp2
            go_roundw
            case rel => exact ⟨2, by omega, by go_num, HR.out⟩
            case measure => simp [intOf]
    · have hk2 : k = 2 := by omega
      subst hk2
      clear hlt hk
      obtain ⟨hb, z1, z2⟩ := HB.out wr HR.out
      have Hend := Lib.hid hb
      clear hb
      go_wp2
      go_ret
      exact ⟨rfl, Hend.out⟩
end Go.Proofs.Ytdemoikadojepaa
