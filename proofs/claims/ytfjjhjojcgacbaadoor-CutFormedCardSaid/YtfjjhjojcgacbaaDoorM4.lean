/- Helpers, joined: Hh, Hi, Hj, Hk, Hl, Hm, Hn. -/
import Derived.Test.YtfjjhjojcgacbaaDoorM3

/- Keep and Without, the document's, by contracts. -/
namespace Go.Proofs.YtfjjhjojcgacbaaDoor
open Go.RowKit Go.Maps Go.WideMaps Go.WideElems Go.ChangeShapes Go.WideShapes

/-- Numbers that lie there, now and later. -/
def IsAt (w : World) (a : Option Addr) (l : List Int) (n : Nat) : Prop := ∀ k, k < n → ∃ b o x, a = some ⟨b, o, none⟩ ∧ l[k]? = some x ∧ ∀ V, Below w.heap.size w V → V.cell? ⟨b, o + k, none⟩ = some (.int .i64 x)
theorem IsAt.below {w V : World} {a : Option Addr} {l : List Int} {n : Nat} (h : IsAt w a l n) (hb : Below w.heap.size w V) : IsAt V a l n := by
  intro k hk
  obtain ⟨b, o, e, h1, h2, h3⟩ := h k hk
  exact ⟨b, o, e, h1, h2, fun U hU => h3 U (stepB hb hU)⟩
theorem IsAt.of {w : World} {a : Option Addr} {l : List Int} {n : Nat} (h : SlAt w a (l.map (Value.int .i64))) (hn : l.length = n) : IsAt w a l n := by
  intro k hk
  have hk2 : l[k]? = some l[k] := List.getElem?_eq_getElem (by omega)
  have g : (l.map (Value.int .i64))[k]? = some (.int .i64 l[k]) := by rw [List.getElem?_map, hk2]; rfl
  rcases h with ⟨_, h0⟩ | ⟨b, o, rfl, hb, hc⟩
  · rw [h0] at g; simp at g
  have hb2 : b < w.heap.size := hb (by intro e; rw [e] at g; simp at g)
  exact ⟨b, o, _, rfl, hk2, fun V hV => (hV.cell (p := ⟨b, o + k, none⟩) hb2).trans (hc k _ g)⟩
theorem not_snoc {l : List Int} {k : Nat} {x y : Int} (h : ¬ y ∈ l.take k) (hx : l[k]? = some x) (hne : ¬ x = y) : ¬ y ∈ l.take (k + 1) := by
  rw [List.take_add_one, hx, List.mem_append]
  rintro (g | g)
  · exact h g
  · simp at g; exact hne g.symm

set_option maxHeartbeats 2000000 in
set_option maxRecDepth 100000 in
theorem among_any (a : Option Addr) (n c : Nat) (l : List Int) (y : Int) (hn : l.length = n) (hb : n ≤ 100000) (w : World) (h : IsAt w a l n) :
    Calls Tryd.prog 40 #[.slice a n c, .int .i64 y] w fun e w' => e = .returned (.bool (decide (y ∈ l))) ∧ Hid (Below w.heap.size w w') := by
  obtain ⟨R, hR⟩ : ∃ R, decide (y ∈ l) = R := ⟨_, rfl⟩
  rw [hR]
  have HR := Lib.hid hR
  have H := Lib.hid h
  have Hn := Lib.hid hn
  have hT0 : Hid (¬ y ∈ l.take 0) := by show ¬ _; simp
  clear h hn hR
  go_enter Tryd.func40, Tryd.ntmps40
  go_wp2_with fail
  go_loopw [5] (fun i wr => ∃ k : Nat, k ≤ n ∧ i = .int .i64 k ∧ Hid (¬ y ∈ l.take k) ∧ w = wr) (fun i _ => n - (intOf i).toNat)
  case atStart => exact ⟨0, Nat.zero_le _, rfl, hT0.out, rfl⟩
  case round =>
    clear hT0
    obtain ⟨k, hk, rfl, hT, hwr⟩ := hrel
    subst hwr
    by_cases hlt : k < n
    · obtain ⟨b1, o1, x, rfl, hx, hc⟩ := H.out k hlt
      have u0 := hc w (Below.refl _ _)
      by_cases hq : x = y
      · have HF : Hid (R = true) := by show _ = _; rw [← HR.out]; exact decide_eq_true (hq ▸ List.mem_of_getElem? hx)
        have hqb := beq_yes hq
        clear hq hx hc hT
        go_wp2_with fail
        go_ret
        exact ⟨by rw [HF.out]; rfl, Below.refl _ _⟩
      · have HT1 : Hid (¬ y ∈ l.take (k + 1)) := not_snoc hT.out hx hq
        have hqb := beq_no hq
        clear hq hx hc hT
        go_wp2_with fail
        go_roundw
        case rel => exact ⟨k + 1, by omega, by go_num, HT1.out, by first | trivial | rfl⟩
        case measure => simp [intOf]; omega
    · have hkn : k = n := by omega
      have HF : Hid (R = false) := by show _ = _; rw [← HR.out]; exact decide_eq_false (by have := hT.out; rwa [hkn, List.take_of_length_le (by have := Hn.out; omega)] at this)
      go_wp2_with fail
      go_ret
      exact ⟨by rw [HF.out]; rfl, Below.refl _ _⟩

/-- What Keep keeps of an event. -/
def keeps (txs : List Int) (kp : Bool) (e : Ev) : Bool := decide (e.tx ∈ txs) == kp

set_option maxHeartbeats 8000000 in
set_option maxRecDepth 100000 in
theorem keep_any (kp : Bool) (a b ta : Option Addr) (n c m d tn tc : Nat) (xs : List Value) (es : List Ev) (txs : List Int) (hx : xs.length = n * 2) (hm : es.length = m) (ht : txs.length = tn) (h1 : ∀ u ∈ xs, u.oneCell' = true) (hn : n ≤ 100000 ∧ m ≤ 100000 ∧ tn ≤ 100000) (w : World) (h : SlAt w a xs) (g : EvsAt w b es m) (ht' : IsAt w ta txs tn) :
    Calls Tryd.prog 19 #[hv a n c b m d, .slice ta tn tc, .bool kp] w fun e w' => ∃ v1 v2, e = .returned (.agg #[v1, v2]) ∧ Hid (w'.ownsRow w.heap.size 31 2 v1 n xs ∧ w'.ownsRow w.heap.size 34 8 v2 (es.filter (keeps txs kp)).length (evs (es.filter (keeps txs kp))) ∧ Below w.heap.size w w') := by
  obtain ⟨i0, hi, hz0, hz1, hz2⟩ := info_parts elem34
  obtain ⟨W1, hW1, Hb1, hs1, Hx1⟩ := cells_new w #[.slice a n c, .slice b m d] 25
  obtain ⟨W, hW, Hb2, hs2, Hy⟩ := cells_new W1 #[.slice none 0 0, .slice none 0 0] 25
  have HB : Hid (Below w.heap.size w W) := stepB Hb1.out Hb2.out
  have HX0 : Hid (W.heap[w.heap.size]? = some (.cells #[.slice a n c, .slice b m d] 25)) := keepB Hb2.out Hx1.out
  have H1 := Lib.hid (robs a n c xs hx hn.1 h1 W (h.below HB.out))
  have Hg := Lib.hid (g.below HB.out)
  have HA := Lib.hid (fun V (hV : Below w.heap.size w V) y => among_any ta tn tc txs y ht hn.2.2 V (ht'.below hV))
  have Hm := Lib.hid hm
  have Hmm : Hid (m ≤ 100000) := hn.2.1
  have hmm : (m : Int) ≤ 100000 := by omega
  have Hws : Hid (w.heap.size ≤ W.heap.size) := HB.out.size
  have Hw1 : Hid (W1.heap.size < W.heap.size ∧ w.heap.size ≤ W1.heap.size) := ⟨hs2.out, Nat.le_of_lt hs1.out⟩
  have Hw2 : Hid (w.heap.size < W.heap.size) := Nat.lt_trans hs1.out hs2.out
  clear h g hx hm h1 hn Hb1 Hb2 Hx1 hs1 hs2 ht ht'
  obtain ⟨x0, x1⟩ := row_two HX0.out
  go_enter Tryd.func19, Tryd.ntmps19
  go_wp2_with (first
    | (go_at_call 10; (with_reducible refine H1.out.mono ?_); rintro e w2 ⟨v1, rfl, K2⟩; obtain ⟨a1, c1, rfl, -, -⟩ := row_sl K2.out.1
       obtain ⟨W3, hW3, Hb3, hs3, Hq⟩ := cells_new w2 #[.slice none 0 0, .slice none 0 0] 25
       obtain ⟨G1, G2, hG1, hG2, ⟨⟨g0, l0⟩, ⟨g1, l1⟩⟩, HG, HL, HCg, HOg⟩ := box_put2x (w := w2) (.slice a1 n c1) (.slice none 0 0) Hq.out (Nat.le_refl _)
       obtain ⟨y0, y1⟩ := row_two (keepB (stepB K2.out.2 (Hb3.out.trans HL.out)) HX0.out)))
  obtain ⟨kf, hkf⟩ : ∃ kf : List Ev → List Ev, (fun l => l.filter (keeps txs kp)) = kf := ⟨_, rfl⟩
  have kf' : ∀ l, kf l = l.filter (keeps txs kp) := fun l => by rw [← hkf]
  have HD : Hid (OnAt W w2.heap.size (.slice a1 n c1) n xs (.slice none 0 0) (kf (es.take 0)) G2) := ⟨stepB K2.out.2 (Hb3.out.trans HL.out), K2.out.2.size, HG.out, row_kept K2.out.1 (Hb3.out.trans HL.out), by rw [kf']; simpa [evs] using World.ownsRow_nil _ _ _ _⟩
  obtain ⟨Q, hQ⟩ : ∃ Q, w2.heap.size = Q := ⟨_, rfl⟩
  rw [hQ] at HD ⊢
  clear hkf hQ hG1 hG2 g0 l0 g1 l1 HG HL HCg HOg hW3 Hb3 hs3 Hq y0 y1 x0 x1 K2 H1
  go_wp2_with fail
  go_loopw [8] (fun i wr => ∃ k v, k ≤ m ∧ i = .int .i64 ((k : Nat) : Int) ∧ Hid (OnAt W Q (.slice a1 n c1) n xs v (kf (es.take k)) wr)) (fun i _ => m - (intOf i).toNat)
  case atStart => exact ⟨0, _, Nat.zero_le _, rfl, HD.out⟩
  case round =>
    clear HD
    obtain ⟨k, v, hk, rfl, HD⟩ := hrel
    have p01 := row_two (keepB' HD.out.below Hw2.out HX0.out)
    obtain ⟨p0, p1⟩ := p01
    by_cases hlt : k < m
    · obtain ⟨b1, o1, x, rfl, hx, hc⟩ := Hg.out k hlt
      have HSW : Hid (∀ V, Below W.heap.size W V → (V.cell? ⟨w.heap.size, 0, none⟩ = some (.slice a n c) ∧ V.cell? ⟨w.heap.size, 1, none⟩ = some (.slice (some ⟨b1, o1, none⟩) m d)) ∧ (V.cell? ⟨b1, o1 + k * 8, none⟩ = some (.int .i64 x.kind) ∧ V.cell? ⟨b1, o1 + k * 8 + 1, none⟩ = some (.int .i64 x.tx) ∧ V.cell? ⟨b1, o1 + k * 8 + 2, none⟩ = some (.int .i64 x.thread) ∧ V.cell? ⟨b1, o1 + k * 8 + 3, none⟩ = some (.int .i64 x.obj) ∧ V.cell? ⟨b1, o1 + k * 8 + 4, none⟩ = some (.int .i64 x.op) ∧ V.cell? ⟨b1, o1 + k * 8 + 5, none⟩ = some (.int .i64 x.key) ∧ V.cell? ⟨b1, o1 + k * 8 + 6, none⟩ = some (.int .i64 x.val) ∧ V.cell? ⟨b1, o1 + k * 8 + 7, none⟩ = some (.int .i64 x.ret))) := fun V hV => ⟨row_two (keepB' hV Hw2.out HX0.out), hc V hV⟩
      obtain ⟨u0, u1, u2, u3, u4, u5, u6, u7⟩ := hc wr HD.out.below
      have hlt2 : (k : Int) < (m : Int) := by omega
      have HS := Lib.hid (HA.out wr (stepB HB.out HD.out.below) x.tx)
      have HP : Hid (kf (es.take (k + 1)) = kf (es.take k) ++ (if (decide (x.tx ∈ txs) == kp) then [x] else [])) := by
        show _ = _
        rw [kf', kf']
        exact filter_next (keeps txs kp) hx
      have hlen : Hid ((kf (es.take k)).length ≤ 100000) := by
        have h1 := List.length_filter_le (keeps txs kp) (es.take k)
        have h2 := List.length_take_le k es
        show _ ≤ _
        rw [kf']
        have := Hmm.out
        omega
      generalize kf (es.take k) = fs at HD HP hlen
      generalize decide (x.tx ∈ txs) = R at HS HP
      clear hc hx u0 u2 u3 u4 u5 u6 u7
      cases R <;> cases kp
      · have HE : Hid (kf (es.take (k + 1)) = fs ++ [x]) := by show _ = _; rw [HP.out]; simp
        clear HP
        go_wp2_with (first | (go_at_call 40; (with_reducible refine HS.out.mono ?_); rintro e w8 ⟨rfl, h8⟩; have q8 := row_two (keepB' (stepB HD.out.below h8.out) Hw2.out HX0.out)))
        have HD8 : Hid (OnAt W Q (.slice a1 n c1) n xs v fs w8) := HD.out.next h8.out
        have HS8 := Lib.hid (fun V (hV : Below w8.heap.size w8 V) => HSW.out V (stepB HD8.out.below hV))
        obtain ⟨W9, hW9, Hb9, hs9, Hr9⟩ := cells_new w8.drew #[.int .i64 x.kind, .int .i64 x.tx, .int .i64 x.thread, .int .i64 x.obj, .int .i64 x.op, .int .i64 x.key, .int .i64 x.val, .int .i64 x.ret] 34
        have Hr9' : Hid (W9.heap[w8.heap.size]? = some (.cells #[.int .i64 x.kind, .int .i64 x.tx, .int .i64 x.thread, .int .i64 x.obj, .int .i64 x.op, .int .i64 x.key, .int .i64 x.val, .int .i64 x.ret] 34)) := Hr9.out
        have B89 : Hid (Below w8.heap.size w8 W9) := stepB (stepD (Below.refl _ _)) Hb9.out
        have HD9 : Hid (OnAt W Q (.slice a1 n c1) n xs v fs W9) := HD8.out.next B89.out
        have BD : Hid (Below w8.heap.size w8 w8.drew) := stepD (Below.refl _ _)
        refine wp_region_held_drew (S := (fun w' => (w'.cell? ⟨w.heap.size, 0, none⟩ = some (.slice a n c) ∧ w'.cell? ⟨w.heap.size, 1, none⟩ = some (.slice (some ⟨b1, o1, none⟩) m d)) ∧ (w'.cell? ⟨b1, o1 + k * 8, none⟩ = some (.int .i64 x.kind) ∧ w'.cell? ⟨b1, o1 + k * 8 + 1, none⟩ = some (.int .i64 x.tx) ∧ w'.cell? ⟨b1, o1 + k * 8 + 2, none⟩ = some (.int .i64 x.thread) ∧ w'.cell? ⟨b1, o1 + k * 8 + 3, none⟩ = some (.int .i64 x.obj) ∧ w'.cell? ⟨b1, o1 + k * 8 + 4, none⟩ = some (.int .i64 x.op) ∧ w'.cell? ⟨b1, o1 + k * 8 + 5, none⟩ = some (.int .i64 x.key) ∧ w'.cell? ⟨b1, o1 + k * 8 + 6, none⟩ = some (.int .i64 x.val) ∧ w'.cell? ⟨b1, o1 + k * 8 + 7, none⟩ = some (.int .i64 x.ret)))) (by kernel_rfl) (HS8.out _ BD.out) (fun hHeld => ?_)
        refine held_take 0 (some 30) ?_ rfl rfl (by kernel_rfl) (by kernel_rfl) (by kernel_rfl) (fun _ _ _ h => h) (by kernel_rfl) ?_ (by assumption) ?_
        rotate_left
        · intro w hSw; (try dsimp only at hSw); go_simp <;> (try with_reducible rfl)
        simp only [Act.put, List.setIfInBounds_toArray, List.set_cons_zero, List.set_cons_succ]
        refine held_take 2 (some 32) ?_ rfl rfl (by kernel_rfl) (by kernel_rfl) (by kernel_rfl) (fun _ _ _ h => h) (by kernel_rfl) ?_ (by assumption) ?_
        rotate_left
        · intro w hSw; (try dsimp only at hSw); go_simp <;> (try with_reducible rfl)
        simp only [Act.put, List.setIfInBounds_toArray, List.set_cons_zero, List.set_cons_succ]
        refine held_take 3 (some 33) ?_ rfl rfl (by kernel_rfl) (by kernel_rfl) (by kernel_rfl) (fun _ _ _ h => h) (by kernel_rfl) ?_ (by assumption) ?_
        rotate_left
        · intro w hSw; (try dsimp only at hSw); go_simp <;> (try with_reducible rfl)
        simp only [Act.put, List.setIfInBounds_toArray, List.set_cons_zero, List.set_cons_succ]
        refine held_take 4 (some 34) ?_ rfl rfl (by kernel_rfl) (by kernel_rfl) (by kernel_rfl) (fun _ _ _ h => h) (by kernel_rfl) ?_ (by assumption) ?_
        rotate_left
        · intro w hSw; (try dsimp only at hSw); go_simp <;> (try with_reducible rfl)
        simp only [Act.put, List.setIfInBounds_toArray, List.set_cons_zero, List.set_cons_succ]
        refine held_take 5 (some 35) ?_ rfl rfl (by kernel_rfl) (by kernel_rfl) (by kernel_rfl) (fun _ _ _ h => h) (by kernel_rfl) ?_ (by assumption) ?_
        rotate_left
        · intro w hSw; (try dsimp only at hSw); go_simp <;> (try with_reducible rfl)
        simp only [Act.put, List.setIfInBounds_toArray, List.set_cons_zero, List.set_cons_succ]
        refine held_take 6 (some 36) ?_ rfl rfl (by kernel_rfl) (by kernel_rfl) (by kernel_rfl) (fun _ _ _ h => h) (by kernel_rfl) ?_ (by assumption) ?_
        rotate_left
        · intro w hSw; (try dsimp only at hSw); go_simp <;> (try with_reducible rfl)
        simp only [Act.put, List.setIfInBounds_toArray, List.set_cons_zero, List.set_cons_succ]
        refine wpAnyH_ready (rs := [1, 7]) (by kernel_rfl) (by simp) (AllReadyH.cons rfl (fun K hK => ?_) (AllReadyH.cons rfl (fun K hK => ?_) AllReadyH.nil))
        · have s1d := (row_two (HD8.out.next BD.out).box).2
          go_simp
          refine hK.out _ _ (HS8.out _ BD.out) (fun hHeld => ?_)
          clear hK K
          try simp only [Act.put, List.setIfInBounds_toArray, List.set_cons_zero, List.set_cons_succ]
          refine wpAnyH_ready (rs := [7]) (by kernel_rfl) (by simp) (AllReadyH.cons rfl (fun K hK => ?_) AllReadyH.nil)
          go_simp
          try rw [hW9]
          refine hK.out _ _ (HS8.out _ B89.out) (fun hHeld => ?_)
          clear hK K
          try simp only [Act.put, List.setIfInBounds_toArray, List.set_cons_zero, List.set_cons_succ]
          refine wpAnyH_ready (rs := [8]) (by kernel_rfl) (by simp) (AllReadyH.cons rfl (fun K hK => ?_) AllReadyH.nil)
          refine step_append_own rfl _ _ 23 rfl W.heap.size 34 i0 Ev.zero.agg 8 64 Tryd.underlying23 hi hz0 hz1 hz2 rfl (by decide) v _ _ rfl HD9.out.row ⟨w8.heap.size, 0, none⟩ 1 1 [.int .i64 x.kind, .int .i64 x.tx, .int .i64 x.thread, .int .i64 x.obj, .int .i64 x.op, .int .i64 x.key, .int .i64 x.val, .int .i64 x.ret] rfl rfl (World.news_of_block Hr9'.out) (by intro u hu; simp only [List.mem_cons, List.not_mem_nil, or_false] at hu; rcases hu with rfl | rfl | rfl | rfl | rfl | rfl | rfl | rfl <;> rfl) (by unfold maxLen; have := hlen.out; omega) (by have := hlen.out; omega) HD9.out.below.size ?_
          intro v' w9 hown9 hgrow9
          obtain ⟨a9, c9, rfl, -, -⟩ := row_sl hown9
          obtain ⟨U1, hU1, ⟨m0, m1⟩, HU⟩ := HD9.out.put (e := x) hgrow9 hown9
          have B9 : Hid (Below W.heap.size W w9) := below_own HD9.out.below hgrow9 HD9.out.row HD9.out.below.size
          clear hown9 hgrow9
          refine hK.out _ _ (HSW.out _ B9.out) (fun hHeld => ?_)
          clear hK K
          simp only [Act.put, List.setIfInBounds_toArray]
          refine held_take 9 (some 39) ?_ rfl rfl (by kernel_rfl) (by kernel_rfl) (by kernel_rfl) (fun _ _ _ h => h) (by kernel_rfl) ?_ (by assumption) ?_
          rotate_left
          · intro w hSw; (try dsimp only at hSw); go_simp <;> (try with_reducible rfl)
          simp only [Act.put]
          refine wpAnyH_ready (rs := [10]) (by kernel_rfl) (by simp) (AllReadyH.cons rfl (fun K hK => ?_) AllReadyH.nil)
          go_simp
          refine hK.out _ _ (HSW.out _ HU.out.below) (fun hHeld => ?_)
          clear hK K
          try simp only [Act.put, List.setIfInBounds_toArray, List.set_cons_zero, List.set_cons_succ]
          refine wpAnyH_done (by kernel_rfl) ?_ _
          go_wp2_with fail
          go_roundw
          case rel => exact ⟨k + 1, _, by omega, by go_num, by show OnAt _ _ _ _ _ _ _ _; rw [HE.out]; exact HU.out⟩
          case measure => simp [intOf]; omega
        · go_simp
          try rw [hW9]
          refine hK.out _ _ (HS8.out _ B89.out) (fun hHeld => ?_)
          clear hK K
          try simp only [Act.put, List.setIfInBounds_toArray, List.set_cons_zero, List.set_cons_succ]
          refine wpAnyH_ready (rs := [1]) (by kernel_rfl) (by simp) (AllReadyH.cons rfl (fun K hK => ?_) AllReadyH.nil)
          have s1d := (row_two HD9.out.box).2
          go_simp
          refine hK.out _ _ (HS8.out _ B89.out) (fun hHeld => ?_)
          clear hK K
          try simp only [Act.put, List.setIfInBounds_toArray, List.set_cons_zero, List.set_cons_succ]
          refine wpAnyH_ready (rs := [8]) (by kernel_rfl) (by simp) (AllReadyH.cons rfl (fun K hK => ?_) AllReadyH.nil)
          refine step_append_own rfl _ _ 23 rfl W.heap.size 34 i0 Ev.zero.agg 8 64 Tryd.underlying23 hi hz0 hz1 hz2 rfl (by decide) v _ _ rfl HD9.out.row ⟨w8.heap.size, 0, none⟩ 1 1 [.int .i64 x.kind, .int .i64 x.tx, .int .i64 x.thread, .int .i64 x.obj, .int .i64 x.op, .int .i64 x.key, .int .i64 x.val, .int .i64 x.ret] rfl rfl (World.news_of_block Hr9'.out) (by intro u hu; simp only [List.mem_cons, List.not_mem_nil, or_false] at hu; rcases hu with rfl | rfl | rfl | rfl | rfl | rfl | rfl | rfl <;> rfl) (by unfold maxLen; have := hlen.out; omega) (by have := hlen.out; omega) HD9.out.below.size ?_
          intro v' w9 hown9 hgrow9
          obtain ⟨a9, c9, rfl, -, -⟩ := row_sl hown9
          obtain ⟨U1, hU1, ⟨m0, m1⟩, HU⟩ := HD9.out.put (e := x) hgrow9 hown9
          have B9 : Hid (Below W.heap.size W w9) := below_own HD9.out.below hgrow9 HD9.out.row HD9.out.below.size
          clear hown9 hgrow9
          refine hK.out _ _ (HSW.out _ B9.out) (fun hHeld => ?_)
          clear hK K
          simp only [Act.put, List.setIfInBounds_toArray]
          refine held_take 9 (some 39) ?_ rfl rfl (by kernel_rfl) (by kernel_rfl) (by kernel_rfl) (fun _ _ _ h => h) (by kernel_rfl) ?_ (by assumption) ?_
          rotate_left
          · intro w hSw; (try dsimp only at hSw); go_simp <;> (try with_reducible rfl)
          simp only [Act.put]
          refine wpAnyH_ready (rs := [10]) (by kernel_rfl) (by simp) (AllReadyH.cons rfl (fun K hK => ?_) AllReadyH.nil)
          go_simp
          refine hK.out _ _ (HSW.out _ HU.out.below) (fun hHeld => ?_)
          clear hK K
          try simp only [Act.put, List.setIfInBounds_toArray, List.set_cons_zero, List.set_cons_succ]
          refine wpAnyH_done (by kernel_rfl) ?_ _
          go_wp2_with fail
          go_roundw
          case rel => exact ⟨k + 1, _, by omega, by go_num, by show OnAt _ _ _ _ _ _ _ _; rw [HE.out]; exact HU.out⟩
          case measure => simp [intOf]; omega
      · have HE : Hid (kf (es.take (k + 1)) = fs) := by show _ = _; rw [HP.out]; simp
        clear HP
        go_wp2_with (first | (go_at_call 40; (with_reducible refine HS.out.mono ?_); rintro e w8 ⟨rfl, h8⟩; have q8 := row_two (keepB' (stepB HD.out.below h8.out) Hw2.out HX0.out)))
        go_roundw
        case rel => exact ⟨k + 1, v, by omega, by go_num, by show OnAt _ _ _ _ _ _ _ _; rw [HE.out]; exact HD.out.next h8.out⟩
        case measure => simp [intOf]; omega
      · have HE : Hid (kf (es.take (k + 1)) = fs) := by show _ = _; rw [HP.out]; simp
        clear HP
        go_wp2_with (first | (go_at_call 40; (with_reducible refine HS.out.mono ?_); rintro e w8 ⟨rfl, h8⟩; have q8 := row_two (keepB' (stepB HD.out.below h8.out) Hw2.out HX0.out)))
        go_roundw
        case rel => exact ⟨k + 1, v, by omega, by go_num, by show OnAt _ _ _ _ _ _ _ _; rw [HE.out]; exact HD.out.next h8.out⟩
        case measure => simp [intOf]; omega
      · have HE : Hid (kf (es.take (k + 1)) = fs ++ [x]) := by show _ = _; rw [HP.out]; simp
        clear HP
        go_wp2_with (first | (go_at_call 40; (with_reducible refine HS.out.mono ?_); rintro e w8 ⟨rfl, h8⟩; have q8 := row_two (keepB' (stepB HD.out.below h8.out) Hw2.out HX0.out)))
        have HD8 : Hid (OnAt W Q (.slice a1 n c1) n xs v fs w8) := HD.out.next h8.out
        have HS8 := Lib.hid (fun V (hV : Below w8.heap.size w8 V) => HSW.out V (stepB HD8.out.below hV))
        obtain ⟨W9, hW9, Hb9, hs9, Hr9⟩ := cells_new w8.drew #[.int .i64 x.kind, .int .i64 x.tx, .int .i64 x.thread, .int .i64 x.obj, .int .i64 x.op, .int .i64 x.key, .int .i64 x.val, .int .i64 x.ret] 34
        have Hr9' : Hid (W9.heap[w8.heap.size]? = some (.cells #[.int .i64 x.kind, .int .i64 x.tx, .int .i64 x.thread, .int .i64 x.obj, .int .i64 x.op, .int .i64 x.key, .int .i64 x.val, .int .i64 x.ret] 34)) := Hr9.out
        have B89 : Hid (Below w8.heap.size w8 W9) := stepB (stepD (Below.refl _ _)) Hb9.out
        have HD9 : Hid (OnAt W Q (.slice a1 n c1) n xs v fs W9) := HD8.out.next B89.out
        have BD : Hid (Below w8.heap.size w8 w8.drew) := stepD (Below.refl _ _)
        refine wp_region_held_drew (S := (fun w' => (w'.cell? ⟨w.heap.size, 0, none⟩ = some (.slice a n c) ∧ w'.cell? ⟨w.heap.size, 1, none⟩ = some (.slice (some ⟨b1, o1, none⟩) m d)) ∧ (w'.cell? ⟨b1, o1 + k * 8, none⟩ = some (.int .i64 x.kind) ∧ w'.cell? ⟨b1, o1 + k * 8 + 1, none⟩ = some (.int .i64 x.tx) ∧ w'.cell? ⟨b1, o1 + k * 8 + 2, none⟩ = some (.int .i64 x.thread) ∧ w'.cell? ⟨b1, o1 + k * 8 + 3, none⟩ = some (.int .i64 x.obj) ∧ w'.cell? ⟨b1, o1 + k * 8 + 4, none⟩ = some (.int .i64 x.op) ∧ w'.cell? ⟨b1, o1 + k * 8 + 5, none⟩ = some (.int .i64 x.key) ∧ w'.cell? ⟨b1, o1 + k * 8 + 6, none⟩ = some (.int .i64 x.val) ∧ w'.cell? ⟨b1, o1 + k * 8 + 7, none⟩ = some (.int .i64 x.ret)))) (by kernel_rfl) (HS8.out _ BD.out) (fun hHeld => ?_)
        refine held_take 0 (some 30) ?_ rfl rfl (by kernel_rfl) (by kernel_rfl) (by kernel_rfl) (fun _ _ _ h => h) (by kernel_rfl) ?_ (by assumption) ?_
        rotate_left
        · intro w hSw; (try dsimp only at hSw); go_simp <;> (try with_reducible rfl)
        simp only [Act.put, List.setIfInBounds_toArray, List.set_cons_zero, List.set_cons_succ]
        refine held_take 2 (some 32) ?_ rfl rfl (by kernel_rfl) (by kernel_rfl) (by kernel_rfl) (fun _ _ _ h => h) (by kernel_rfl) ?_ (by assumption) ?_
        rotate_left
        · intro w hSw; (try dsimp only at hSw); go_simp <;> (try with_reducible rfl)
        simp only [Act.put, List.setIfInBounds_toArray, List.set_cons_zero, List.set_cons_succ]
        refine held_take 3 (some 33) ?_ rfl rfl (by kernel_rfl) (by kernel_rfl) (by kernel_rfl) (fun _ _ _ h => h) (by kernel_rfl) ?_ (by assumption) ?_
        rotate_left
        · intro w hSw; (try dsimp only at hSw); go_simp <;> (try with_reducible rfl)
        simp only [Act.put, List.setIfInBounds_toArray, List.set_cons_zero, List.set_cons_succ]
        refine held_take 4 (some 34) ?_ rfl rfl (by kernel_rfl) (by kernel_rfl) (by kernel_rfl) (fun _ _ _ h => h) (by kernel_rfl) ?_ (by assumption) ?_
        rotate_left
        · intro w hSw; (try dsimp only at hSw); go_simp <;> (try with_reducible rfl)
        simp only [Act.put, List.setIfInBounds_toArray, List.set_cons_zero, List.set_cons_succ]
        refine held_take 5 (some 35) ?_ rfl rfl (by kernel_rfl) (by kernel_rfl) (by kernel_rfl) (fun _ _ _ h => h) (by kernel_rfl) ?_ (by assumption) ?_
        rotate_left
        · intro w hSw; (try dsimp only at hSw); go_simp <;> (try with_reducible rfl)
        simp only [Act.put, List.setIfInBounds_toArray, List.set_cons_zero, List.set_cons_succ]
        refine held_take 6 (some 36) ?_ rfl rfl (by kernel_rfl) (by kernel_rfl) (by kernel_rfl) (fun _ _ _ h => h) (by kernel_rfl) ?_ (by assumption) ?_
        rotate_left
        · intro w hSw; (try dsimp only at hSw); go_simp <;> (try with_reducible rfl)
        simp only [Act.put, List.setIfInBounds_toArray, List.set_cons_zero, List.set_cons_succ]
        refine wpAnyH_ready (rs := [1, 7]) (by kernel_rfl) (by simp) (AllReadyH.cons rfl (fun K hK => ?_) (AllReadyH.cons rfl (fun K hK => ?_) AllReadyH.nil))
        · have s1d := (row_two (HD8.out.next BD.out).box).2
          go_simp
          refine hK.out _ _ (HS8.out _ BD.out) (fun hHeld => ?_)
          clear hK K
          try simp only [Act.put, List.setIfInBounds_toArray, List.set_cons_zero, List.set_cons_succ]
          refine wpAnyH_ready (rs := [7]) (by kernel_rfl) (by simp) (AllReadyH.cons rfl (fun K hK => ?_) AllReadyH.nil)
          go_simp
          try rw [hW9]
          refine hK.out _ _ (HS8.out _ B89.out) (fun hHeld => ?_)
          clear hK K
          try simp only [Act.put, List.setIfInBounds_toArray, List.set_cons_zero, List.set_cons_succ]
          refine wpAnyH_ready (rs := [8]) (by kernel_rfl) (by simp) (AllReadyH.cons rfl (fun K hK => ?_) AllReadyH.nil)
          refine step_append_own rfl _ _ 23 rfl W.heap.size 34 i0 Ev.zero.agg 8 64 Tryd.underlying23 hi hz0 hz1 hz2 rfl (by decide) v _ _ rfl HD9.out.row ⟨w8.heap.size, 0, none⟩ 1 1 [.int .i64 x.kind, .int .i64 x.tx, .int .i64 x.thread, .int .i64 x.obj, .int .i64 x.op, .int .i64 x.key, .int .i64 x.val, .int .i64 x.ret] rfl rfl (World.news_of_block Hr9'.out) (by intro u hu; simp only [List.mem_cons, List.not_mem_nil, or_false] at hu; rcases hu with rfl | rfl | rfl | rfl | rfl | rfl | rfl | rfl <;> rfl) (by unfold maxLen; have := hlen.out; omega) (by have := hlen.out; omega) HD9.out.below.size ?_
          intro v' w9 hown9 hgrow9
          obtain ⟨a9, c9, rfl, -, -⟩ := row_sl hown9
          obtain ⟨U1, hU1, ⟨m0, m1⟩, HU⟩ := HD9.out.put (e := x) hgrow9 hown9
          have B9 : Hid (Below W.heap.size W w9) := below_own HD9.out.below hgrow9 HD9.out.row HD9.out.below.size
          clear hown9 hgrow9
          refine hK.out _ _ (HSW.out _ B9.out) (fun hHeld => ?_)
          clear hK K
          simp only [Act.put, List.setIfInBounds_toArray]
          refine held_take 9 (some 39) ?_ rfl rfl (by kernel_rfl) (by kernel_rfl) (by kernel_rfl) (fun _ _ _ h => h) (by kernel_rfl) ?_ (by assumption) ?_
          rotate_left
          · intro w hSw; (try dsimp only at hSw); go_simp <;> (try with_reducible rfl)
          simp only [Act.put]
          refine wpAnyH_ready (rs := [10]) (by kernel_rfl) (by simp) (AllReadyH.cons rfl (fun K hK => ?_) AllReadyH.nil)
          go_simp
          refine hK.out _ _ (HSW.out _ HU.out.below) (fun hHeld => ?_)
          clear hK K
          try simp only [Act.put, List.setIfInBounds_toArray, List.set_cons_zero, List.set_cons_succ]
          refine wpAnyH_done (by kernel_rfl) ?_ _
          go_wp2_with fail
          go_roundw
          case rel => exact ⟨k + 1, _, by omega, by go_num, by show OnAt _ _ _ _ _ _ _ _; rw [HE.out]; exact HU.out⟩
          case measure => simp [intOf]; omega
        · go_simp
          try rw [hW9]
          refine hK.out _ _ (HS8.out _ B89.out) (fun hHeld => ?_)
          clear hK K
          try simp only [Act.put, List.setIfInBounds_toArray, List.set_cons_zero, List.set_cons_succ]
          refine wpAnyH_ready (rs := [1]) (by kernel_rfl) (by simp) (AllReadyH.cons rfl (fun K hK => ?_) AllReadyH.nil)
          have s1d := (row_two HD9.out.box).2
          go_simp
          refine hK.out _ _ (HS8.out _ B89.out) (fun hHeld => ?_)
          clear hK K
          try simp only [Act.put, List.setIfInBounds_toArray, List.set_cons_zero, List.set_cons_succ]
          refine wpAnyH_ready (rs := [8]) (by kernel_rfl) (by simp) (AllReadyH.cons rfl (fun K hK => ?_) AllReadyH.nil)
          refine step_append_own rfl _ _ 23 rfl W.heap.size 34 i0 Ev.zero.agg 8 64 Tryd.underlying23 hi hz0 hz1 hz2 rfl (by decide) v _ _ rfl HD9.out.row ⟨w8.heap.size, 0, none⟩ 1 1 [.int .i64 x.kind, .int .i64 x.tx, .int .i64 x.thread, .int .i64 x.obj, .int .i64 x.op, .int .i64 x.key, .int .i64 x.val, .int .i64 x.ret] rfl rfl (World.news_of_block Hr9'.out) (by intro u hu; simp only [List.mem_cons, List.not_mem_nil, or_false] at hu; rcases hu with rfl | rfl | rfl | rfl | rfl | rfl | rfl | rfl <;> rfl) (by unfold maxLen; have := hlen.out; omega) (by have := hlen.out; omega) HD9.out.below.size ?_
          intro v' w9 hown9 hgrow9
          obtain ⟨a9, c9, rfl, -, -⟩ := row_sl hown9
          obtain ⟨U1, hU1, ⟨m0, m1⟩, HU⟩ := HD9.out.put (e := x) hgrow9 hown9
          have B9 : Hid (Below W.heap.size W w9) := below_own HD9.out.below hgrow9 HD9.out.row HD9.out.below.size
          clear hown9 hgrow9
          refine hK.out _ _ (HSW.out _ B9.out) (fun hHeld => ?_)
          clear hK K
          simp only [Act.put, List.setIfInBounds_toArray]
          refine held_take 9 (some 39) ?_ rfl rfl (by kernel_rfl) (by kernel_rfl) (by kernel_rfl) (fun _ _ _ h => h) (by kernel_rfl) ?_ (by assumption) ?_
          rotate_left
          · intro w hSw; (try dsimp only at hSw); go_simp <;> (try with_reducible rfl)
          simp only [Act.put]
          refine wpAnyH_ready (rs := [10]) (by kernel_rfl) (by simp) (AllReadyH.cons rfl (fun K hK => ?_) AllReadyH.nil)
          go_simp
          refine hK.out _ _ (HSW.out _ HU.out.below) (fun hHeld => ?_)
          clear hK K
          try simp only [Act.put, List.setIfInBounds_toArray, List.set_cons_zero, List.set_cons_succ]
          refine wpAnyH_done (by kernel_rfl) ?_ _
          go_wp2_with fail
          go_roundw
          case rel => exact ⟨k + 1, _, by omega, by go_num, by show OnAt _ _ _ _ _ _ _ _; rw [HE.out]; exact HU.out⟩
          case measure => simp [intOf]; omega
    · have hkm : k = m := by omega
      have HE : Hid (kf (es.take k) = es.filter (keeps txs kp)) := by show _ = _; rw [kf', hkm, List.take_of_length_le (by have := Hm.out; omega)]
      rw [HE.out] at HD
      obtain ⟨a2, c2, rfl, -, -⟩ := row_sl HD.out.row
      obtain ⟨F1, F2, hF1, hF2, ⟨⟨f0, e0⟩, ⟨f1, e1⟩⟩, HF, HE2, HC, HO⟩ := box_put2x (w := w) (.slice a1 n c1) (.slice a2 (es.filter (keeps txs kp)).length c2) (keepB' HD.out.below Hw1.out.1 Hy.out) Hw1.out.2
      obtain ⟨z0, z1⟩ := row_two HD.out.box
      clear HE
      go_wp2_with fail
      refine bodyPost_ret (results_row1 rfl _ _ W1.heap.size 25 _ (0, 0) _ rfl HF.out Tryd.underlying25 rfl (by kernel_rfl)) rfl ?_
      refine ⟨_, _, rfl, ?_, ?_, (stepB HB.out HD.out.below).trans HE2.out⟩
      · exact row_base (HO.out _ _ _ _ _ _ Hw1.out.1 HD.out.row1) Hws.out
      · exact row_base (HO.out _ _ _ _ _ _ Hw1.out.1 HD.out.row) Hws.out
end Go.Proofs.YtfjjhjojcgacbaaDoor

/- Without, the document's; slices.Equal of objects: by contracts. -/
namespace Go.Proofs.YtfjjhjojcgacbaaDoor
open Go.RowKit Go.Maps Go.WideMaps Go.WideElems Go.ChangeShapes Go.WideShapes

theorem belowN {n : Nat} {W V : World} (h : Below n W V) (q : Nat) : Below n W (V.drewN q) := h.trans ⟨rfl, rfl, rfl, Nat.le_refl _, fun _ _ => rfl⟩
theorem keeps_one (tx : Int) (e : Ev) : keeps [tx] false e = !(e.tx == tx) := by
  unfold keeps
  by_cases h : e.tx = tx <;> simp [h]

set_option maxHeartbeats 2000000 in
set_option maxRecDepth 100000 in
theorem rwithout_any (a b : Option Addr) (n c m d : Nat) (tx : Int) (xs : List Value) (es : List Ev) (hx : xs.length = n * 2) (hm : es.length = m) (h1 : ∀ u ∈ xs, u.oneCell' = true) (hn : n ≤ 100000 ∧ m ≤ 100000) (w : World) (h : SlAt w a xs) (g : EvsAt w b es m) :
    Calls Tryd.prog 16 #[hv a n c b m d, .int .i64 tx] w fun e w' => ∃ v1 v2, e = .returned (.agg #[v1, v2]) ∧ Hid (w'.ownsRow w.heap.size 31 2 v1 n xs ∧ w'.ownsRow w.heap.size 34 8 v2 (es.filter fun e => !(e.tx == tx)).length (evs (es.filter fun e => !(e.tx == tx))) ∧ Below w.heap.size w w') := by
  obtain ⟨W1, hW1, Hb1, hs1, Hx1⟩ := cells_new w #[.slice a n c, .slice b m d] 25
  obtain ⟨W2, hW2, Hb2, hs2, Hx2⟩ := cells_new W1 #[.slice none 0 0, .slice none 0 0] 25
  obtain ⟨W, hW, Hb3, hs3, Hy⟩ := cells_new W2 #[.int .i64 tx] 3
  have HB : Hid (Below w.heap.size w W) := stepB (stepB Hb1.out Hb2.out) Hb3.out
  have Hq : Hid (W.heap[W1.heap.size]? = some (.cells #[.slice none 0 0, .slice none 0 0] 25)) := keepB Hb3.out Hx2.out
  obtain ⟨x0, x1⟩ := row_two (keepB Hb2.out Hx1.out)
  have hI : IsAt W (some ⟨W2.heap.size, 0, none⟩) [tx] 1 := IsAt.of (.inr ⟨_, 0, rfl, fun _ => hs3.out, fun j u hj => by
    rcases j with _ | j
    · simpa [Addr.add] using World.news_of_block Hy.out 0 u hj
    · simp at hj⟩) rfl
  have H1 := Lib.hid (keep_any false a b (some ⟨W2.heap.size, 0, none⟩) n c m d 1 1 xs es [tx] hx hm rfl h1 ⟨hn.1, hn.2, by omega⟩ W (h.below HB.out) (g.below HB.out) hI)
  have eF : es.filter (keeps [tx] false) = es.filter fun e => !(e.tx == tx) := by congr 1; funext e; exact keeps_one tx e
  rw [eF] at H1
  have Hws : Hid (w.heap.size ≤ W.heap.size) := HB.out.size
  have Hw1 : Hid (W1.heap.size < W.heap.size ∧ w.heap.size ≤ W1.heap.size) := ⟨Nat.lt_trans hs2.out hs3.out, Nat.le_of_lt hs1.out⟩
  clear h g hx hm h1 hn Hb1 Hb2 Hb3 Hx1 Hx2 hs1 hs2 hs3 hI eF Hy
  go_enter Tryd.func16, Tryd.ntmps16
  go_wp2_with (first
    | (go_at_call 19; (with_reducible refine H1.out.mono ?_); rintro e w2 ⟨v1, v2, rfl, K2⟩; obtain ⟨a1, c1, rfl, -, -⟩ := row_sl K2.out.1; obtain ⟨a2, c2, rfl, -, -⟩ := row_sl K2.out.2.1
       obtain ⟨F1, F2, hF1, hF2, ⟨⟨f0, e0⟩, ⟨f1, e1⟩⟩, HF, HE2, HC, HO⟩ := box_put2x (w := w) (.slice a1 n c1) (.slice a2 (es.filter fun e => !(e.tx == tx)).length c2) (keepB K2.out.2.2 Hq.out) Hw1.out.2))
  refine bodyPost_ret (results_row1 rfl _ _ W1.heap.size 25 _ (0, 0) _ rfl HF.out Tryd.underlying25 rfl (by kernel_rfl)) rfl ?_
  refine ⟨_, _, rfl, ?_, ?_, (stepB HB.out K2.out.2.2).trans HE2.out⟩
  · exact row_base (HO.out _ _ _ _ _ _ Hw1.out.1 K2.out.1) Hws.out
  · exact row_base (HO.out _ _ _ _ _ _ Hw1.out.1 K2.out.2.1) Hws.out

set_option maxHeartbeats 4000000 in
set_option maxRecDepth 100000 in
theorem obs_equal (a a' : Option Addr) (c c' n m : Nat) (l l' : List (Int × Int)) (hn : l.length = n) (hm : l'.length = m) (hb : n ≤ 100000 ∧ m ≤ 100000) (w : World) (h : ObAt w a l n) (h' : ObAt w a' l' m) :
    Calls Tryd.prog 41 #[.slice a n c, .slice a' m c'] w fun e w' => e = .returned (.bool (decide (l = l'))) ∧ Hid (Below w.heap.size w w') := by
  by_cases hnm : n = m
  rotate_left
  · have HR : decide (l = l') = false := decide_eq_false (by intro e; subst e; omega)
    rw [HR]
    clear HR h h' hn hm
    go_enter Tryd.func41, Tryd.ntmps41
    go_wp2
    go_ret
    exact ⟨rfl, Below.refl _ _⟩
  subst hnm
  obtain ⟨R, hR⟩ : ∃ R, decide (l = l') = R := ⟨_, rfl⟩
  rw [hR]
  have HR := Lib.hid hR
  have H := Lib.hid h
  have H' := Lib.hid h'
  have Hn := Lib.hid hn
  have Hm := Lib.hid hm
  have hT0 : Hid (l.take 0 = l'.take 0) := by show _ = _; simp
  have hb1 := hb.1
  clear h h' hn hm hR hb
  go_enter Tryd.func41, Tryd.ntmps41
  go_wp2_with fail
  go_loopw [13] (fun i wr => ∃ k : Nat, k ≤ n ∧ i = .int .i64 ((k : Nat) : Int) ∧ Hid (l.take k = l'.take k) ∧ Hid (Below w.heap.size w wr)) (fun i _ => n - (intOf i).toNat)
  case atStart => exact ⟨0, Nat.zero_le _, rfl, hT0.out, Below.refl _ _⟩
  case round =>
    clear hT0
    obtain ⟨k, hk, rfl, hT, HB⟩ := hrel
    by_cases hlt : k < n
    · obtain ⟨b1, o1, x, rfl, hx, hc⟩ := H.out k hlt
      obtain ⟨b2, o2, y, rfl, hy, hc'⟩ := H'.out k hlt
      obtain ⟨u0, u1⟩ := hc wr HB.out
      obtain ⟨v0, v1⟩ := hc' wr HB.out
      have hlt2 : (k : Int) < (n : Int) := by omega
      by_cases hq : x.1 = y.1 ∧ x.2 = y.2
      · have HT1 : Hid (l.take (k + 1) = l'.take (k + 1)) := take_next hT.out hx (by rw [hy]; exact congrArg some (Prod.ext hq.1.symm hq.2.symm))
        have q0 := beq_yes hq.1
        have q1 := beq_yes hq.2
        clear hx hy hT hc hc' hq
        go_wp2_with fail
        go_quiet (fail)
        go_wp2_with fail
        go_roundw
        case rel => exact ⟨k + 1, by omega, by go_num, HT1.out, belowN HB.out _⟩
        case measure => simp [intOf]; omega
      · have HF : Hid (R = false) := by show _ = _; rw [← HR.out]; exact decide_eq_false (ne_get hx hy (by rintro rfl; exact hq ⟨rfl, rfl⟩))
        by_cases e0 : x.1 = y.1
        · have e1 : ¬ x.2 = y.2 := fun e => hq ⟨e0, e⟩
          have q0 := beq_yes e0
          have q1 := beq_no e1
          clear hx hy hT hc hc' hq e0 e1
          go_wp2_with fail
          go_quiet (fail)
          go_wp2_with fail
          go_ret
          exact ⟨by rw [HF.out]; rfl, belowN HB.out _⟩
        · have q0 := beq_no e0
          clear hx hy hT hc hc' hq e0
          go_wp2_with fail
          go_quiet (fail)
          go_wp2_with fail
          go_ret
          exact ⟨by rw [HF.out]; rfl, belowN HB.out _⟩
    · have hkn : k = n := by omega
      have HF : Hid (R = true) := by show _ = _; rw [← HR.out]; exact decide_eq_true (whole_eq (hkn ▸ hT.out) Hn.out Hm.out)
      go_wp2_with fail
      go_ret
      exact ⟨by rw [HF.out]; rfl, HB.out⟩
end Go.Proofs.YtfjjhjojcgacbaaDoor

/- Sub, the document's, by contracts. -/
namespace Go.Proofs.YtfjjhjojcgacbaaDoor
open Go.RowKit Go.Maps Go.WideMaps Go.WideElems Go.ChangeShapes Go.WideShapes

/-- One event more of the greater history. -/
def subStep (a : List Ev) (k : Nat) (e : Ev) : Nat := if a[k]? = some e then k + 1 else k
/-- How many events of the one lie, in their order, within the other. -/
def subN (a b : List Ev) : Nat := b.foldl (subStep a) 0
theorem subStep_le {a : List Ev} {k : Nat} (e : Ev) (h : k ≤ a.length) : subStep a k e ≤ a.length := by
  unfold subStep
  split
  · rename_i h1
    exact (List.getElem?_eq_some_iff.1 h1).1
  · exact h
theorem subFold_le {a : List Ev} : ∀ (b : List Ev) (k : Nat), k ≤ a.length → b.foldl (subStep a) k ≤ a.length
  | [], _, h => h
  | e :: b, _, h => subFold_le b _ (subStep_le e h)
theorem subN_le (a b : List Ev) : subN a b ≤ a.length := subFold_le b 0 (Nat.zero_le _)
theorem subFold_stay {a : List Ev} : ∀ (b : List Ev), b.foldl (subStep a) a.length = a.length
  | [] => rfl
  | e :: b => by
    have h : subStep a a.length e = a.length := by unfold subStep; rw [if_neg (by simp)]
    rw [List.foldl_cons, h]
    exact subFold_stay b
theorem subN_next {a b : List Ev} {i : Nat} {y : Ev} (h : b[i]? = some y) : subN a (b.take (i + 1)) = subStep a (subN a (b.take i)) y := by
  unfold subN
  rw [List.take_add_one, h, List.foldl_append]
  rfl
theorem subN_stay {a b : List Ev} {i : Nat} (h : subN a (b.take i) = a.length) : subN a b = a.length := by
  have e : b = b.take i ++ b.drop i := (List.take_append_drop i b).symm
  have h2 : subN a b = (b.drop i).foldl (subStep a) (subN a (b.take i)) := by
    conv => lhs; rw [e]
    unfold subN
    rw [List.foldl_append]
  rw [h2, h]
  exact subFold_stay _

set_option maxHeartbeats 8000000 in
set_option maxRecDepth 100000 in
theorem rsub_any (a a' b b' : Option Addr) (c c' d d' n n' m m' : Nat) (l l' : List (Int × Int)) (es es' : List Ev) (hn : l.length = n) (hn' : l'.length = n') (hm : es.length = m) (hm' : es'.length = m') (hb : n ≤ 100000 ∧ n' ≤ 100000 ∧ m ≤ 100000 ∧ m' ≤ 100000) (w : World) (h : ObAt w a l n) (h' : ObAt w a' l' n') (g : EvsAt w b es m) (g' : EvsAt w b' es' m') :
    Calls Tryd.prog 22 #[hv a n c b m d, hv a' n' c' b' m' d'] w fun e w' => e = .returned (.bool (decide (l = l') && decide (subN es es' = m))) ∧ Hid (Below w.heap.size w w') := by
  obtain ⟨W1, hW1, Hb1, hs1, Hx1⟩ := cells_new w #[.slice a n c, .slice b m d] 25
  obtain ⟨W, hW, Hb2, hs2, Hy⟩ := cells_new W1 #[.slice a' n' c', .slice b' m' d'] 25
  have HB : Hid (Below w.heap.size w W) := stepB Hb1.out Hb2.out
  have HX : Hid (∀ V, Below W.heap.size W V → (V.cell? ⟨w.heap.size, 0, none⟩ = some (.slice a n c) ∧ V.cell? ⟨w.heap.size, 1, none⟩ = some (.slice b m d)) ∧ (V.cell? ⟨W1.heap.size, 0, none⟩ = some (.slice a' n' c') ∧ V.cell? ⟨W1.heap.size, 1, none⟩ = some (.slice b' m' d'))) := fun V hV => ⟨row_two (keepB hV (keepB Hb2.out Hx1.out)), row_two (keepB hV Hy.out)⟩
  obtain ⟨⟨x0, x1⟩, y0, y1⟩ := HX.out W (Below.refl _ _)
  have H1 := Lib.hid (robs_same a a' c c' n n' l l' hn hn' ⟨hb.1, hb.2.1⟩ W (h.below HB.out) (h'.below HB.out))
  have G := Lib.hid (g.below HB.out)
  have G' := Lib.hid (g'.below HB.out)
  have Hm := Lib.hid hm
  have Hm' := Lib.hid hm'
  have hbm := hb.2.2.1
  have hbm' := hb.2.2.2
  have HE := Lib.hid rev_eq
  clear h h' g g' hn hn' hm hm' hb Hb1 Hb2 Hx1 Hy hs1 hs2
  by_cases hll : l = l'
  rotate_left
  · rw [decide_eq_false hll] at H1 ⊢
    clear hll
    go_enter Tryd.func22, Tryd.ntmps22
    go_wp2_with (first | (go_at_call 35; (with_reducible refine H1.out.mono ?_); rintro e w2 ⟨rfl, h2⟩))
    go_ret
    exact ⟨rfl, stepB HB.out h2.out⟩
  rw [decide_eq_true hll] at H1 ⊢
  clear hll
  simp only [Bool.true_and]
  obtain ⟨R, hR⟩ : ∃ R, decide (subN es es' = m) = R := ⟨_, rfl⟩
  rw [hR]
  have HR := Lib.hid hR
  clear hR
  go_enter Tryd.func22, Tryd.ntmps22
  go_wp2_with (first | (go_at_call 35; (with_reducible refine H1.out.mono ?_); rintro e w2 ⟨rfl, h2⟩))
  have H2 : Hid (Below W.heap.size W w2) := h2.out
  have hS0 : Hid (subN es (es'.take 0) = 0) := by show _ = _; simp [subN]
  clear h2 x0 x1 y0 y1 H1
  go_loopw [5, 6] (fun u i wr => ∃ j k : Nat, k ≤ m' ∧ j ≤ m ∧ u = .int .i64 ((j : Nat) : Int) ∧ i = .int .i64 ((k : Nat) : Int) ∧ Hid (subN es (es'.take k) = j) ∧ Hid (Below W.heap.size W wr)) (fun _ i _ => m' - (intOf i).toNat)
  case atStart => exact ⟨0, 0, Nat.zero_le _, Nat.zero_le _, rfl, rfl, hS0.out, H2.out⟩
  case round =>
    clear hS0 H2
    obtain ⟨j, k, hk, hj, rfl, rfl, HS, HB2⟩ := hrel
    obtain ⟨⟨x0, x1⟩, y0, y1⟩ := HX.out wr HB2.out
    by_cases hlt : k < m'
    · have hltI : (k : Int) < (m' : Int) := by omega
      by_cases hjn : j < m
      · have hjI : (j : Int) < (m : Int) := by omega
        obtain ⟨b1, o1, x, rfl, hx, hc⟩ := G.out j hjn
        obtain ⟨b2, o2, y, rfl, hy, hc'⟩ := G'.out k hlt
        have HC : Hid (∀ V, Below wr.heap.size wr V → (V.cell? ⟨w.heap.size, 1, none⟩ = some (.slice (some ⟨b1, o1, none⟩) m d) ∧ V.cell? ⟨W1.heap.size, 1, none⟩ = some (.slice (some ⟨b2, o2, none⟩) m' d')) ∧ (V.cell? ⟨b1, o1 + j * 8, none⟩ = some (.int .i64 x.kind) ∧ V.cell? ⟨b1, o1 + j * 8 + 1, none⟩ = some (.int .i64 x.tx) ∧ V.cell? ⟨b1, o1 + j * 8 + 2, none⟩ = some (.int .i64 x.thread) ∧ V.cell? ⟨b1, o1 + j * 8 + 3, none⟩ = some (.int .i64 x.obj) ∧ V.cell? ⟨b1, o1 + j * 8 + 4, none⟩ = some (.int .i64 x.op) ∧ V.cell? ⟨b1, o1 + j * 8 + 5, none⟩ = some (.int .i64 x.key) ∧ V.cell? ⟨b1, o1 + j * 8 + 6, none⟩ = some (.int .i64 x.val) ∧ V.cell? ⟨b1, o1 + j * 8 + 7, none⟩ = some (.int .i64 x.ret)) ∧ (V.cell? ⟨b2, o2 + k * 8, none⟩ = some (.int .i64 y.kind) ∧ V.cell? ⟨b2, o2 + k * 8 + 1, none⟩ = some (.int .i64 y.tx) ∧ V.cell? ⟨b2, o2 + k * 8 + 2, none⟩ = some (.int .i64 y.thread) ∧ V.cell? ⟨b2, o2 + k * 8 + 3, none⟩ = some (.int .i64 y.obj) ∧ V.cell? ⟨b2, o2 + k * 8 + 4, none⟩ = some (.int .i64 y.op) ∧ V.cell? ⟨b2, o2 + k * 8 + 5, none⟩ = some (.int .i64 y.key) ∧ V.cell? ⟨b2, o2 + k * 8 + 6, none⟩ = some (.int .i64 y.val) ∧ V.cell? ⟨b2, o2 + k * 8 + 7, none⟩ = some (.int .i64 y.ret))) := fun V hV => ⟨⟨(HX.out V (stepB HB2.out hV)).1.2, (HX.out V (stepB HB2.out hV)).2.2⟩, hc V (stepB HB2.out hV), hc' V (stepB HB2.out hV)⟩
        have BD : Hid (Below wr.heap.size wr wr.drew) := stepD (Below.refl _ _)
        have HSE := Lib.hid (fun V => HE.out x.kind x.tx x.thread x.obj x.op x.key x.val x.ret y.kind y.tx y.thread y.obj y.op y.key y.val y.ret V)
        clear hc hc' HE
        by_cases hq : x.kind = y.kind ∧ x.tx = y.tx ∧ x.thread = y.thread ∧ x.obj = y.obj ∧ x.op = y.op ∧ x.key = y.key ∧ x.val = y.val ∧ x.ret = y.ret
        · have HS1 : Hid (subN es (es'.take (k + 1)) = j + 1) := by show _ = _; rw [subN_next hy, HS.out]; unfold subStep; rw [if_pos (by rw [hx]; exact congrArg some (ev_ext hq).symm)]
          simp only [decide_eq_true hq] at HSE
          clear hq hx hy HS x0 x1 y0 y1
          obtain ⟨⟨x0, x1⟩, y0, y1⟩ := HX.out wr HB2.out
          go_wp2_with fail
          clear x0 x1 y0 y1
          go_region_held3 (fun w' => (w'.cell? ⟨w.heap.size, 1, none⟩ = some (.slice (some ⟨b1, o1, none⟩) m d) ∧ w'.cell? ⟨W1.heap.size, 1, none⟩ = some (.slice (some ⟨b2, o2, none⟩) m' d')) ∧ (w'.cell? ⟨b1, o1 + j * 8, none⟩ = some (.int .i64 x.kind) ∧ w'.cell? ⟨b1, o1 + j * 8 + 1, none⟩ = some (.int .i64 x.tx) ∧ w'.cell? ⟨b1, o1 + j * 8 + 2, none⟩ = some (.int .i64 x.thread) ∧ w'.cell? ⟨b1, o1 + j * 8 + 3, none⟩ = some (.int .i64 x.obj) ∧ w'.cell? ⟨b1, o1 + j * 8 + 4, none⟩ = some (.int .i64 x.op) ∧ w'.cell? ⟨b1, o1 + j * 8 + 5, none⟩ = some (.int .i64 x.key) ∧ w'.cell? ⟨b1, o1 + j * 8 + 6, none⟩ = some (.int .i64 x.val) ∧ w'.cell? ⟨b1, o1 + j * 8 + 7, none⟩ = some (.int .i64 x.ret)) ∧ (w'.cell? ⟨b2, o2 + k * 8, none⟩ = some (.int .i64 y.kind) ∧ w'.cell? ⟨b2, o2 + k * 8 + 1, none⟩ = some (.int .i64 y.tx) ∧ w'.cell? ⟨b2, o2 + k * 8 + 2, none⟩ = some (.int .i64 y.thread) ∧ w'.cell? ⟨b2, o2 + k * 8 + 3, none⟩ = some (.int .i64 y.obj) ∧ w'.cell? ⟨b2, o2 + k * 8 + 4, none⟩ = some (.int .i64 y.op) ∧ w'.cell? ⟨b2, o2 + k * 8 + 5, none⟩ = some (.int .i64 y.key) ∧ w'.cell? ⟨b2, o2 + k * 8 + 6, none⟩ = some (.int .i64 y.val) ∧ w'.cell? ⟨b2, o2 + k * 8 + 7, none⟩ = some (.int .i64 y.ret)))
            (first | (with_reducible exact HC.out _ BD.out) | (with_reducible exact HC.out _ (stepB BD.out h8.out)))
            (first | (go_at_call 42; (with_reducible refine (HSE.out _).mono ?_); rintro e w8 ⟨rfl, h8⟩))
          all_goals
            go_wp2_with fail
            go_roundw
            case rel => exact ⟨j + 1, k + 1, by omega, by omega, by go_num, by go_num, HS1.out, stepB HB2.out (stepB BD.out h8.out)⟩
            case measure => simp [intOf]; omega
        · have HS1 : Hid (subN es (es'.take (k + 1)) = j) := by show _ = _; rw [subN_next hy, HS.out]; unfold subStep; rw [if_neg (by rw [hx]; intro e; injection e with e; subst e; exact hq ⟨rfl, rfl, rfl, rfl, rfl, rfl, rfl, rfl⟩)]
          simp only [decide_eq_false hq] at HSE
          clear hq hx hy HS x0 x1 y0 y1
          obtain ⟨⟨x0, x1⟩, y0, y1⟩ := HX.out wr HB2.out
          go_wp2_with fail
          clear x0 x1 y0 y1
          go_region_held3 (fun w' => (w'.cell? ⟨w.heap.size, 1, none⟩ = some (.slice (some ⟨b1, o1, none⟩) m d) ∧ w'.cell? ⟨W1.heap.size, 1, none⟩ = some (.slice (some ⟨b2, o2, none⟩) m' d')) ∧ (w'.cell? ⟨b1, o1 + j * 8, none⟩ = some (.int .i64 x.kind) ∧ w'.cell? ⟨b1, o1 + j * 8 + 1, none⟩ = some (.int .i64 x.tx) ∧ w'.cell? ⟨b1, o1 + j * 8 + 2, none⟩ = some (.int .i64 x.thread) ∧ w'.cell? ⟨b1, o1 + j * 8 + 3, none⟩ = some (.int .i64 x.obj) ∧ w'.cell? ⟨b1, o1 + j * 8 + 4, none⟩ = some (.int .i64 x.op) ∧ w'.cell? ⟨b1, o1 + j * 8 + 5, none⟩ = some (.int .i64 x.key) ∧ w'.cell? ⟨b1, o1 + j * 8 + 6, none⟩ = some (.int .i64 x.val) ∧ w'.cell? ⟨b1, o1 + j * 8 + 7, none⟩ = some (.int .i64 x.ret)) ∧ (w'.cell? ⟨b2, o2 + k * 8, none⟩ = some (.int .i64 y.kind) ∧ w'.cell? ⟨b2, o2 + k * 8 + 1, none⟩ = some (.int .i64 y.tx) ∧ w'.cell? ⟨b2, o2 + k * 8 + 2, none⟩ = some (.int .i64 y.thread) ∧ w'.cell? ⟨b2, o2 + k * 8 + 3, none⟩ = some (.int .i64 y.obj) ∧ w'.cell? ⟨b2, o2 + k * 8 + 4, none⟩ = some (.int .i64 y.op) ∧ w'.cell? ⟨b2, o2 + k * 8 + 5, none⟩ = some (.int .i64 y.key) ∧ w'.cell? ⟨b2, o2 + k * 8 + 6, none⟩ = some (.int .i64 y.val) ∧ w'.cell? ⟨b2, o2 + k * 8 + 7, none⟩ = some (.int .i64 y.ret)))
            (first | (with_reducible exact HC.out _ BD.out) | (with_reducible exact HC.out _ (stepB BD.out h8.out)))
            (first | (go_at_call 42; (with_reducible refine (HSE.out _).mono ?_); rintro e w8 ⟨rfl, h8⟩))
          all_goals
            go_wp2_with fail
            go_roundw
            case rel => exact ⟨j, k + 1, by omega, hj, rfl, by go_num, HS1.out, stepB HB2.out (stepB BD.out h8.out)⟩
            case measure => simp [intOf]; omega
      · have hjm : j = m := by omega
        have HF : Hid (R = true) := by
          show _ = _
          rw [← HR.out]
          exact decide_eq_true (by have := HS.out; have h2 := Hm.out; rw [← h2]; exact subN_stay (by rw [this, hjm, h2]))
        have hjI : ¬ (j : Int) < (m : Int) := by omega
        have hjE : ((j : Int) == (m : Int)) = true := beq_yes (by omega)
        clear hjm
        go_wp2_with fail
        go_ret
        exact ⟨by rw [HF.out]; rfl, stepB HB.out HB2.out⟩
    · have hkm : k = m' := by omega
      have hE : subN es es' = j := by have := HS.out; rwa [hkm, List.take_of_length_le (by have := Hm'.out; omega)] at this
      have HF : Hid (R = decide (j = m)) := by show _ = _; rw [← HR.out, hE]
      have hkI : ¬ (k : Int) < (m' : Int) := by omega
      by_cases hjm : j = m
      · have hjE : ((j : Int) == (m : Int)) = true := beq_yes (by omega)
        rw [decide_eq_true hjm] at HF
        clear hjm hkm hE
        go_wp2_with fail
        go_ret
        exact ⟨by rw [HF.out]; rfl, stepB HB.out HB2.out⟩
      · have hjE : ((j : Int) == (m : Int)) = false := beq_no (by omega)
        rw [decide_eq_false hjm] at HF
        clear hjm hkm hE
        go_wp2_with fail
        go_ret
        exact ⟨by rw [HF.out]; rfl, stepB HB.out HB2.out⟩
end Go.Proofs.YtfjjhjojcgacbaaDoor

/- Sub, the program's, by contracts. -/
namespace Go.Proofs.YtfjjhjojcgacbaaDoor
open Go.RowKit Go.Maps Go.WideMaps Go.WideElems Go.ChangeShapes Go.WideShapes

/-- The events that are left to find: behind a slice's address. -/
structure Rest (es : List Ev) (j m : Nat) (q : Option Addr) (V : World) : Prop where
  at_ : EvsAt V q (es.drop j) (m - j)
theorem Rest.keep {es : List Ev} {j m : Nat} {q : Option Addr} {V U : World} (h : Rest es j m q V) (hb : Below V.heap.size V U) : Rest es j m q U := ⟨h.at_.below hb⟩
theorem Rest.next {es : List Ev} {j m c : Nat} {b o : Nat} {V : World} (h : Rest es j m (some ⟨b, o, none⟩) V) (hc : m - j ≤ c) : Rest es (j + 1) m (if c = 1 then some ⟨b, o, none⟩ else some ⟨b, o + 8, none⟩) V := by
  refine ⟨fun k hk => ?_⟩
  obtain ⟨b', o', e, h1, h2, h3⟩ := h.at_ (k + 1) (by omega)
  injection h1 with h1
  injection h1 with hb ho _
  subst hb ho
  rw [if_neg (by omega)]
  refine ⟨b, o + 8, e, rfl, by rw [List.getElem?_drop] at h2 ⊢; rw [← h2]; congr 1; omega, fun V hV => ?_⟩
  have g := h3 V hV
  rw [show o + 8 + k * 8 = o + (k + 1) * 8 from by omega]
  exact g

set_option maxHeartbeats 8000000 in
set_option maxRecDepth 100000 in
theorem sub_any (a a' b b' : Option Addr) (c c' d d' n n' m m' : Nat) (l l' : List (Int × Int)) (es es' : List Ev) (hn : l.length = n) (hn' : l'.length = n') (hm : es.length = m) (hm' : es'.length = m') (hd : m ≤ d) (hb : n ≤ 100000 ∧ n' ≤ 100000 ∧ m ≤ 100000 ∧ m' ≤ 100000) (w : World) (h : ObAt w a l n) (h' : ObAt w a' l' n') (g : EvsAt w b es m) (g' : EvsAt w b' es' m') :
    Calls Tryd.prog 21 #[hv a n c b m d, hv a' n' c' b' m' d'] w fun e w' => e = .returned (.bool (decide (l = l') && decide (subN es es' = m))) ∧ Hid (Below w.heap.size w w') := by
  obtain ⟨W1, hW1, Hb1, hs1, Hx1⟩ := cells_new w #[.slice a n c, .slice b m d] 25
  obtain ⟨W, hW, Hb2, hs2, Hy⟩ := cells_new W1 #[.slice a' n' c', .slice b' m' d'] 25
  have HB : Hid (Below w.heap.size w W) := stepB Hb1.out Hb2.out
  have HX : Hid (∀ V, Below W.heap.size W V → (V.cell? ⟨w.heap.size, 0, none⟩ = some (.slice a n c) ∧ V.cell? ⟨w.heap.size, 1, none⟩ = some (.slice b m d)) ∧ (V.cell? ⟨W1.heap.size, 0, none⟩ = some (.slice a' n' c') ∧ V.cell? ⟨W1.heap.size, 1, none⟩ = some (.slice b' m' d'))) := fun V hV => ⟨row_two (keepB hV (keepB Hb2.out Hx1.out)), row_two (keepB hV Hy.out)⟩
  obtain ⟨⟨x0, x1⟩, y0, y1⟩ := HX.out W (Below.refl _ _)
  have H1 := Lib.hid (obs_equal a a' c c' n n' l l' hn hn' ⟨hb.1, hb.2.1⟩ W (h.below HB.out) (h'.below HB.out))
  have G := Lib.hid (g.below HB.out)
  have G' := Lib.hid (g'.below HB.out)
  have Hm := Lib.hid hm
  have Hm' := Lib.hid hm'
  have hbm := hb.2.2.1
  have hbm' := hb.2.2.2
  clear h h' g g' hn hn' hm hm' hb Hb1 Hb2 Hx1 Hy hs1 hs2
  by_cases hll : l = l'
  rotate_left
  · rw [decide_eq_false hll] at H1 ⊢
    clear hll
    go_enter Tryd.func21, Tryd.ntmps21
    go_wp2_with (first | (go_at_call 41; (with_reducible refine H1.out.mono ?_); rintro e w2 ⟨rfl, h2⟩))
    go_ret
    exact ⟨rfl, stepB HB.out h2.out⟩
  rw [decide_eq_true hll] at H1 ⊢
  clear hll
  simp only [Bool.true_and]
  obtain ⟨R, hR⟩ : ∃ R, decide (subN es es' = m) = R := ⟨_, rfl⟩
  rw [hR]
  have HR := Lib.hid hR
  clear hR
  go_enter Tryd.func21, Tryd.ntmps21
  go_wp2_with (first | (go_at_call 41; (with_reducible refine H1.out.mono ?_); rintro e w2 ⟨rfl, h2⟩; obtain ⟨⟨r0, r1⟩, s0, s1⟩ := HX.out w2 h2.out))
  have H2 : Hid (Below W.heap.size W w2) := h2.out
  have hS0 : Hid (subN es (es'.take 0) = 0) := by show _ = _; simp [subN]
  have hR0 : Hid (Rest es 0 m b w2) := ⟨by simpa using G.out.below h2.out⟩
  clear h2 x0 x1 y0 y1 H1 r0 r1 s0 s1
  go_loopw [5, 19] (fun u i wr => ∃ (j k : Nat) (q : Option Addr) (cq : Nat), k ≤ m' ∧ j ≤ m ∧ u = .slice q (m - j) cq ∧ i = .int .i64 ((k : Nat) : Int) ∧ m - j ≤ cq ∧ Hid (subN es (es'.take k) = j) ∧ Hid (Rest es j m q wr) ∧ Hid (Below W.heap.size W wr)) (fun _ i _ => m' - (intOf i).toNat)
  case atStart => exact ⟨0, 0, b, d, Nat.zero_le _, Nat.zero_le _, rfl, rfl, hd, hS0.out, hR0.out, H2.out⟩
  case round =>
    clear hS0 H2 hR0
    obtain ⟨j, k, q, cq, hk, hj, rfl, rfl, hcq, HS, HE5, HB2⟩ := hrel
    by_cases hlt : k < m'
    · have hltI : (k : Int) < (m' : Int) := by omega
      obtain ⟨b2, o2, y, rfl, hy, hc'⟩ := G'.out k hlt
      obtain ⟨u0, u1, u2, u3, u4, u5, u6, u7⟩ := hc' wr HB2.out
      obtain ⟨W4, hW4, Hb4, hs4, Hr⟩ := cells_new wr #[.int .i64 y.kind, .int .i64 y.tx, .int .i64 y.thread, .int .i64 y.obj, .int .i64 y.op, .int .i64 y.key, .int .i64 y.val, .int .i64 y.ret] 34
      obtain ⟨r0, r1, r2, r3, r4, r5, r6, r7⟩ := row_eight Hr.out
      clear hc'
      by_cases hjn : j < m
      · have hjI : (0 : Int) < ((m - j : Nat) : Int) := by omega
        have hjI2 : 0 < m - j := by omega
        obtain ⟨b1, o1, x, rfl, hx, hc⟩ := HE5.out.at_ 0 (by omega)
        obtain ⟨v0, v1, v2, v3, v4, v5, v6, v7⟩ := hc W4 Hb4.out
        rw [List.getElem?_drop, Nat.add_zero] at hx
        simp only [Nat.zero_mul, Nat.add_zero] at v0 v1 v2 v3 v4 v5 v6 v7
        clear hc
        by_cases hq : x.kind = y.kind ∧ x.tx = y.tx ∧ x.thread = y.thread ∧ x.obj = y.obj ∧ x.op = y.op ∧ x.key = y.key ∧ x.val = y.val ∧ x.ret = y.ret
        · have HS1 : Hid (subN es (es'.take (k + 1)) = j + 1) := by show _ = _; rw [subN_next hy, HS.out]; unfold subStep; rw [if_pos (by rw [hx]; exact congrArg some (ev_ext hq).symm)]
          obtain ⟨e0, e1, e2, e3, e4, e5, e6, e7⟩ := hq
          have q0 := beq_yes e0; have q1 := beq_yes e1; have q2 := beq_yes e2; have q3 := beq_yes e3; have q4 := beq_yes e4; have q5 := beq_yes e5; have q6 := beq_yes e6; have q7 := beq_yes e7
          clear e0 e1 e2 e3 e4 e5 e6 e7 hx hy HS
          go_wp2_with fail
          go_quiet (fail)
          go_wp2_with fail
          go_roundw
          case rel => exact ⟨j + 1, k + 1, _, _, by omega, by omega, by rw [Nat.sub_sub], by go_num, by omega, HS1.out, (HE5.out.next hcq).keep (belowN Hb4.out _), stepB HB2.out (belowN Hb4.out _)⟩
          case measure => simp [intOf]; omega
        · have HS1 : Hid (subN es (es'.take (k + 1)) = j) := by show _ = _; rw [subN_next hy, HS.out]; unfold subStep; rw [if_neg (by rw [hx]; intro e; injection e with e; subst e; exact hq ⟨rfl, rfl, rfl, rfl, rfl, rfl, rfl, rfl⟩)]
          clear hx hy HS
          by_cases e0 : x.kind = y.kind
          rotate_left
          · have q0 := beq_no e0
            clear hq e0
            go_wp2_with fail
            go_quiet (fail)
            go_wp2_with fail
            go_roundw
            case rel => exact ⟨j, k + 1, _, cq, by omega, hj, rfl, by go_num, hcq, HS1.out, HE5.out.keep (belowN Hb4.out _), stepB HB2.out (belowN Hb4.out _)⟩
            case measure => simp [intOf]; omega
          by_cases e1 : x.tx = y.tx
          rotate_left
          · have q1 := beq_no e1
            have q0 := beq_yes e0
            clear hq e0 e1
            go_wp2_with fail
            go_quiet (fail)
            go_wp2_with fail
            go_roundw
            case rel => exact ⟨j, k + 1, _, cq, by omega, hj, rfl, by go_num, hcq, HS1.out, HE5.out.keep (belowN Hb4.out _), stepB HB2.out (belowN Hb4.out _)⟩
            case measure => simp [intOf]; omega
          by_cases e2 : x.thread = y.thread
          rotate_left
          · have q2 := beq_no e2
            have q0 := beq_yes e0
            have q1 := beq_yes e1
            clear hq e0 e1 e2
            go_wp2_with fail
            go_quiet (fail)
            go_wp2_with fail
            go_roundw
            case rel => exact ⟨j, k + 1, _, cq, by omega, hj, rfl, by go_num, hcq, HS1.out, HE5.out.keep (belowN Hb4.out _), stepB HB2.out (belowN Hb4.out _)⟩
            case measure => simp [intOf]; omega
          by_cases e3 : x.obj = y.obj
          rotate_left
          · have q3 := beq_no e3
            have q0 := beq_yes e0
            have q1 := beq_yes e1
            have q2 := beq_yes e2
            clear hq e0 e1 e2 e3
            go_wp2_with fail
            go_quiet (fail)
            go_wp2_with fail
            go_roundw
            case rel => exact ⟨j, k + 1, _, cq, by omega, hj, rfl, by go_num, hcq, HS1.out, HE5.out.keep (belowN Hb4.out _), stepB HB2.out (belowN Hb4.out _)⟩
            case measure => simp [intOf]; omega
          by_cases e4 : x.op = y.op
          rotate_left
          · have q4 := beq_no e4
            have q0 := beq_yes e0
            have q1 := beq_yes e1
            have q2 := beq_yes e2
            have q3 := beq_yes e3
            clear hq e0 e1 e2 e3 e4
            go_wp2_with fail
            go_quiet (fail)
            go_wp2_with fail
            go_roundw
            case rel => exact ⟨j, k + 1, _, cq, by omega, hj, rfl, by go_num, hcq, HS1.out, HE5.out.keep (belowN Hb4.out _), stepB HB2.out (belowN Hb4.out _)⟩
            case measure => simp [intOf]; omega
          by_cases e5 : x.key = y.key
          rotate_left
          · have q5 := beq_no e5
            have q0 := beq_yes e0
            have q1 := beq_yes e1
            have q2 := beq_yes e2
            have q3 := beq_yes e3
            have q4 := beq_yes e4
            clear hq e0 e1 e2 e3 e4 e5
            go_wp2_with fail
            go_quiet (fail)
            go_wp2_with fail
            go_roundw
            case rel => exact ⟨j, k + 1, _, cq, by omega, hj, rfl, by go_num, hcq, HS1.out, HE5.out.keep (belowN Hb4.out _), stepB HB2.out (belowN Hb4.out _)⟩
            case measure => simp [intOf]; omega
          by_cases e6 : x.val = y.val
          rotate_left
          · have q6 := beq_no e6
            have q0 := beq_yes e0
            have q1 := beq_yes e1
            have q2 := beq_yes e2
            have q3 := beq_yes e3
            have q4 := beq_yes e4
            have q5 := beq_yes e5
            clear hq e0 e1 e2 e3 e4 e5 e6
            go_wp2_with fail
            go_quiet (fail)
            go_wp2_with fail
            go_roundw
            case rel => exact ⟨j, k + 1, _, cq, by omega, hj, rfl, by go_num, hcq, HS1.out, HE5.out.keep (belowN Hb4.out _), stepB HB2.out (belowN Hb4.out _)⟩
            case measure => simp [intOf]; omega
          by_cases e7 : x.ret = y.ret
          rotate_left
          · have q7 := beq_no e7
            have q0 := beq_yes e0
            have q1 := beq_yes e1
            have q2 := beq_yes e2
            have q3 := beq_yes e3
            have q4 := beq_yes e4
            have q5 := beq_yes e5
            have q6 := beq_yes e6
            clear hq e0 e1 e2 e3 e4 e5 e6 e7
            go_wp2_with fail
            go_quiet (fail)
            go_wp2_with fail
            go_roundw
            case rel => exact ⟨j, k + 1, _, cq, by omega, hj, rfl, by go_num, hcq, HS1.out, HE5.out.keep (belowN Hb4.out _), stepB HB2.out (belowN Hb4.out _)⟩
            case measure => simp [intOf]; omega
          exact absurd ⟨e0, e1, e2, e3, e4, e5, e6, e7⟩ hq
      · have e0 : m - j = 0 := by omega
        rw [e0]
        have HS1 : Hid (subN es (es'.take (k + 1)) = j) := by show _ = _; rw [subN_next hy, HS.out]; unfold subStep; rw [if_neg (by rw [List.getElem?_eq_none (by have := Hm.out; omega)]; simp)]
        clear hy HS
        go_wp2_with fail
        go_quiet (fail)
        go_wp2_with fail
        go_roundw
        case rel => exact ⟨j, k + 1, _, cq, by omega, hj, by rw [e0], by go_num, hcq, HS1.out, HE5.out.keep (belowN Hb4.out _), stepB HB2.out (belowN Hb4.out _)⟩
        case measure => simp [intOf]; omega
    · have hkm : k = m' := by omega
      have hE : subN es es' = j := by have := HS.out; rwa [hkm, List.take_of_length_le (by have := Hm'.out; omega)] at this
      have HF : Hid (R = decide (j = m)) := by show _ = _; rw [← HR.out, hE]
      have hkI : ¬ (k : Int) < (m' : Int) := by omega
      by_cases hjm : j = m
      · have hjE : ((((m - j : Nat)) : Int) == 0) = true := beq_yes (by omega)
        rw [decide_eq_true hjm] at HF
        clear hjm hkm hE
        go_wp2_with fail
        go_ret
        exact ⟨by rw [HF.out]; rfl, stepB HB.out HB2.out⟩
      · have hjE : ((((m - j : Nat)) : Int) == 0) = false := beq_no (by omega)
        rw [decide_eq_false hjm] at HF
        clear hjm hkm hE
        go_wp2_with fail
        go_ret
        exact ⟨by rw [HF.out]; rfl, stepB HB.out HB2.out⟩
end Go.Proofs.YtfjjhjojcgacbaaDoor

/- ValidObject of events, by a contract. -/
namespace Go.Proofs.YtfjjhjojcgacbaaDoor
open Go.RowKit Go.Maps Go.WideMaps Go.WideElems Go.ChangeShapes Go.WideShapes

def nearB (n b : Int) : Bool := decide (-b ≤ n ∧ n ≤ b)
variable {T : TypeId} {er : Nat → Addr}

set_option maxRecDepth 100000 in
theorem inside_val (n : Int) (w : World) (hW : BoundsAt w) : Calls Tryd.prog 62 #[.int .i64 6, .int .i64 n] w fun e w' => e = .returned (.bool (nearB n 1000000000)) ∧ w = w' := by
  have c0 : w.cell? ⟨8, 12, none⟩ = some (.int .i64 (-1000000000)) := hW 12 (by decide)
  have c1 : w.cell? ⟨8, 13, none⟩ = some (.int .i64 1000000000) := hW 13 (by decide)
  obtain ⟨R, hR⟩ : ∃ R, R = nearB n 1000000000 := ⟨_, rfl⟩
  rw [← hR]
  have HR := Lib.hid hR
  clear hR hW
  by_cases h1 : -1000000000 ≤ n
  · by_cases h2 : n ≤ 1000000000
    · have HR' : Hid (R = true) := by show _ = _; rw [HR.out]; exact decide_eq_true ⟨h1, h2⟩
      go_enter Tryd.func62, Tryd.ntmps62
      go_wp2
      go_ret
      exact ⟨by rw [HR'.out]; simp, rfl⟩
    · have HR' : Hid (R = false) := by show _ = _; rw [HR.out]; exact decide_eq_false (fun h => h2 h.2)
      go_enter Tryd.func62, Tryd.ntmps62
      go_wp2
      go_ret
      exact ⟨by rw [HR'.out]; simp, rfl⟩
  · have HR' : Hid (R = false) := by show _ = _; rw [HR.out]; exact decide_eq_false (fun h => h1 h.1)
    go_enter Tryd.func62, Tryd.ntmps62
    go_wp2
    go_ret
    exact ⟨by rw [HR'.out]; first | rfl | simp [h1], rfl⟩
theorem begins_any (k : Int) (w : World) : Calls Tryd.prog 63 #[.int .i64 k] w fun e w' => e = .returned (.bool (k == 1 || k == 2)) ∧ w = w' := by
  by_cases h1 : k = 1
  · subst h1
    go_enter Tryd.func63, Tryd.ntmps63
    go_wp2
    go_ret
    exact ⟨rfl, rfl⟩
  by_cases h2 : k = 2
  · subst h2
    go_enter Tryd.func63, Tryd.ntmps63
    go_wp2
    go_ret
    exact ⟨rfl, rfl⟩
  · have e1 : (k == 1) = false := by simpa using h1
    have e2 : (k == 2) = false := by simpa using h2
    go_enter Tryd.func63, Tryd.ntmps63
    go_wp2
    go_ret
    exact ⟨by rw [e1, e2]; rfl, rfl⟩

/-- Whether an object may be. -/
def validO (k i : Int) : Bool := !(wordL 1 k).isEmpty && nearB i 1000000000 && (i == 0 || (k == 1 || k == 2))
/-- What is told of an object. -/
def validOV (T : TypeId) (er : Nat → Addr) (k i : Int) : Value := if validO k i then .nilIface else .iface T (.pointer (some (er 7)))

theorem obox (w : World) (k i : Int) : (w.alloc (.cells #[.int .i64 k, .int .i64 i] 31)).cell? ⟨w.heap.size, 0, none⟩ = some (.int .i64 k) ∧ (w.alloc (.cells #[.int .i64 k, .int .i64 i] 31)).cell? ⟨w.heap.size, 1, none⟩ = some (.int .i64 i) := by
  rw [World.cell?_alloc_new, World.cell?_alloc_new]
  exact ⟨rfl, rfl⟩

set_option maxRecDepth 100000 in
theorem validObject_any (k i : Int) (w : World) (hG : Glob T er w) : Calls Tryd.prog 56 #[.agg #[.int .i64 k, .int .i64 i]] w fun e w' => e = .returned (validOV T er k i) ∧ Hid (Below w.heap.size w w') := by
  obtain ⟨W, hW⟩ : ∃ W, w.alloc (.cells #[.int .i64 k, .int .i64 i] 31) = W := ⟨_, rfl⟩
  have hal : Below w.heap.size w W := by rw [← hW]; exact (Below.refl _ _).alloc (Nat.le_refl _) _
  obtain ⟨c0, c1⟩ := obox w k i
  rw [hW] at c0 c1
  have hGW := hG.below' hal
  have e3 := hGW.eObject
  have Hw := Lib.hid (word_any 1 k W hGW.words)
  have Hi := Lib.hid (inside_val i W hGW.bounds)
  have Hb := Lib.hid (begins_any k W)
  have Hal := Lib.hid hal
  obtain ⟨R, hR⟩ : ∃ R, R = validOV T er k i := ⟨_, rfl⟩
  rw [← hR]
  unfold validOV validO at hR
  generalize wordL 1 k = x at *
  generalize nearB i 1000000000 = nb at *
  obtain ⟨bb, hbb⟩ : ∃ bb, bb = (k == 1 || k == 2) := ⟨_, rfl⟩
  rw [← hbb] at hR Hb
  obtain ⟨iz, hiz⟩ : ∃ iz, (i == 0) = iz := ⟨_, rfl⟩
  rw [hiz] at hR
  obtain ⟨xe, hxe⟩ : ∃ xe, x.isEmpty = xe := ⟨_, rfl⟩
  rw [hxe] at hR
  have hiz' : (i != 0) = !iz := by rw [← hiz]; rfl
  have HR := Lib.hid hR
  clear hal hGW hG hR hbb
  cases xe <;> cases nb <;> cases iz <;> cases bb
  all_goals
    go_enter Tryd.func56, Tryd.ntmps56
    go_wp2_with (first | (go_at_call 61; refine Hw.out.mono ?_; rintro e w' ⟨rfl, rfl⟩) | (go_at_call 62; refine Hi.out.mono ?_; rintro e w' ⟨rfl, rfl⟩) | (go_at_call 63; refine Hb.out.mono ?_; rintro e w' ⟨rfl, rfl⟩))
    go_ret
    exact ⟨by rw [HR.out]; rfl, Hal.out⟩
end Go.Proofs.YtfjjhjojcgacbaaDoor

/- validEvent, by a contract. -/
namespace Go.Proofs.YtfjjhjojcgacbaaDoor
open Go.RowKit Go.Maps Go.WideMaps Go.WideElems Go.ChangeShapes Go.WideShapes
variable {T : TypeId} {er : Nat → Addr}

/-- nil, or an error. -/
def Told (T : TypeId) (ok : Bool) (e : Ending) : Prop := if ok then e = .returned .nilIface else ∃ p, e = .returned (.iface T (.pointer (some p)))
/-- Whether an event fits these objects. -/
def evOk (os : List (Int × Int)) (e : Ev) : Bool := validN e == 0 && (!(e.kind == 2) || (decide (e.obj < os.length) && (ofZ e.op == (os.getD e.obj.toNat (0, 0)).1)))
theorem valid_call {e : Ev} (h : validN e = 0) (hk : e.kind = 2) : 0 ≤ e.obj ∧ e.obj ≤ 7 := by
  have hf : finside 2 e.obj = true := by
    cases hf : finside 2 e.obj with
    | true => rfl
    | false =>
      exfalso
      unfold validN at h
      rw [hk] at h
      have e2 : (partsL 2).foldl (vstep e) (some e) = none := by
        cases h0 : finside 0 e.tx <;> simp [partsL, vstep, whenB, fcell, Ev.at, Ev.put, hf, h0]
      rw [e2] at h
      split at h
      · split at h <;> simp at h
      · simp at h
  unfold finside at hf
  rw [Bool.and_eq_true, decide_eq_true_eq, decide_eq_true_eq] at hf
  exact hf

set_option maxHeartbeats 4000000 in
set_option maxRecDepth 100000 in
theorem validEvent_any (a : Option Addr) (n c : Nat) (os : List (Int × Int)) (e : Ev) (hn : os.length = n) (w : World) (ho : ObAt w a os n) (hG : Glob T er w) :
    Calls Tryd.prog 57 #[.slice a n c, e.agg] w fun en w' => Told T (evOk os e) en ∧ Hid (Below w.heap.size w w') := by
  obtain ⟨W, hW, Hb, hs, Hx⟩ := cells_new w #[.int .i64 e.kind, .int .i64 e.tx, .int .i64 e.thread, .int .i64 e.obj, .int .i64 e.op, .int .i64 e.key, .int .i64 e.val, .int .i64 e.ret] 34
  have HV := Lib.hid (valid_any (T := T) (er := er) e W (hG.below' Hb.out))
  have HG := Lib.hid (hG.below' Hb.out)
  have Ho := Lib.hid (ho.below Hb.out)
  have Hvc := Lib.hid (@valid_call e)
  have HX : Hid (∀ V, Below W.heap.size W V → V.heap[w.heap.size]? = some (.cells #[.int .i64 e.kind, .int .i64 e.tx, .int .i64 e.thread, .int .i64 e.obj, .int .i64 e.op, .int .i64 e.key, .int .i64 e.val, .int .i64 e.ret] 34)) := fun V hV => keepB hV Hx.out
  obtain ⟨R, hR⟩ : ∃ R, evOk os e = R := ⟨_, rfl⟩
  rw [hR]
  unfold evOk at hR
  rw [hn] at hR
  have HR := Lib.hid hR
  have Hn := Lib.hid hn
  obtain ⟨x0, x1, x2, x3, x4, x5, x6, x7⟩ := row_eight Hx.out
  clear hR hn ho hG Hx hs
  generalize validN e = v at HV HR Hvc
  rcases v with _ | v
  rotate_left
  · have HF : Hid (R = false) := by show _ = _; rw [← HR.out]; simp
    have HV2 : Hid (Calls Tryd.prog 59 #[e.agg] W (Makes (.iface T (.pointer (some (er (v + 1))))) W)) := HV.out
    go_enter Tryd.func57, Tryd.ntmps57
    go_wp2_with (first | (go_at_call 59; (with_reducible refine HV2.out.mono ?_); rintro e2 w2 ⟨rfl, h2⟩))
    go_ret
    exact ⟨by rw [HF.out]; exact ⟨_, rfl⟩, stepB Hb.out h2⟩
  have HV2 : Hid (Calls Tryd.prog 59 #[e.agg] W fun e2 w2 => e2 = .returned .nilIface ∧ Hid (Below W.heap.size W w2)) := HV.out
  clear HV
  by_cases hk : e.kind = 2
  rotate_left
  · have hkb := beq_no hk
    have HF : Hid (R = true) := by show _ = _; rw [← HR.out, hkb]; rfl
    clear hk
    go_enter Tryd.func57, Tryd.ntmps57
    go_wp2_with (first | (go_at_call 59; (with_reducible refine HV2.out.mono ?_); rintro e2 w2 ⟨rfl, h2⟩; obtain ⟨y0, y1, y2, y3, y4, y5, y6, y7⟩ := row_eight (HX.out _ h2.out)))
    go_ret
    exact ⟨by rw [HF.out]; rfl, stepB Hb.out h2.out⟩
  have hkb := beq_yes hk
  obtain ⟨h0, h7⟩ := Hvc.out rfl hk
  rw [hkb] at HR
  obtain ⟨q, hq⟩ : ∃ q : Nat, e.obj = q := ⟨e.obj.toNat, by omega⟩
  by_cases hlt : q < n
  rotate_left
  · have hge : ((n : Nat) : Int) ≤ e.obj := by omega
    have HF : Hid (R = false) := by show _ = _; rw [← HR.out]; simp; intro h; omega
    clear hk h0 h7 hq hlt
    go_enter Tryd.func57, Tryd.ntmps57
    go_wp2_with (first | (go_at_call 59; (with_reducible refine HV2.out.mono ?_); rintro e2 w2 ⟨rfl, h2⟩; obtain ⟨y0, y1, y2, y3, y4, y5, y6, y7⟩ := row_eight (HX.out _ h2.out); have g3 := (HG.out.below' h2.out).eObject))
    go_ret
    exact ⟨by rw [HF.out]; exact ⟨_, rfl⟩, stepB Hb.out h2.out⟩
  obtain ⟨b1, o1, o, rfl, hx, hc⟩ := Ho.out q hlt
  have hge : ¬ ((n : Nat) : Int) ≤ (q : Int) := by omega
  have HF : Hid (R = (ofZ e.op == o.1)) := by
    show _ = _
    rw [← HR.out]
    have e1 : os.getD e.obj.toNat (0, 0) = o := by rw [List.getD_eq_getElem?_getD, hq, Int.toNat_natCast, hx]; rfl
    rw [e1]
    simp
    intro _; omega
  have HC := Lib.hid hc
  have HOf := Lib.hid (fun V => of_any e.op V)
  have hltI : (q : Int) < (n : Int) := by omega
  have h0q : (0 : Int) ≤ (q : Int) := by omega
  rw [hq] at HX x3
  have HV3 : Hid (Calls Tryd.prog 59 #[.agg #[.int .i64 e.kind, .int .i64 e.tx, .int .i64 e.thread, .int .i64 (q : Int), .int .i64 e.op, .int .i64 e.key, .int .i64 e.val, .int .i64 e.ret]] W fun e2 w2 => e2 = .returned .nilIface ∧ Hid (Below W.heap.size W w2)) := by rw [← hq]; exact HV2.out
  clear hk h0 h7 hq hx hc HR
  generalize ofZ e.op = z at *
  by_cases hz : z = o.1
  · have hzb := beq_yes hz
    rw [hzb] at HF
    clear hz
    go_enter Tryd.func57, Tryd.ntmps57
    go_wp2_with (first | (go_at_call 59; (with_reducible refine HV3.out.mono ?_); rintro e2 w2 ⟨rfl, h2⟩; obtain ⟨y0, y1, y2, y3, y4, y5, y6, y7⟩ := row_eight (HX.out _ h2.out); have g4 := (HG.out.below' h2.out).eOp))
    have BD : Hid (Below W.heap.size W w2.drew) := stepB h2.out (stepD (Below.refl _ _))
    have HS8 : Hid (∀ V, Below W.heap.size W V → (V.cell? ⟨w.heap.size, 3, none⟩ = some (.int .i64 (q : Int)) ∧ V.cell? ⟨w.heap.size, 4, none⟩ = some (.int .i64 e.op)) ∧ V.cell? ⟨b1, o1 + q * 2, none⟩ = some (.int .i64 o.1)) := fun V hV => ⟨⟨(row_eight (HX.out V hV)).2.2.2.1, (row_eight (HX.out V hV)).2.2.2.2.1⟩, (HC.out V hV).1⟩
    clear y0 y1 y2 y3 y4 y5 y6 y7 x0 x1 x2 x3 x4 x5 x6 x7
    go_region_held3 (fun w' => (w'.cell? ⟨w.heap.size, 3, none⟩ = some (.int .i64 (q : Int)) ∧ w'.cell? ⟨w.heap.size, 4, none⟩ = some (.int .i64 e.op)) ∧ w'.cell? ⟨b1, o1 + q * 2, none⟩ = some (.int .i64 o.1))
      (first | (with_reducible exact HS8.out _ BD.out))
      (first | (go_at_call 64; (with_reducible refine (HOf.out _).mono ?_); rintro e3 w3 ⟨rfl, rfl⟩))
    all_goals
      go_wp2_with fail
      go_ret
      exact ⟨by rw [HF.out]; rfl, stepB Hb.out BD.out⟩
  · have hzb := beq_no hz
    rw [hzb] at HF
    clear hz
    go_enter Tryd.func57, Tryd.ntmps57
    go_wp2_with (first | (go_at_call 59; (with_reducible refine HV3.out.mono ?_); rintro e2 w2 ⟨rfl, h2⟩; obtain ⟨y0, y1, y2, y3, y4, y5, y6, y7⟩ := row_eight (HX.out _ h2.out); have g4 := (HG.out.below' h2.out).eOp))
    have BD : Hid (Below W.heap.size W w2.drew) := stepB h2.out (stepD (Below.refl _ _))
    have HS8 : Hid (∀ V, Below W.heap.size W V → (V.cell? ⟨w.heap.size, 3, none⟩ = some (.int .i64 (q : Int)) ∧ V.cell? ⟨w.heap.size, 4, none⟩ = some (.int .i64 e.op)) ∧ V.cell? ⟨b1, o1 + q * 2, none⟩ = some (.int .i64 o.1)) := fun V hV => ⟨⟨(row_eight (HX.out V hV)).2.2.2.1, (row_eight (HX.out V hV)).2.2.2.2.1⟩, (HC.out V hV).1⟩
    clear y0 y1 y2 y3 y4 y5 y6 y7 x0 x1 x2 x3 x4 x5 x6 x7
    go_region_held3 (fun w' => (w'.cell? ⟨w.heap.size, 3, none⟩ = some (.int .i64 (q : Int)) ∧ w'.cell? ⟨w.heap.size, 4, none⟩ = some (.int .i64 e.op)) ∧ w'.cell? ⟨b1, o1 + q * 2, none⟩ = some (.int .i64 o.1))
      (first | (with_reducible exact HS8.out _ BD.out))
      (first | (go_at_call 64; (with_reducible refine (HOf.out _).mono ?_); rintro e3 w3 ⟨rfl, rfl⟩))
    all_goals
      go_wp2_with fail
      go_ret
      exact ⟨by rw [HF.out]; exact ⟨_, rfl⟩, stepB Hb.out BD.out⟩
end Go.Proofs.YtfjjhjojcgacbaaDoor

/- hist.Valid, by a contract. -/
namespace Go.Proofs.YtfjjhjojcgacbaaDoor
open Go.RowKit Go.Maps Go.WideMaps Go.WideElems Go.ChangeShapes Go.WideShapes
variable {T : TypeId} {er : Nat → Addr}

/-- nil, or an error of some type. -/
def ToldA (ok : Bool) (e : Ending) : Prop := if ok then e = .returned .nilIface else ∃ t p, e = .returned (.iface t (.pointer (some p)))
/-- Whether each part of a history is fit. -/
def hisOk (os : List (Int × Int)) (es : List Ev) : Bool := decide (os.length ≤ 8) && (decide (es.length ≤ 400) && (os.all (fun o => validO o.1 o.2) && es.all (evOk os)))
theorem all_next {α : Type} {p : α → Bool} {l : List α} {k : Nat} {x : α} (h : (l.take k).all p = true) (hx : l[k]? = some x) (hp : p x = true) : (l.take (k + 1)).all p = true := by
  rw [List.take_add_one, hx, List.all_append, h]
  simp [hp]
theorem all_not {α : Type} {p : α → Bool} {l : List α} {k : Nat} {x : α} (hx : l[k]? = some x) (hp : p x = false) : l.all p = false := by
  rw [List.all_eq_false]
  exact ⟨x, List.mem_of_getElem? hx, by simp [hp]⟩

set_option maxHeartbeats 8000000 in
set_option maxRecDepth 100000 in
theorem valid_his (a b : Option Addr) (n c m d : Nat) (os : List (Int × Int)) (es : List Ev) (hn : os.length = n) (hm : es.length = m) (w : World) (ho : ObAt w a os n) (he : EvsAt w b es m) (hG : Glob T er w) :
    Calls Tryd.prog 50 #[hv a n c b m d] w fun e w' => ToldA (hisOk os es) e ∧ Hid (Below w.heap.size w w') := by
  obtain ⟨W, hW, Hb, hs, Hx⟩ := cells_new w #[.slice a n c, .slice b m d] 25
  have HG := Lib.hid (hG.below' Hb.out)
  have Ho := Lib.hid (ho.below Hb.out)
  have He := Lib.hid (he.below Hb.out)
  have HX : Hid (∀ V, Below W.heap.size W V → V.cell? ⟨w.heap.size, 0, none⟩ = some (.slice a n c) ∧ V.cell? ⟨w.heap.size, 1, none⟩ = some (.slice b m d)) := fun V hV => row_two (keepB hV Hx.out)
  obtain ⟨R, hR⟩ : ∃ R, hisOk os es = R := ⟨_, rfl⟩
  rw [hR]
  unfold hisOk at hR
  rw [hn, hm] at hR
  have HR := Lib.hid hR
  have Hn := Lib.hid hn
  have Hm := Lib.hid hm
  obtain ⟨x0, x1⟩ := HX.out W (Below.refl _ _)
  have g2 := HG.out.eMany
  clear hR hn hm ho he hG Hx hs
  by_cases h8 : n ≤ 8
  rotate_left
  · have HF : Hid (R = false) := by show _ = _; rw [← HR.out, decide_eq_false h8]; rfl
    have h8I : (8 : Int) < (n : Int) := by omega
    clear h8
    go_enter Tryd.func50, Tryd.ntmps50
    go_wp2_with fail
    go_ret
    exact ⟨by rw [HF.out]; exact ⟨_, _, rfl⟩, Hb.out⟩
  have h8I : ¬ (8 : Int) < (n : Int) := by omega
  rw [decide_eq_true h8, Bool.true_and] at HR
  by_cases h4 : m ≤ 400
  rotate_left
  · have HF : Hid (R = false) := by show _ = _; rw [← HR.out, decide_eq_false h4]; rfl
    have h4I : (400 : Int) < (m : Int) := by omega
    clear h4 h8
    go_enter Tryd.func50, Tryd.ntmps50
    go_wp2_with fail
    go_ret
    exact ⟨by rw [HF.out]; exact ⟨_, _, rfl⟩, Hb.out⟩
  have h4I : ¬ (400 : Int) < (m : Int) := by omega
  rw [decide_eq_true h4, Bool.true_and] at HR
  have hA0 : Hid ((os.take 0).all (fun o => validO o.1 o.2) = true) := by show _ = _; simp
  go_enter Tryd.func50, Tryd.ntmps50
  go_wp2_with fail
  clear x0 x1 g2
  go_loopw [23] (fun i wr => ∃ k : Nat, k ≤ n ∧ i = .int .i64 ((k : Nat) : Int) ∧ Hid ((os.take k).all (fun o => validO o.1 o.2) = true) ∧ Hid (Below W.heap.size W wr)) (fun i _ => n - (intOf i).toNat)
  case atStart => exact ⟨0, Nat.zero_le _, rfl, hA0.out, Below.refl _ _⟩
  case round =>
    clear hA0
    obtain ⟨k, hk, rfl, HA, HB2⟩ := hrel
    by_cases hlt : k < n
    · obtain ⟨b1, o1, x, rfl, hx, hc⟩ := Ho.out k hlt
      obtain ⟨u0, u1⟩ := hc wr HB2.out
      have hltI : (k : Int) < (n : Int) := by omega
      obtain ⟨W4, hW4, Hb4, hs4, Hr⟩ := cells_new wr #[.int .i64 x.1, .int .i64 x.2] 31
      obtain ⟨r0, r1⟩ := row_two Hr.out
      have B4 : Hid (Below W.heap.size W W4) := stepB HB2.out Hb4.out
      have HV := Lib.hid (validObject_any (T := T) (er := er) x.1 x.2 W4 (HG.out.below' B4.out))
      unfold validOV at HV
      cases hv : validO x.1 x.2 with
      | false =>
        rw [hv] at HV
        have HF : Hid (R = false) := by show _ = _; rw [← HR.out, all_not hx hv]; rfl
        have HV2 : Hid (Calls Tryd.prog 56 #[.agg #[.int .i64 x.1, .int .i64 x.2]] W4 fun e w' => e = .returned (.iface T (.pointer (some (er 7)))) ∧ Hid (Below W4.heap.size W4 w')) := HV.out
        clear hx hc hv HV
        go_wp2_with (first | (go_at_call 56; (with_reducible refine HV2.out.mono ?_); rintro e w8 ⟨rfl, h8⟩))
        go_ret
        exact ⟨by rw [HF.out]; exact ⟨_, _, rfl⟩, stepB Hb.out (stepB B4.out (h8.out.alloc h8.out.size _))⟩
      | true =>
        rw [hv] at HV
        have HV2 : Hid (Calls Tryd.prog 56 #[.agg #[.int .i64 x.1, .int .i64 x.2]] W4 fun e w' => e = .returned .nilIface ∧ Hid (Below W4.heap.size W4 w')) := HV.out
        have HA1 : Hid ((os.take (k + 1)).all (fun o => validO o.1 o.2) = true) := all_next HA.out hx hv
        clear hx hc hv HV
        go_wp2_with (first | (go_at_call 56; (with_reducible refine HV2.out.mono ?_); rintro e w8 ⟨rfl, h8⟩))
        go_roundw
        case rel => exact ⟨k + 1, by omega, by go_num, HA1.out, stepB B4.out h8.out⟩
        case measure => simp [intOf]; omega
    · have hkn : k = n := by omega
      have HO : Hid (os.all (fun o => validO o.1 o.2) = true) := by have := HA.out; rwa [hkn, List.take_of_length_le (by have := Hn.out; omega)] at this
      rw [HO.out, Bool.true_and] at HR
      have hE0 : Hid ((es.take 0).all (evOk os) = true) := by show _ = _; simp
      obtain ⟨x0, x1⟩ := HX.out wr HB2.out
      obtain ⟨wb, hwb⟩ : ∃ wb, wb = wr := ⟨_, rfl⟩
      subst hwb
      clear hkn HA
      go_wp2_with fail
      clear x0 x1
      go_loopw [41] (fun i wr => ∃ k : Nat, k ≤ m ∧ i = .int .i64 ((k : Nat) : Int) ∧ Hid ((es.take k).all (evOk os) = true) ∧ Hid (Below W.heap.size W wr)) (fun i _ => m - (intOf i).toNat)
      case atStart => exact ⟨0, Nat.zero_le _, rfl, hE0.out, HB2.out⟩
      case round =>
        clear hE0
        obtain ⟨k, hk, rfl, HA, HB3⟩ := hrel
        by_cases hlt : k < m
        · obtain ⟨b2, o2, y, rfl, hy, hc⟩ := He.out k hlt
          obtain ⟨u0, u1, u2, u3, u4, u5, u6, u7⟩ := hc wr HB3.out
          have hltI : (k : Int) < (m : Int) := by omega
          obtain ⟨W4, hW4, Hb4, hs4, Hr⟩ := cells_new wr #[.int .i64 y.kind, .int .i64 y.tx, .int .i64 y.thread, .int .i64 y.obj, .int .i64 y.op, .int .i64 y.key, .int .i64 y.val, .int .i64 y.ret] 34
          obtain ⟨r0, r1, r2, r3, r4, r5, r6, r7⟩ := row_eight Hr.out
          have B4 : Hid (Below W.heap.size W W4) := stepB HB3.out Hb4.out
          obtain ⟨x0, x1⟩ := HX.out W4 B4.out
          have HV := Lib.hid (validEvent_any (T := T) (er := er) a n c os y Hn.out W4 (Ho.out.below B4.out) (HG.out.below' B4.out))
          cases hv : evOk os y with
          | false =>
            rw [hv] at HV
            have HF : Hid (R = false) := by show _ = _; rw [← HR.out, all_not hy hv]
            clear hy hc hv
            go_wp2_with (first | (go_at_call 57; (with_reducible refine HV.out.mono ?_); rintro e w8 ⟨⟨p, rfl⟩, h8⟩))
            go_ret
            exact ⟨by rw [HF.out]; exact ⟨_, _, rfl⟩, stepB Hb.out (stepB B4.out (h8.out.alloc h8.out.size _))⟩
          | true =>
            rw [hv] at HV
            have HV2 : Hid (Calls Tryd.prog 57 #[.slice a n c, y.agg] W4 fun e w' => e = .returned .nilIface ∧ Hid (Below W4.heap.size W4 w')) := HV.out
            have HA1 : Hid ((es.take (k + 1)).all (evOk os) = true) := all_next HA.out hy hv
            clear hy hc hv HV
            go_wp2_with (first | (go_at_call 57; (with_reducible refine HV2.out.mono ?_); rintro e w8 ⟨rfl, h8⟩))
            go_roundw
            case rel => exact ⟨k + 1, by omega, by go_num, HA1.out, stepB B4.out h8.out⟩
            case measure => simp [intOf]; omega
        · have hkm : k = m := by omega
          have HF : Hid (R = true) := by show _ = _; rw [← HR.out]; have := HA.out; rwa [hkm, List.take_of_length_le (by have := Hm.out; omega)] at this
          go_wp2_with fail
          go_ret
          exact ⟨by rw [HF.out]; rfl, stepB Hb.out HB3.out⟩
end Go.Proofs.YtfjjhjojcgacbaaDoor
