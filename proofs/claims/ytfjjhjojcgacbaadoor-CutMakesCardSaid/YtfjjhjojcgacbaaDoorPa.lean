/- Only by a closure that notes what it is asked. -/
import Derived.Test.YtfjjhjojcgacbaaDoorM9
import Derived.Deep.Cut
namespace Go.Proofs.YtfjjhjojcgacbaaDoor
open Go.RowKit Go.Maps Go.WideMaps Go.WideElems Go.ChangeShapes Go.WideShapes
variable {T : TypeId} {er : Nat → Addr}

/-- Numbers as cells. -/
def ic (l : List Int) : List Value := l.map (Value.int .i64)
theorem elem3 : (Tryd.prog.info? 3).map (fun i => (i.zero, i.size, i.bytes)) = some (some (.int .i64 0), 1, 8) := by kernel_rfl
/-- What was asked lies in its box. -/
structure AskAt (VB : World) (l : List Int) (av : Value) (V : World) : Prop where
  box : V.heap[VB.heap.size]? = some (.cells #[av] 26)
  row : V.ownsRow VB.heap.size 3 1 av l.length (ic l)
  below : Below VB.heap.size VB V
theorem AskAt.next {VB : World} {l : List Int} {av : Value} {V U : World} (h : AskAt VB l av V) (hb : Below V.heap.size V U) : AskAt VB l av U := ⟨keepB hb h.box, row_kept h.row hb, h.below.trans (hb.mono h.below.size)⟩
/-- Nothing but numbers and lists of numbers was written. -/
structure Kp (B : Nat) (V U : World) : Prop where
  below : Below B V U
  keep : ∀ (k : Nat) (cs : Array Value) (t : TypeId), t ≠ 26 → t ≠ 3 → V.heap[k]? = some (.cells cs t) → U.heap[k]? = some (.cells cs t)
theorem Kp.row {B C : Nat} {V U : World} {e size n : Nat} {v : Value} {xs : List Value} (h : Kp B V U) (hr : V.ownsRow C e size v n xs) (h1 : e ≠ 26) (h2 : e ≠ 3) : U.ownsRow C e size v n xs := row_carry hr (fun k cs => h.keep k cs e h1 h2)
set_option maxHeartbeats 8000000 in
set_option maxRecDepth 100000 in
theorem ask18 (VB : World) (l : List Int) (av : Value) (x : Int) (q9 : Nat) (ta : Option Addr) (tn tc : Nat) (some' : List Int) (hl : l.length ≤ 1000) (V : World) (h : AskAt VB l av V) (hq9 : VB.heap[q9]? = some (.cells #[.slice ta tn tc] 26)) (hi : IsAt VB ta some' tn) (hn : some'.length = tn) (h50 : tn ≤ 100000) :
    Calls Tryd.prog 18 #[.int .i64 x, .pointer (some ⟨VB.heap.size, 0, none⟩), .pointer (some ⟨q9, 0, none⟩)] V fun e w' => e = .returned (.bool (decide (x ∈ some'))) ∧ ∃ av', Hid (AskAt VB (l ++ [x]) av' w' ∧ Kp VB.heap.size V w') := by
  obtain ⟨i0, hi0, hz0, hz1, hz2⟩ := info_parts elem3
  obtain ⟨R, hR⟩ : ∃ R, decide (x ∈ some') = R := ⟨_, rfl⟩
  rw [hR]
  have HR := Lib.hid hR
  have H := Lib.hid hi
  have HA := Lib.hid h
  have Hq := Lib.hid hq9
  have Hn := Lib.hid hn
  have Hl := Lib.hid hl
  have hT0 : Hid (¬ x ∈ some'.take 0) := by show ¬ _; simp
  have a0 : V.cell? ⟨VB.heap.size, 0, none⟩ = some av := row_uno h.box
  have hB : Hid (VB.heap.size ≤ V.heap.size) := h.below.size
  clear h hq9 hi hn hR hl
  go_enter Tryd.func18, Tryd.ntmps18
  go_wp2_with (first
    | (at_builtin; refine wpList_append_own _ rfl _ _ 26 rfl VB.heap.size 3 i0 (.int .i64 0) 1 8 Tryd.underlying26 hi0 hz0 hz1 hz2 rfl (by decide) av _ _ rfl (HA.out.row.alloc _) ⟨V.heap.size, 0, none⟩ 1 1 [.int .i64 x] rfl rfl (one_row (World.alloc_heap_new _ _)) (by intro u hu; simp only [List.mem_cons, List.not_mem_nil, or_false] at hu; rcases hu with rfl; rfl) (by unfold maxLen; have := Hl.out; omega) (by have := Hl.out; omega) (by show _ ≤ _; simp; exact Nat.le_trans hB.out (Nat.le_succ _)) ?_))
  intro v' w9 hown hgrow hnil
  obtain ⟨a9, c9, rfl, -, -⟩ := row_sl hown
  have hb9 : w9.heap[VB.heap.size]? = some (.cells #[av] 26) := keepG hgrow (row_off (HA.out.row.alloc (.cells #[.int .i64 x] 3)) (keepA (.cells #[.int .i64 x] 3) HA.out.box) (by decide)) (keepA (.cells #[.int .i64 x] 3) HA.out.box)
  obtain ⟨U1, hU1, ⟨m0, m1⟩, HUb, HUl⟩ := box_putN (w := VB) (o := 0) (.slice a9 (l.length + 1) c9) hb9 rfl (Nat.le_refl _)
  have HN : Hid (AskAt VB (l ++ [x]) (.slice a9 (l.length + 1) c9) U1) := by
    refine ⟨HUb.out, ?_, ?_⟩
    · rw [List.length_append, ← hU1]
      have e1 : ic (l ++ [x]) = ic l ++ [.int .i64 x] := by simp [ic]
      rw [e1]
      exact row_setOff hown hb9 (by decide) _
    · exact (((HA.out.below.alloc hB.out _).grown hgrow (by simp; exact Nat.le_trans hB.out (Nat.le_succ _)) (fun j e => (HA.out.row.lt j e).1))).trans HUl.out
  have HK : Hid (Kp VB.heap.size V U1) := by
    refine ⟨(((Below.refl _ V).alloc hB.out _).grown hgrow (by simp; exact Nat.le_trans hB.out (Nat.le_succ _)) (fun j e => (HA.out.row.lt j e).1)).trans HUl.out, fun k cs t h26 h3 hk => ?_⟩
    rw [← hU1]
    have hk1 := keepA (.cells #[.int .i64 x] 3) hk
    have hk2 := keepG hgrow (row_off (HA.out.row.alloc (.cells #[.int .i64 x] 3)) hk1 h3) hk1
    exact keepS (ne_of_type hb9 hk2 (fun e => h26 e.symm)) hk2
  have z0 : U1.cell? ⟨q9, 0, none⟩ = some (.slice ta tn tc) := row_uno (keepB HN.out.below Hq.out)
  clear hown hgrow hnil hb9 a0
  go_wp2_with fail
  go_loopw [5] (fun i wr => ∃ k : Nat, k ≤ tn ∧ i = .int .i64 k ∧ Hid (¬ x ∈ some'.take k) ∧ U1 = wr) (fun i _ => tn - (intOf i).toNat)
  case atStart => exact ⟨0, Nat.zero_le _, rfl, hT0.out, rfl⟩
  case round =>
    clear hT0
    obtain ⟨k, hk, rfl, hT, hwr⟩ := hrel
    subst hwr
    by_cases hlt : k < tn
    · obtain ⟨b1, o1, y, rfl, hx, hc⟩ := H.out k hlt
      have u0 := hc _ HN.out.below
      by_cases hq : y = x
      · have HF : Hid (R = true) := by show _ = _; rw [← HR.out]; exact decide_eq_true (hq ▸ List.mem_of_getElem? hx)
        have hqb := beq_yes hq
        clear hq hx hc hT
        go_wp2_with fail
        go_ret
        exact ⟨by rw [HF.out]; rfl, _, HN.out, HK.out⟩
      · have HT1 : Hid (¬ x ∈ some'.take (k + 1)) := not_snoc hT.out hx hq
        have hqb := beq_no hq
        clear hq hx hc hT
        go_wp2_with fail
        go_roundw
        case rel => exact ⟨k + 1, by omega, by go_num, HT1.out, by first | trivial | rfl⟩
        case measure => simp [intOf]; omega
    · have hkn : k = tn := by omega
      have HF : Hid (R = false) := by show _ = _; rw [← HR.out]; exact decide_eq_false (by have := hT.out; rwa [hkn, List.take_of_length_le (by have := Hn.out; omega)] at this)
      go_wp2_with fail
      go_ret
      exact ⟨by rw [HF.out]; rfl, _, HN.out, HK.out⟩

/-- What is being made while is asked. -/
structure On18 (VB : World) (Q Z : Nat) (v1 : Value) (n : Nat) (xs : List Value) (v : Value) (es : List Ev) (l : List Int) (av : Value) (V : World) : Prop where
  ask : AskAt VB l av V
  hq : VB.heap.size ≤ Q ∧ Z ≠ Q
  box : V.heap[Q]? = some (.cells #[v1, v] 25)
  row1 : V.ownsRow VB.heap.size 31 2 v1 n xs
  row : V.ownsRow VB.heap.size 34 8 v es.length (evs es)
  zero : V.heap[Z]? = some (.cells #[.slice none 0 0, .slice none 0 0] 25)
section
variable {VB : World} {Q Z : Nat} {v1 : Value} {n : Nat} {xs : List Value} {v : Value} {es : List Ev} {l : List Int} {av : Value} {V U : World}
theorem On18.next (h : On18 VB Q Z v1 n xs v es l av V) (hb : Below V.heap.size V U) : On18 VB Q Z v1 n xs v es l av U := ⟨h.ask.next hb, h.hq, keepB hb h.box, row_kept h.row1 hb, row_kept h.row hb, keepB hb h.zero⟩
theorem On18.kp {l' : List Int} {av' : Value} (h : On18 VB Q Z v1 n xs v es l av V) (ha : AskAt VB l' av' U) (hk : Kp VB.heap.size V U) : On18 VB Q Z v1 n xs v es l' av' U := ⟨ha, h.hq, hk.keep _ _ _ (by decide) (by decide) h.box, hk.row h.row1 (by decide) (by decide), hk.row h.row (by decide) (by decide), hk.keep _ _ _ (by decide) (by decide) h.zero⟩
theorem On18.put {e : Ev} {v' : Value} (h : On18 VB Q Z v1 n xs v es l av V) (hg : V.grownBy U v.ownBlock) (hr : U.ownsRow VB.heap.size 34 8 v' (es.length + 1) (evs es ++ e.row)) :
    ∃ U1, U.setCell ⟨Q, 1, none⟩ v' = U1 ∧ (U.cell? ⟨Q, 1, none⟩ = some v ∧ U.frozen? ⟨Q, 1, none⟩ = false) ∧ Hid (On18 VB Q Z v1 n xs v' (es ++ [e]) l av U1) := by
  have hb : U.heap[Q]? = some (.cells #[v1, v] 25) := keepG hg (row_off h.row h.box (by decide)) h.box
  have hz : U.heap[Z]? = some (.cells #[.slice none 0 0, .slice none 0 0] 25) := keepG hg (row_off h.row h.zero (by decide)) h.zero
  have hx : U.heap[VB.heap.size]? = some (.cells #[av] 26) := keepG hg (row_off h.row h.ask.box (by decide)) h.ask.box
  refine ⟨_, rfl, ⟨(cell_of_row _ _ 1 _ _ _ hb).trans rfl, frozen_of_row _ Q 1 _ 25 hb⟩, ⟨?_, ?_, ?_⟩, h.hq, heap_setCell_same U Q 1 _ 25 v' hb, ?_, ?_, ?_⟩
  · exact keepS (ne_of_type hb hx (by decide)) hx
  · exact row_setOff (row_other h.ask.row h.row (by decide) hg) hb (by decide) _
  · exact (h.ask.below.grown hg h.ask.below.size (fun k e => (h.row.lt k e).1)).setCell (p := ⟨Q, 1, none⟩) h.hq.1 _
  · exact row_setOff (row_other h.row1 h.row (by decide) hg) hb (by decide) _
  · rw [evs_snoc, List.length_append]
    exact row_setOff hr hb (by decide) _
  · exact keepS (fun e => h.hq.2 e.symm) hz
end
def txsOf (es : List Ev) : List Int := es.map (·.tx)
set_option maxHeartbeats 8000000 in
set_option maxRecDepth 100000 in
theorem only_18 (VB : World) (q9 : Nat) (ta : Option Addr) (tn tc : Nat) (some' : List Int) (hq9 : VB.heap[q9]? = some (.cells #[.slice ta tn tc] 26)) (hi : IsAt VB ta some' tn) (hts : some'.length = tn) (h50 : tn ≤ 100000)
    (a b : Option Addr) (n c m d : Nat) (xs : List Value) (es : List Ev) (hx : xs.length = n * 2) (hm : es.length = m) (h1 : ∀ u ∈ xs, u.oneCell' = true) (hn : n ≤ 1000 ∧ m ≤ 1000) (h : SlAt VB a xs) (g : EvsAt VB b es m) (w : World) (ha : AskAt VB [] (.slice none 0 0) w) :
    Calls Tryd.prog 17 #[hv a n c b m d, .func (.func 18) #[] #[.pointer (some ⟨VB.heap.size, 0, none⟩), .pointer (some ⟨q9, 0, none⟩)]] w fun e w' => ∃ v1 v2 av, e = .returned (.agg #[v1, v2]) ∧ Hid ((w'.ownsRow VB.heap.size 31 2 v1 n xs ∧ w'.ownsRow VB.heap.size 34 8 v2 (es.filter fun e => decide (e.tx ∈ some')).length (evs (es.filter fun e => decide (e.tx ∈ some')))) ∧ AskAt VB (txsOf es) av w') := by
  obtain ⟨i0, hi0, hz0, hz1, hz2⟩ := info_parts elem34
  obtain ⟨W1, hW1, Hb1, hs1, Hx1⟩ := cells_new w #[.slice a n c, .slice b m d] 25
  obtain ⟨W, hW, Hb2, hs2, Hy⟩ := cells_new W1 #[.slice none 0 0, .slice none 0 0] 25
  have HB : Hid (Below w.heap.size w W) := stepB Hb1.out Hb2.out
  have HX : Hid (∀ V, Below W.heap.size W V → V.cell? ⟨w.heap.size, 0, none⟩ = some (.slice a n c) ∧ V.cell? ⟨w.heap.size, 1, none⟩ = some (.slice b m d)) := fun V hV => row_two (keepB hV (keepB Hb2.out Hx1.out))
  have HAW := Lib.hid (ha.next HB.out)
  have hBW : Below VB.heap.size VB W := HAW.out.below
  have H1 := Lib.hid (clone_obs a n c xs hx h1 (by omega) W (h.below hBW))
  have Hg := Lib.hid g
  have HK' := Lib.hid (fun (l : List Int) (av : Value) (x : Int) (hl : l.length ≤ 1000) (V : World) (hV : AskAt VB l av V) => ask18 VB l av x q9 ta tn tc some' hl V hV hq9 hi hts h50)
  have Hm := Lib.hid hm
  have Hmm : Hid (m ≤ 1000) := hn.2
  have hmm : (m : Int) ≤ 1000 := by omega
  have Hw1 : Hid (W1.heap.size < W.heap.size ∧ VB.heap.size ≤ W1.heap.size) := ⟨hs2.out, Nat.le_trans ha.below.size (Nat.le_of_lt hs1.out)⟩
  clear h g hx hm h1 hn Hb1 Hb2 Hx1 hs1 hs2 hq9 hi hts ha hBW
  obtain ⟨x0, x1⟩ := HX.out W (Below.refl _ _)
  go_enter Tryd.func17, Tryd.ntmps17
  go_wp2_with (first
    | (go_at_call 39; (with_reducible refine H1.out.mono ?_); rintro e w2 ⟨v1, rfl, K2⟩; obtain ⟨a1, c1, rfl, -, -⟩ := row_sl K2.out.1
       obtain ⟨W3, hW3, Hb3, hs3, Hq⟩ := cells_new w2 #[.slice none 0 0, .slice none 0 0] 25
       obtain ⟨G1, G2, hG1, hG2, ⟨⟨g0, l0⟩, ⟨g1, l1⟩⟩, HG, HL, HCg, HOg⟩ := box_put2x (w := w2) (.slice a1 n c1) (.slice none 0 0) Hq.out (Nat.le_refl _)
       obtain ⟨y0, y1⟩ := HX.out G2 (stepB K2.out.2 (Hb3.out.trans HL.out))))
  have hBG : Below W.heap.size W G2 := stepB K2.out.2 (Hb3.out.trans HL.out)
  have HD : Hid (On18 VB w2.heap.size W1.heap.size (.slice a1 n c1) n xs (.slice none 0 0) ((es.take 0).filter fun e => decide (e.tx ∈ some')) (txsOf (es.take 0)) (.slice none 0 0) G2) := ⟨HAW.out.next hBG, ⟨Nat.le_trans HAW.out.below.size K2.out.2.size, Nat.ne_of_lt (Nat.lt_of_lt_of_le Hw1.out.1 K2.out.2.size)⟩, HG.out, row_base (row_kept K2.out.1 (Hb3.out.trans HL.out)) HAW.out.below.size, by simpa [evs] using World.ownsRow_nil _ _ _ _, keepB hBG Hy.out⟩
  obtain ⟨Q, hQ⟩ : ∃ Q, w2.heap.size = Q := ⟨_, rfl⟩
  obtain ⟨Z, hZ⟩ : ∃ Z, W1.heap.size = Z := ⟨_, rfl⟩
  have HZB : Hid (VB.heap.size ≤ Z) := by show _ ≤ _; rw [← hZ]; exact Hw1.out.2
  rw [hQ, hZ] at HD
  rw [hQ, hZ]
  clear hQ hZ hG1 hG2 g0 l0 g1 l1 HG HL HCg HOg hW3 Hb3 hs3 Hq y0 y1 x0 x1 K2 H1 hBG HX HB hW1 hW Hy HAW Hw1
  go_wp2_with fail
  go_loopw [15] (fun i wr => ∃ k v av, k ≤ m ∧ i = .int .i64 ((k : Nat) : Int) ∧ Hid (On18 VB Q Z (.slice a1 n c1) n xs v ((es.take k).filter fun e => decide (e.tx ∈ some')) (txsOf (es.take k)) av wr)) (fun i _ => m - (intOf i).toNat)
  case atStart => exact ⟨0, _, _, Nat.zero_le _, rfl, HD.out⟩
  case round =>
    clear HD
    obtain ⟨k, v, av, hk, rfl, HD⟩ := hrel
    have z0 := (row_two HD.out.box)
    obtain ⟨z0, z1⟩ := z0
    by_cases hlt : k < m
    · obtain ⟨b1, o1, x, rfl, hx, hc⟩ := Hg.out k hlt
      obtain ⟨u0, u1, u2, u3, u4, u5, u6, u7⟩ := hc wr HD.out.ask.below
      have hlt2 : (k : Int) < (m : Int) := by omega
      obtain ⟨W4, hW4, Hb4, hs4, Hr⟩ := cells_new wr #[.int .i64 x.kind, .int .i64 x.tx, .int .i64 x.thread, .int .i64 x.obj, .int .i64 x.op, .int .i64 x.key, .int .i64 x.val, .int .i64 x.ret] 34
      obtain ⟨r0, r1, r2, r3, r4, r5, r6, r7⟩ := row_eight Hr.out
      have HD4 := Lib.hid (HD.out.next Hb4.out)
      have hll : (txsOf (es.take k)).length ≤ 1000 := by unfold txsOf; rw [List.length_map, List.length_take]; have := Hmm.out; omega
      have HS := Lib.hid (HK'.out _ av x.tx hll W4 HD4.out.ask)
      have Hf := Lib.hid (filter_next (fun e : Ev => decide (e.tx ∈ some')) hx)
      have HC := Lib.hid hc
      have HTx : Hid (txsOf (es.take (k + 1)) = txsOf (es.take k) ++ [x.tx]) := by show _ = _; unfold txsOf; rw [List.take_add_one, hx]; simp
      have HP := Lib.hid (show ∀ R, decide (x.tx ∈ some') = R → (es.take (k + 1)).filter (fun e => decide (e.tx ∈ some')) = (es.take k).filter (fun e => decide (e.tx ∈ some')) ++ (if R then [x] else []) from fun R e => by rw [Hf.out, e])
      have hlen : Hid (((es.take k).filter fun e => decide (e.tx ∈ some')).length ≤ 1000) := by
        have h1 := List.length_filter_le (fun e : Ev => decide (e.tx ∈ some')) (es.take k)
        have h2 := List.length_take_le k es
        show _ ≤ _
        have := Hmm.out
        omega
      generalize (es.take k).filter (fun e => decide (e.tx ∈ some')) = fs at HD HD4 HP hlen
      generalize txsOf (es.take k) = ls at HD HD4 HTx HS
      generalize decide (x.tx ∈ some') = R at HS HP
      clear Hf hc hx hll
      cases R
      · have HE : Hid ((es.take (k + 1)).filter (fun e => decide (e.tx ∈ some')) = fs) := by show _ = _; rw [HP.out _ rfl]; simp
        clear HP
        go_wp2_with (first | (go_at_call 18; (with_reducible refine HS.out.mono ?_); rintro e w8 ⟨rfl, av', h8⟩
                              have HD8 := Lib.hid (HD4.out.kp h8.out.1 h8.out.2)))
        go_roundw
        case rel => exact ⟨k + 1, v, av', by omega, by go_num, by show On18 _ _ _ _ _ _ _ _ _ _ _; rw [HE.out, HTx.out]; exact HD8.out⟩
        case measure => simp [intOf]; omega
      · have HE : Hid ((es.take (k + 1)).filter (fun e => decide (e.tx ∈ some')) = fs ++ [x]) := by show _ = _; rw [HP.out _ rfl]; simp
        clear HP
        go_wp2_with (first
          | (go_at_call 18; (with_reducible refine HS.out.mono ?_); rintro e w8 ⟨rfl, av', h8⟩
             have HD8 := Lib.hid (HD4.out.kp h8.out.1 h8.out.2)
             obtain ⟨s0, s1⟩ := row_two HD8.out.box
             obtain ⟨t0, t1, t2, t3, t4, t5, t6, t7⟩ := row_eight (h8.out.2.keep _ _ _ (by decide) (by decide) Hr.out))
          | (at_builtin; refine wpList_append_own _ rfl _ _ 23 rfl VB.heap.size 34 i0 Ev.zero.agg 8 64 Tryd.underlying23 hi0 hz0 hz1 hz2 rfl (by decide) v _ _ rfl (HD8.out.row.alloc _) ⟨w8.heap.size, 0, none⟩ 1 1 [.int .i64 x.kind, .int .i64 x.tx, .int .i64 x.thread, .int .i64 x.obj, .int .i64 x.op, .int .i64 x.key, .int .i64 x.val, .int .i64 x.ret] rfl rfl (eight_news _ _ _ _ _ _ _ _ _ _) (by intro u hu; simp only [List.mem_cons, List.not_mem_nil, or_false] at hu; rcases hu with rfl | rfl | rfl | rfl | rfl | rfl | rfl | rfl <;> rfl) (by unfold maxLen; have := hlen.out; omega) (by have := hlen.out; omega) (by show _ ≤ _; simp; exact Nat.le_trans HD8.out.ask.below.size (Nat.le_succ _)) ?_))
        intro v' w9 hown9 hgrow9 hnil9
        obtain ⟨a9, c9, rfl, -, -⟩ := row_sl hown9
        obtain ⟨U1, hU1, ⟨m0, m1⟩, HU⟩ := (HD8.out.next ((Below.refl _ _).alloc (Nat.le_refl _) (.cells #[.int .i64 x.kind, .int .i64 x.tx, .int .i64 x.thread, .int .i64 x.obj, .int .i64 x.op, .int .i64 x.key, .int .i64 x.val, .int .i64 x.ret] 34))).put (e := x) hgrow9 hown9
        clear hown9 hgrow9 hnil9
        go_wp2_with fail
        go_roundw
        case rel => exact ⟨k + 1, _, av', by omega, by go_num, by show On18 _ _ _ _ _ _ _ _ _ _ _; rw [HE.out, HTx.out]; exact HU.out⟩
        case measure => simp [intOf]; omega
    · have hkm : k = m := by omega
      have HE : Hid ((es.take k).filter (fun e => decide (e.tx ∈ some')) = es.filter fun e => decide (e.tx ∈ some')) := by show _ = _; rw [hkm, List.take_of_length_le (by have := Hm.out; omega)]
      have HE2 : Hid (txsOf (es.take k) = txsOf es) := by show _ = _; rw [hkm, List.take_of_length_le (by have := Hm.out; omega)]
      rw [HE.out, HE2.out] at HD
      obtain ⟨a2, c2, rfl, -, -⟩ := row_sl HD.out.row
      obtain ⟨F1, F2, hF1, hF2, ⟨⟨f0, e0⟩, ⟨f1, e1⟩⟩, HF, HE3, HC, HO⟩ := box_put2x (w := VB) (.slice a1 n c1) (.slice a2 (es.filter fun e => decide (e.tx ∈ some')).length c2) HD.out.zero HZB.out
      clear HE HE2
      go_wp2_with fail
      refine bodyPost_ret (results_row1 rfl _ _ Z 25 _ (0, 0) _ rfl HF.out Tryd.underlying25 rfl (by kernel_rfl)) rfl ?_
      have hA := HD.out.ask
      have hz := HD.out.zero
      have hz2 : F1.heap[Z]? = some (.cells #[.slice a1 n c1, .slice none 0 0] 25) := by rw [← hF1]; exact heap_setCell_same wr Z 0 _ 25 _ hz
      have hne : Z ≠ VB.heap.size := ne_of_type hz hA.box (by decide)
      refine ⟨_, _, av, rfl, ⟨?_, ?_⟩, ⟨?_, ?_, ?_⟩⟩
      · rw [← hF2, ← hF1]; exact row_setOff (row_setOff HD.out.row1 hz (by decide) _) (by rw [hF1]; exact hz2) (by decide) _
      · rw [← hF2, ← hF1]; exact row_setOff (row_setOff HD.out.row hz (by decide) _) (by rw [hF1]; exact hz2) (by decide) _
      · rw [← hF2, ← hF1]; exact keepS hne (keepS hne hA.box)
      · rw [← hF2, ← hF1]; exact row_setOff (row_setOff hA.row hz (by decide) _) (by rw [hF1]; exact hz2) (by decide) _
      · exact hA.below.trans HE3.out
end Go.Proofs.YtfjjhjojcgacbaaDoor
