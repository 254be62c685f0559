/- Helpers, joined: Kb, Sh, Kf, Kg, Kh. -/
import Derived.Test.YthgkloapnihpaaaGreatM7
import Derived.Shelf.SlLaysF
import Derived.Test.YthgkloapnihpaaaGreatProg
import Derived.Shelf.SlSortCmp.NoneTotal
import Derived.Sort.Grow

/- Graphs: the order in which a walk in depth leaves nodes (left), by a contract. -/
namespace Go.Proofs.YthgkloapnihpaaaGreat
open Go.RowKit Go.Maps Go.WideMaps Go.WideElems Go.ChangeShapes Go.WideShapes

/-- How much lies on a stack, as memory has it. -/
def todoSum (W : World) (g : Nat) : Nat → Nat
  | 0 => 0
  | i + 1 => todoSum W g i + (lenOf ((W.cell? ⟨g, i * 2 + 1, none⟩).getD undef) + 1)
def stkSum (W : World) (v : Value) : Nat := match v with
  | .slice (some a) n _ => todoSum W a.block n
  | _ => 0
def visSum : List Vis → Nat
  | [] => 0
  | x :: ss => visSum ss + (x.2.2.length + 1)
theorem todoSum_is {W : World} {g B : Nat} : ∀ {ss : List Vis}, (∀ (j : Nat) (u : Value), (cellsS ss)[j]? = some u → W.cell? ⟨g, j, none⟩ = some u) → (∀ x ∈ ss, IntsO W B x.2.1 x.2.2) → todoSum W g ss.length = visSum ss
  | [], _, _ => rfl
  | x :: ss, h, h2 => by
    rw [cellsS_cons] at h
    have hl := cellsS_len ss
    have ih := todoSum_is (W := W) (g := g) (B := B) (ss := ss) (fun j u hj => h j u (by
      rw [List.getElem?_append_left (List.getElem?_eq_some_iff.1 hj).1]
      exact hj)) (fun y hy => h2 y (List.mem_cons_of_mem _ hy))
    have h3 := h (ss.length * 2 + 1) x.2.1 (by
      rw [List.getElem?_append_right (by omega), hl, Nat.add_sub_cancel_left]
      rfl)
    obtain ⟨p, c, e, -⟩ := (h2 x (List.mem_cons_self ..)).form
    show todoSum W g ss.length + (lenOf ((W.cell? ⟨g, ss.length * 2 + 1, none⟩).getD undef) + 1) = visSum ss + (x.2.2.length + 1)
    rw [ih, h3, e]
    rfl
theorem stkSum_is {W : World} {B : Nat} {v : Value} {ss : List Vis} (h : StkAt B v ss W) : stkSum W v = visSum ss := by
  rcases h.row.2 with ⟨rfl, h0⟩ | ⟨g, cap, cur, e, hb, hg, hn, hm, hs, ht⟩
  · have hz : ss = [] := List.eq_nil_of_length_eq_zero h0
    subst hz
    rfl
  · subst e
    refine todoSum_is (fun j u hj => ?_) h.todo
    have h1 := h.row.cells (g := g) rfl j u hj
    rwa [Addr.add_lit, Nat.zero_add] at h1
theorem StkAt.top {W : World} {B : Nat} {v : Value} {x : Vis} {ss : List Vis} (h : StkAt B v (x :: ss) W) : ∃ g c, v = .slice (some ⟨g, 0, none⟩) (ss.length + 1) c ∧ ss.length + 1 ≤ c ∧ B ≤ g ∧ g < W.heap.size ∧ W.cell? ⟨g, ss.length * 2, none⟩ = some (iv x.1) ∧ W.cell? ⟨g, ss.length * 2 + 1, none⟩ = some x.2.1 := by
  have hl := cellsS_len ss
  rcases h.row.2 with ⟨e, h0⟩ | ⟨g, cap, cur, e, hb, hg, hn, hm, hs, ht⟩
  · simp at h0
  · subst e
    have hc := h.row.cells (g := g) rfl
    rw [cellsS_cons] at hc
    have h0 := hc (ss.length * 2) (iv x.1) (by rw [List.getElem?_append_right (by omega), hl, Nat.sub_self]; rfl)
    have h1 := hc (ss.length * 2 + 1) x.2.1 (by rw [List.getElem?_append_right (by omega), hl, Nat.add_sub_cancel_left]; rfl)
    rw [Addr.add_lit, Nat.zero_add] at h0 h1
    exact ⟨g, cap, rfl, hn, hb, (Array.getElem?_eq_some_iff.1 hg).1, h0, h1⟩
theorem StkAt.thaw {W : World} {B g n c : Nat} {ss : List Vis} (h : StkAt B (.slice (some ⟨g, 0, none⟩) n c) ss W) (j : Nat) : W.frozen? ⟨g, j, none⟩ = false := by
  rcases h.row.2 with ⟨e, h0⟩ | ⟨g', cap, cur, e, hb, hg, _⟩
  · cases e
  · cases e
    simp [World.frozen?, hg]
theorem StkAt.pop {W : World} {B g c : Nat} {x : Vis} {ss : List Vis} (h : StkAt B (.slice (some ⟨g, 0, none⟩) (ss.length + 1) c) (x :: ss) W) : StkAt B (.slice (some ⟨g, 0, none⟩) ss.length c) ss W := by
  refine ⟨?_, fun y hy => h.todo y (List.mem_cons_of_mem _ hy)⟩
  have h1 := h.row
  rw [cellsS_cons, List.length_cons] at h1
  exact row_pop (cellsS_len ss) h1
/-- The list of the top is another one now. -/
theorem StkAt.set {W : World} {B g c : Nat} {x : Int} {vt vt' : Value} {t t' : List Int} {ss : List Vis} (h : StkAt B (.slice (some ⟨g, 0, none⟩) (ss.length + 1) c) ((x, vt, t) :: ss) W) (ht' : IntsO W B vt' t') :
    StkAt B (.slice (some ⟨g, 0, none⟩) (ss.length + 1) c) ((x, vt', t') :: ss) (W.setCell ⟨g, ss.length * 2 + 1, none⟩ vt') ∧ W.grownBy (W.setCell ⟨g, ss.length * 2 + 1, none⟩ vt') (some g) := by
  have hg2 : W.grownBy (W.setCell ⟨g, ss.length * 2 + 1, none⟩ vt') (some g) := ⟨rfl, rfl, rfl, by simp [World.setCell], fun k _ hk => Below.heap_setCell _ _ _ _ (fun e => hk (by rw [e]))⟩
  have hap : ∀ {v2 : Value} {zs : List Int}, IntsO W B v2 zs → IntsO (W.setCell ⟨g, ss.length * 2 + 1, none⟩ vt') B v2 zs := fun h2 => h2.kept hg2 (.inr (h.apart h2 g rfl))
  refine ⟨⟨?_, fun y hy => ?_⟩, hg2⟩
  · have hr := h.row
    rcases hr.2 with ⟨e1, _⟩ | ⟨g', cap, cur, e1, hb, hg, hn, hm, hs, ht⟩
    · cases e1
    · cases e1
      have hl := cellsS_len ss
      refine ⟨by rw [cellsS_len], .inr ⟨g, c, _, rfl, hb, heap_setCell_same W g _ cur 107 vt' hg, hn, hm, by simpa using hs, ?_⟩⟩
      simp only [List.length_cons] at ht ⊢
      rw [Array.toList_setIfInBounds, List.take_set, ht, cellsS_cons, cellsS_cons, List.set_append_right _ _ (by omega), hl, Nat.add_sub_cancel_left]
      rfl
  · rcases List.mem_cons.1 hy with rfl | hy
    · exact hap ht'
    · exact hap (h.todo y (List.mem_cons_of_mem _ hy))
/-- Where the walk stands. -/
structure LfSt (V : World) (mb : Nat) (R : Int → Int → Prop) (N O S : List Int) (ss : List Vis) (D : DV) (v3 v7 v12 : Value) (W : World) : Prop where
  seen : SeenAt mb S.length S D W
  ord : IntsO W V.heap.size v3 O
  stk : StkAt V.heap.size v7 ss W
  nodes : IntsO W V.heap.size v12 N
  ap1 : ∀ q, v3.ownBlock = some q → v12.ownBlock ≠ some q
  ap2 : ∀ x ∈ ss, ∀ q, v3.ownBlock = some q → x.2.1.ownBlock ≠ some q
  gro : V.grownBy W none
  dfs : DfsOk R O (plainS ss)
  mem : ∀ x, x ∈ S ↔ x ∈ O ∨ x ∈ (plainS ss).map (·.1)
  once : S.Nodup
  sub : ∀ x ∈ S, x ∈ N
theorem LfSt.len {V : World} {mb : Nat} {R : Int → Int → Prop} {N O S : List Int} {ss : List Vis} {D : DV} {v3 v7 v12 : Value} {W : World} (h : LfSt V mb R N O S ss D v3 v7 v12 W) : O.length + ss.length ≤ N.length ∧ S.length ≤ N.length := by
  refine ⟨?_, len_le h.once h.sub⟩
  have h1 := len_le h.dfs.once (m := N) fun x hx => h.sub x ((h.mem x).2 (List.mem_append.1 hx))
  rw [List.length_append, List.length_map] at h1
  unfold plainS at h1
  rw [List.length_map] at h1
  exact h1
theorem lf_measure {n o s y X t : Nat} (h : o + s + 2 ≤ n) (hy : y ≤ n) : (n - (o + (s + 1 + 1))) * (n + 2) + (X + (t + 1) + (y + 1)) < (n - (o + (s + 1))) * (n + 2) + (X + (t + 1 + 1)) := by
  obtain ⟨d, rfl⟩ : ∃ d, n = o + s + 2 + d := ⟨n - (o + s + 2), by omega⟩
  rw [show o + s + 2 + d - (o + (s + 1 + 1)) = d from by omega, show o + s + 2 + d - (o + (s + 1)) = d + 1 from by omega, Nat.add_mul d 1, Nat.one_mul]
  omega
theorem LfSt.kept {V : World} {mb : Nat} {R : Int → Int → Prop} {N O S : List Int} {ss : List Vis} {D : DV} {v3 v7 v12 : Value} {W W' : World} (h : LfSt V mb R N O S ss D v3 v7 v12 W) (hg : W.grownBy W' none) : LfSt V mb R N O S ss D v3 v7 v12 W' :=
  ⟨h.seen.kept hg (by simp), h.ord.kept hg (by cases v3.ownBlock <;> simp), h.stk.kept hg, h.nodes.kept hg (by cases v12.ownBlock <;> simp), h.ap1, h.ap2, h.gro.trans hg, h.dfs, h.mem, h.once, h.sub⟩
theorem off_gro {V W W' : World} {Z : Nat → Prop} (h : V.grownBy W none) (hg : Off Z W W') (hz : ∀ q, Z q → V.heap.size ≤ q) : V.grownBy W' none :=
  ⟨hg.os.trans h.os, hg.tape.trans h.tape, hg.output.trans h.output, Nat.le_trans h.size hg.size, fun k hk _ => (hg.block k (Nat.lt_of_lt_of_le hk h.size) (fun e => by have := hz k e; omega)).trans (h.block k hk (by simp))⟩
/-- One that has not been seen has been gone into. -/
theorem LfSt.entered {V : World} {mb : Nat} {R : Int → Int → Prop} {N O S outs : List Int} {ss : List Vis} {D D' : DV} {v3 v7 v7' v12 vo : Value} {W W' : World} {k : Int} (h : LfSt V mb R N O S ss D v3 v7 v12 W) (hmb : V.heap.size ≤ mb) (hk : k ∉ S) (hkN : k ∈ N)
    (hd : DfsOk R O (plainS ((k, vo, outs) :: ss))) (h1 : SeenAt mb (S.length + 1) (S ++ [k]) D' W') (h2 : StkAt V.heap.size v7' ((k, vo, outs) :: ss) W') (h3 : Off (fun q => q = mb ∨ v7.ownBlock = some q) W W') (h4 : ∀ q, vo.ownBlock = some q → W.heap.size ≤ q) :
    LfSt V mb R N O (S ++ [k]) ((k, vo, outs) :: ss) D' v3 v7' v12 W' := by
  obtain ⟨o, ho, hc⟩ := h.seen.obj
  have hz : ∀ {v : Value} {zs : List Int}, IntsO W V.heap.size v zs → ∀ q, v.ownBlock = some q → ¬ (q = mb ∨ v7.ownBlock = some q) := fun hv q e g => by
    rcases g with rfl | g
    · exact hv.no ho hc e
    · exact h.stk.apart hv q g e
  refine ⟨by rw [List.length_append]; exact h1, h.ord.off h3 (hz h.ord), h2, h.nodes.off h3 (hz h.nodes), h.ap1, fun x hx q e1 e2 => ?_, off_gro h.gro h3 (fun q e => ?_), hd, fun x => ?_, ?_, fun x hx => ?_⟩
  · rcases List.mem_cons.1 hx with rfl | hx
    · have := h4 q e2
      have := (h.ord.lt e1).2
      omega
    · exact h.ap2 x hx q e1 e2
  · rcases e with rfl | e
    · exact hmb
    · exact (h.stk.row.lt q e).1
  · rw [List.mem_append, List.mem_singleton, h.mem x]
    simp only [plainS, List.map_cons, List.mem_cons]
    constructor
    · rintro ((g | g) | g)
      · exact .inl g
      · exact .inr (.inr g)
      · exact .inr (.inl g)
    · rintro (g | g | g)
      · exact .inl (.inl g)
      · exact .inr g
      · exact .inl (.inr g)
  · rw [List.nodup_append]
    exact ⟨h.once, by simp, fun x hx y hy e => by rw [List.mem_singleton] at hy; subst hy e; exact hk hx⟩
  · rcases List.mem_append.1 hx with g | g
    · exact h.sub x g
    · rw [List.mem_singleton] at g; rw [g]; exact hkN
set_option maxHeartbeats 128000000 in
set_option maxRecDepth 100000 in
theorem left_any {Z : Nat → Prop} {B g c : Nat} {N : List Int} {E : List Ed} (hc : c ≤ 100000) (hN : N.length ≤ 500) (w : World) (h : GrAt Z B g c N E w) :
    Calls Tryz.prog 39 #[.pointer (some ⟨g, 0, none⟩)] w fun e w' => ∃ v O, e = .returned v ∧ Hid (IntsO w' w.heap.size v O ∧ DfsOk (EdR E) O [] ∧ (∀ x, x ∈ O ↔ x ∈ N) ∧ Below w.heap.size w w') := by
  have hmm := @run_makeMap Tryz.prog
  have HGr := Lib.hid h
  have Hends : Hid (EndsIn N E) := by obtain ⟨ob, DO, F, DI, f, h, hZ⟩ := h; exact h.ends
  have Hfit : Hid (∀ a ∈ N, fit64 a) := by obtain ⟨ob, DO, F, DI, f, h, hZ⟩ := h; exact fun a ha => h.dom.fit a ha
  have HN := Lib.hid hN
  have Hc := Lib.hid hc
  obtain ⟨W1, hW1⟩ : ∃ W, w.alloc (.map #[] 0) = W := ⟨_, rfl⟩
  have hg1 : w.grownBy W1 none := by rw [← hW1]; exact World.grownBy_alloc w _ none
  have HS1 : Hid (SeenAt w.heap.size 0 [] (.map []) W1) := by rw [← hW1]; exact seen_made w
  have Hg1 := Lib.hid hg1
  have HNod := Lib.hid (nodes_any hc W1 (h.below (grown_of_below hg1)))
  obtain ⟨n, hn⟩ : ∃ n, N.length = n := ⟨_, rfl⟩
  have Hn := Lib.hid hn
  clear h hc hN hg1 hn
  go_enter Tryz.func39, Tryz.ntmps39
  go_wp2_with (first
    | (go_at_call 21; (with_reducible refine HNod.out.mono ?_); rintro e w4 ⟨v12, rfl, K4⟩
       obtain ⟨p12, c12, rfl⟩ := row_sl K4.out.1
       rw [Hn.out])
    | go_in)
  have H0 : Hid (LfSt w w.heap.size (EdR E) N [] [] [] (.map []) (.slice none 0 0) (.slice none 0 0) (.slice p12 n c12) w4) := by
    have h1 := intsO_row K4.out.1
    rw [Hn.out] at h1
    exact ⟨HS1.out.kept (grown_below K4.out.2) (by simp), intsO_nil _ _, stk_nil _ _, h1.low Hg1.out.size, fun q e => by simp [Value.ownBlock] at e, fun x hx => by simp at hx, Hg1.out.trans (grown_below K4.out.2), DfsOk.zero _, by simp [plainS], by simp, by simp⟩
  clear K4 HNod HS1 Hg1
  try go_frame
  go_loopw [3, 14] (fun v3 i wr => ∃ (q : Nat) (O S : List Int) (D : DV), q ≤ n ∧ i = .int .i64 ((q : Nat) : Int) ∧ Hid (LfSt w w.heap.size (EdR E) N O S [] D v3 (.slice none 0 0) (.slice p12 n c12) wr ∧ ∀ j, j < q → N.getD j 0 ∈ S)) (fun _ i _ => n - (intOf i).toNat)
  case atStart => exact ⟨0, [], [], _, Nat.zero_le _, rfl, H0.out, fun j hj => absurd hj (by omega)⟩
  case round =>
    obtain ⟨q, O, S, D, hq, rfl, HR⟩ := hrel
    obtain ⟨wa, hwa⟩ : ∃ wa, wa = wr := ⟨_, rfl⟩
    subst hwa
    by_cases hlt : q < n
    · have hqN : q < N.length := by rw [Hn.out]; exact hlt
      have hsl : SlI wa p12 N := by
        obtain ⟨p, c, e, hs⟩ := HR.out.1.nodes.sl
        simp only [Value.slice.injEq] at e
        rw [e.1]
        exact hs
      obtain ⟨b12, off12, rfl, hc0⟩ := hsl.at hqN
      have haN := getD_in (d := 0) hqN
      obtain ⟨k, hk⟩ : ∃ k, N.getD q 0 = k := ⟨_, rfl⟩
      rw [hk] at hc0 haN
      have Hk := Lib.hid hk
      have HkN := Lib.hid haN
      have hltI : (q : Int) < (n : Int) := by omega
      have hnb : n ≤ 500 := by rw [← Hn.out]; exact HN.out
      have Hlen := Lib.hid HR.out.1.len
      -- a visit of it, or none
      have HEn : Hid (Calls Tryz.prog 56 #[.pointer (some ⟨g, 0, none⟩), .slice none 0 0, .map (some w.heap.size), iv k] wa fun e w' => ∃ v7 S' ss D', e = .returned v7 ∧ Hid (LfSt w w.heap.size (EdR E) N O S' ss D' u3 v7 (.slice (some ⟨b12, off12, none⟩) n c12) w' ∧ ∀ j, j < q + 1 → N.getD j 0 ∈ S')) := by
        by_cases hkS : k ∈ S
        · refine (enter_no (g := g) k (Hfit.out k haN) wa (.slice none 0 0) HR.out.1.seen hkS).mono ?_
          rintro e w' ⟨rfl, hg⟩
          refine ⟨_, S, [], D, rfl, HR.out.1.kept hg, fun j hj => ?_⟩
          by_cases e : j = q
          · subst e; rw [hk]; exact hkS
          · exact HR.out.2 j (by omega)
        · refine (enter_yes k (Hfit.out k haN) Hc.out w wa HGr.out (grown_of_below HR.out.1.gro) (Nat.le_refl _) (.slice none 0 0) [] (stk_nil _ _) (by simp) (by have := Hlen.out.2; have := HN.out; omega) HR.out.1.seen hkS).mono ?_
          rintro e w' ⟨v7, vo, rfl, K⟩
          have hkO : k ∉ O := fun g => hkS ((HR.out.1.mem k).2 (.inl g))
          refine ⟨v7, S ++ [k], [(k, vo, outsE N E k)], _, rfl, HR.out.1.entered (Nat.le_refl _) hkS haN (HR.out.1.dfs.start hkO fun b => mem_outsE Hends.out) K.out.1 K.out.2.1 K.out.2.2.1 K.out.2.2.2.1, fun j hj => ?_⟩
          by_cases e : j = q
          · subst e; rw [hk]; simp
          · exact List.mem_append_left _ (HR.out.2 j (by omega))
      clear hsl hk haN hqN
      go_wp2_with (first
        | (go_at_call 56; (with_reducible refine HEn.out.mono ?_); rintro e w5 ⟨v7, S1, ss1, D1, rfl, H5⟩)
        | go_in)
      clear hc0 HEn
      try go_frame
      go_loopw [3, 7] (fun v3 v7 wr => ∃ (O S : List Int) (ss : List Vis) (D : DV), Hid (LfSt w w.heap.size (EdR E) N O S ss D v3 v7 (.slice (some ⟨b12, off12, none⟩) n c12) wr ∧ ∀ j, j < q + 1 → N.getD j 0 ∈ S)) (fun v3 v7 wr => (n - (lenOf v3 + lenOf v7)) * (n + 2) + stkSum wr v7)
      case atStart => exact ⟨O, S1, ss1, D1, H5.out⟩
      case round =>
        obtain ⟨O2, S2, ss, D2, HI⟩ := hrel
        obtain ⟨wb, hwb⟩ : ∃ wb, wb = wr := ⟨_, rfl⟩
        subst hwb
        obtain ⟨p3, c3, rfl, -, -⟩ := HI.out.1.ord.form
        have hlen := HI.out.1.len
        rw [Hn.out] at hlen
        cases ss with
        | nil =>
          have hv7 : ∃ p c, u7 = .slice p 0 c := row_sl HI.out.1.stk.row
          obtain ⟨p7, c7, rfl⟩ := hv7
          have H6 : Hid (LfSt w w.heap.size (EdR E) N O2 S2 [] D2 (.slice p3 O2.length c3) (.slice none 0 0) (.slice (some ⟨b12, off12, none⟩) n c12) wb) := ⟨HI.out.1.seen, HI.out.1.ord, stk_nil _ _, HI.out.1.nodes, HI.out.1.ap1, HI.out.1.ap2, HI.out.1.gro, HI.out.1.dfs, HI.out.1.mem, HI.out.1.once, HI.out.1.sub⟩
          clear hlen
          go_wp2
          go_roundw
          case rel => exact ⟨q + 1, O2, S2, D2, by omega, by go_num, H6.out, HI.out.2⟩
          case measure => simp [intOf]; omega
        | cons x ss =>
          obtain ⟨x, vt, t⟩ := x
          obtain ⟨g7, c7, rfl, hc7, hB7, hg7, d0, d1⟩ := HI.out.1.stk.top
          simp only at d0 d1
          have hti := HI.out.1.stk.todo (x, vt, t) (List.mem_cons_self ..)
          obtain ⟨pt, ct, e, hct, htl⟩ := hti.form
          simp only at e hct htl hti
          subst e
          rw [List.length_cons] at hlen
          have hSum := stkSum_is HI.out.1.stk
          obtain ⟨m, hm⟩ : ∃ m, ss.length = m := ⟨_, rfl⟩
          have Hm := Lib.hid hm
          rw [hm] at hc7 d0 d1 hlen hSum ⊢
          have hg0 : decide ((0 : Int) < (m : Int) + 1) = true := by simp
          have hwr : IntKind.i64.wrap (m : Int) = (m : Int) := by rw [IntKind.wrap_i64]; omega
          have hix1 : (m : Int) < (m : Int) + 1 := by omega
          have hix2 : (m : Int) < ((m + 1 : Nat) : Int) := by omega
          have hix3 : m < m + 1 := by omega
          have hix0 : (0 : Int) ≤ (m : Int) := by omega
          have HSum : Hid (stkSum wb (.slice (some ⟨g7, 0, none⟩) (m + 1) c7) = visSum ss + (t.length + 1)) := hSum
          have hOl : O2.length ≤ 1000000 := by omega
          have Hlen2 := Lib.hid hlen
          have Hstk : Hid (StkAt w.heap.size (.slice (some ⟨g7, 0, none⟩) (ss.length + 1) c7) ((x, .slice pt t.length ct, t) :: ss) wb) := by
            exact HI.out.1.stk
          cases t with
          | nil =>
            simp only [List.length_nil] at *
            have Hpop : Hid (StkAt w.heap.size (.slice (some ⟨g7, 0, none⟩) m c7) ss wb) := by
              have h1 := Hstk.out.pop
              rw [hm] at h1
              exact h1
            clear hti htl hct hSum hlen hm hB7 hg7
            go_wp2_with (first
              | (at_builtin; refine wpList_append_o rfl _ _ rfl w.heap.size (.slice p3 O2.length c3) O2 x rfl (HI.out.1.ord.alloc _) ⟨wb.heap.size, 0, none⟩ 1 rfl (news_new wb #[iv x] 3) hOl (by have := HI.out.1.gro.size; simp; omega) ?_
                 intro v3 w6 hf6 hg6 hl6
                 have hA := World.grownBy_alloc wb (.cells #[iv x] 3) none
                 have hord := HI.out.1.ord
                 have hstk6 : StkAt w.heap.size (.slice (some ⟨g7, 0, none⟩) m c7) ss w6 := (Hpop.out.kept hA).off (off_of_grown hg6) (fun q e e2 => Hpop.out.apart hord q e e2.symm) (fun y hy q e e2 => HI.out.1.ap2 y (List.mem_cons_of_mem _ hy) q e2.symm e)
                 have H6 : Hid (LfSt w w.heap.size (EdR E) N (O2 ++ [x]) S2 ss D2 v3 (.slice (some ⟨g7, 0, none⟩) m c7) (.slice (some ⟨b12, off12, none⟩) n c12) w6) := by
                   refine ⟨(HI.out.1.seen.kept hA (by simp)).kept hg6 (fun e => by
                     obtain ⟨o, ho, hc⟩ := HI.out.1.seen.obj
                     exact hord.no ho hc e.symm), hf6, hstk6, (HI.out.1.nodes.alloc (.cells #[iv x] 3)).beside hg6 HI.out.1.ap1, fun q h1 h2 => ?_, fun y hy q h1 h2 => ?_, (HI.out.1.gro.trans hA).andThen hg6 (fun q e => .inl (hord.lt e).1), HI.out.1.dfs.pop, fun z => ?_, HI.out.1.once, HI.out.1.sub⟩
                   · rcases hl6 q h1 with h3 | h3
                     · exact HI.out.1.ap1 q h3 h2
                     · have h4 := (HI.out.1.nodes.lt h2).2
                       simp at h3
                       omega
                   · rcases hl6 q h1 with h3 | h3
                     · exact HI.out.1.ap2 y (List.mem_cons_of_mem _ hy) q h3 h2
                     · have h4 := ((Hpop.out.todo y hy).lt h2).2
                       simp at h3
                       omega
                   · rw [HI.out.1.mem z, List.mem_append, List.mem_singleton]
                     simp only [plainS, List.map_cons, List.mem_cons]
                     constructor
                     · rintro (h1 | h1 | h1)
                       · exact .inl (.inl h1)
                       · exact .inl (.inr h1)
                       · exact .inr h1
                     · rintro ((h1 | h1) | h1)
                       · exact .inl h1
                       · exact .inr (.inl h1)
                       · exact .inr (.inr h1)
                 obtain ⟨q3, d3, e3, -, -⟩ := hf6.form
                 have Hq3 := Lib.hid e3
                 clear hf6 hg6 hl6 hA hord hstk6 e3)
              | go_in)
            refine ⟨⟨O2 ++ [x], S2, ss, D2, H6.out, HI.out.2⟩, ?_⟩
            rw [stkSum_is H6.out.stk, HSum.out, Hq3.out]
            simp only [lenOf, List.length_append, List.length_singleton]
            rw [show O2.length + 1 + m = O2.length + (m + 1) from by omega]
            omega
          | cons b t =>
            obtain ⟨gt, ot, rfl, -, -, htc⟩ := htl (by simp)
            have ct0 := htc 0 (by simp)
            rw [List.getD_cons_zero, Nat.add_zero] at ct0
            obtain ⟨-, h1c, httl⟩ := hti.tail
            have Httl := Lib.hid httl
            have hbR : EdR E x b := HI.out.1.dfs.sub (x, b :: t) (by simp [plainS]) b (List.mem_cons_self ..)
            have HbN : Hid (b ∈ N) := (Hends.out x b hbR).2
            have Hdfs := Lib.hid HI.out.1.dfs
            rw [List.length_cons] at hct d1 HSum Hstk
            obtain ⟨l, hl⟩ : ∃ l, t.length = l := ⟨_, rfl⟩
            have Hl := Lib.hid hl
            rw [hl] at hct d1 Httl HSum Hstk
            have hg1 : decide ((0 : Int) < (l : Int) + 1) = true := by simp
            have hiy1 : (0 : Int) < (l : Int) + 1 := by omega
            clear hti htl htc httl hSum hlen hbR hl
            by_cases hc1 : ct = 1
            · subst hc1
              obtain rfl : l = 0 := by omega
              have HV : IntsO wb w.heap.size (.slice (some ⟨gt, ot, none⟩) 0 0) t := Httl.out
              obtain ⟨l0, hl0⟩ : ∃ l0, l0 = 0 + 1 := ⟨_, rfl⟩
              have HL0 := Lib.hid hl0
              clear hl0
              obtain ⟨Ws, hWs⟩ : ∃ W, wb.setCell ⟨g7, m * 2 + 1, none⟩ (.slice (some ⟨gt, ot, none⟩) 0 0) = W := ⟨_, rfl⟩
              have hset := Hstk.out.set HV
              rw [Hm.out, hWs] at hset
              have hord := HI.out.1.ord
              have H6 : LfSt w w.heap.size (EdR E) N O2 S2 ((x, (.slice (some ⟨gt, ot, none⟩) 0 0), t) :: ss) D2 (.slice p3 O2.length c3) (.slice (some ⟨g7, 0, none⟩) (m + 1) c7) (.slice (some ⟨b12, off12, none⟩) n c12) Ws ∨ True := .inr trivial
              have hb1 : IntsO Ws w.heap.size (.slice p3 O2.length c3) O2 := hord.kept hset.2 (.inr (Hstk.out.apart hord g7 rfl))
              have hb2 : IntsO Ws w.heap.size (.slice (some ⟨b12, off12, none⟩) n c12) N := HI.out.1.nodes.kept hset.2 (.inr (Hstk.out.apart HI.out.1.nodes g7 rfl))
              have hb3 : SeenAt w.heap.size S2.length S2 D2 Ws := HI.out.1.seen.kept hset.2 (fun e => by
                obtain ⟨o, ho, hc⟩ := HI.out.1.seen.obj
                exact row_no Hstk.out.row ho hc e.symm)
              have hb4 : w.grownBy Ws none := HI.out.1.gro.andThen hset.2 (fun q e => .inl (by cases e; exact hB7))
              have hb5 : ∀ y ∈ (x, (.slice (some ⟨gt, ot, none⟩) 0 0), t) :: ss, ∀ q, (Value.slice p3 O2.length c3).ownBlock = some q → y.2.1.ownBlock ≠ some q := fun y hy q h1 h2 => by
                rcases List.mem_cons.1 hy with rfl | hy
                · exact HI.out.1.ap2 _ (List.mem_cons_self ..) q h1 h2
                · exact HI.out.1.ap2 y (List.mem_cons_of_mem _ hy) q h1 h2
              have hSl : S2.length ≤ 500 := by have := HI.out.1.len; have := HN.out; omega
              -- a visit of it, or none
              have HEn : Hid (Calls Tryz.prog 56 #[.pointer (some ⟨g, 0, none⟩), .slice (some ⟨g7, 0, none⟩) (m + 1) c7, .map (some w.heap.size), iv b] Ws fun e w' => ∃ p8 c8 S' ss' D', e = .returned (.slice p8 ss'.length c8) ∧ Hid (LfSt w w.heap.size (EdR E) N O2 S' ss' D' (.slice p3 O2.length c3) (.slice p8 ss'.length c8) (.slice (some ⟨b12, off12, none⟩) n c12) w' ∧ (∀ j, j < q + 1 → N.getD j 0 ∈ S') ∧ (n - (O2.length + ss'.length)) * (n + 2) + visSum ss' < (n - (O2.length + (m + 1))) * (n + 2) + (visSum ss + (l0 + 1)))) := by
                by_cases hbS : b ∈ S2
                · have hd : DfsOk (EdR E) O2 (plainS ((x, (.slice (some ⟨gt, ot, none⟩) 0 0), t) :: ss)) := Hdfs.out.skip (by
                    rcases (HI.out.1.mem b).1 hbS with g | g
                    · exact .inl g
                    · exact .inr (by simpa [plainS] using g))
                  have H7 : LfSt w w.heap.size (EdR E) N O2 S2 ((x, (.slice (some ⟨gt, ot, none⟩) 0 0), t) :: ss) D2 (.slice p3 O2.length c3) (.slice (some ⟨g7, 0, none⟩) (m + 1) c7) (.slice (some ⟨b12, off12, none⟩) n c12) Ws := ⟨hb3, hb1, hset.1, hb2, HI.out.1.ap1, hb5, hb4, hd, HI.out.1.mem, HI.out.1.once, HI.out.1.sub⟩
                  refine (enter_no (g := g) b (Hfit.out b HbN.out) Ws (.slice (some ⟨g7, 0, none⟩) (m + 1) c7) hb3 hbS).mono ?_
                  rintro e w' ⟨rfl, hg⟩
                  refine ⟨some ⟨g7, 0, none⟩, c7, S2, (x, (.slice (some ⟨gt, ot, none⟩) 0 0), t) :: ss, D2, by rw [List.length_cons, Hm.out], ?_⟩
                  have h8 := H7.kept hg
                  rw [← Hm.out] at h8
                  refine ⟨h8, HI.out.2, ?_⟩
                  rw [List.length_cons, Hm.out]
                  show _ + (visSum ss + (t.length + 1)) < _
                  have := Hl.out
                  have := HL0.out
                  omega
                · have hbO : b ∉ O2 := fun g => hbS ((HI.out.1.mem b).2 (.inl g))
                  have hbs : b ∉ (plainS ((x, (.slice (some ⟨gt, ot, none⟩) 0 0), t) :: ss)).map (·.1) := fun g => hbS ((HI.out.1.mem b).2 (.inr (by simpa [plainS] using g)))
                  have hd0 : DfsOk (EdR E) O2 ((b, outsE N E b) :: (x, t) :: plainS ss) := Hdfs.out.push ⟨hbO, hbs⟩ fun z => mem_outsE Hends.out
                  have hVw : Below w.heap.size w Ws := grown_of_below hb4
                  have hss : ((x, (.slice (some ⟨gt, ot, none⟩) 0 0), t) :: ss).length = m + 1 := by rw [List.length_cons, Hm.out]
                  have hlen3 := Hlen2.out
                  have hnb := HN.out
                  rw [Hn.out] at hnb
                  refine (enter_yes b (Hfit.out b HbN.out) Hc.out w Ws HGr.out hVw (Nat.le_refl _) (.slice (some ⟨g7, 0, none⟩) (m + 1) c7) ((x, (.slice (some ⟨gt, ot, none⟩) 0 0), t) :: ss) hset.1 (by rw [hss]; omega) (by omega) hb3 hbS).mono ?_
                  rintro e w' ⟨v8, vo, rfl, K⟩
                  obtain ⟨g8, c8, e8, -⟩ := K.out.2.1.top
                  -- as it would stand, were it not for the walk's own order
                  have H7 : LfSt w w.heap.size (EdR E) N O2 (S2 ++ [b]) ((b, vo, outsE N E b) :: (x, (.slice (some ⟨gt, ot, none⟩) 0 0), t) :: ss) (D2.put (il b) (.held unitV)) (.slice p3 O2.length c3) v8 (.slice (some ⟨b12, off12, none⟩) n c12) w' := by
                    have hz : ∀ {v : Value} {zs : List Int}, IntsO Ws w.heap.size v zs → ∀ q, v.ownBlock = some q → ¬ (q = w.heap.size ∨ (Value.slice (some ⟨g7, 0, none⟩) (m + 1) c7).ownBlock = some q) := fun hv q e g => by
                      rcases g with rfl | g
                      · obtain ⟨o, ho, hc⟩ := hb3.obj
                        exact hv.no ho hc e
                      · exact hset.1.apart hv q g e
                    refine ⟨by rw [List.length_append]; exact K.out.1, hb1.off K.out.2.2.1 (hz hb1), K.out.2.1, hb2.off K.out.2.2.1 (hz hb2), HI.out.1.ap1, fun y hy q e1 e2 => ?_, off_gro hb4 K.out.2.2.1 (fun q e => ?_), hd0, fun z => ?_, ?_, fun z hz => ?_⟩
                    · rcases List.mem_cons.1 hy with rfl | hy
                      · have := K.out.2.2.2.1 q e2
                        have := (hb1.lt e1).2
                        omega
                      · exact hb5 y hy q e1 e2
                    · rcases e with rfl | e
                      · exact Nat.le_refl _
                      · exact (hset.1.row.lt q e).1
                    · rw [List.mem_append, List.mem_singleton, HI.out.1.mem z]
                      simp only [plainS, List.map_cons, List.mem_cons]
                      constructor
                      · rintro ((g | g) | g)
                        · exact .inl g
                        · exact .inr (.inr g)
                        · exact .inr (.inl g)
                      · rintro (g | g | g)
                        · exact .inl (.inl g)
                        · exact .inr g
                        · exact .inl (.inr g)
                    · rw [List.nodup_append]
                      exact ⟨HI.out.1.once, by simp, fun y hy z hz e => by rw [List.mem_singleton] at hz; subst hz e; exact hbS hy⟩
                    · rcases List.mem_append.1 hz with g | g
                      · exact HI.out.1.sub z g
                      · rw [List.mem_singleton] at g; rw [g]; exact HbN.out
                  refine ⟨some ⟨g8, 0, none⟩, c8, S2 ++ [b], (b, vo, outsE N E b) :: (x, (.slice (some ⟨gt, ot, none⟩) 0 0), t) :: ss, D2.put (il b) (.held unitV), by rw [e8]; rfl, ?_⟩
                  have hlen4 := H7.len.1
                  rw [e8] at H7
                  refine ⟨H7, fun j hj => List.mem_append_left _ (HI.out.2 j hj), ?_⟩
                  have hol : (outsE N E b).length ≤ n := by rw [← Hn.out]; exact List.length_filter_le _ _
                  rw [List.length_cons, List.length_cons, Hm.out, Hn.out] at hlen4
                  rw [List.length_cons, List.length_cons, Hm.out]
                  show _ + (visSum ss + (t.length + 1) + ((outsE N E b).length + 1)) < _
                  rw [Hl.out, HL0.out]
                  exact lf_measure (by omega) hol
              have hfz := Hstk.out.thaw (m * 2 + 1)
              clear hset hord H6 hb1 hb2 hb3 hb4 hb5 hSl HV hB7 hg7
              go_wp2_with (first
                | (go_at_call 56; (with_reducible refine HEn.out.mono ?_); rintro e w5 ⟨p8, c8, S3, ss3, D3, rfl, H8⟩)
                | go_in)
              refine ⟨⟨O2, S3, ss3, D3, H8.out.1, H8.out.2.1⟩, ?_⟩
              rw [stkSum_is H8.out.1.stk]
              have h9 := H8.out.2.2
              rw [HL0.out] at h9
              have h10 : stkSum wb (.slice (some ⟨g7, 0, none⟩) (m + 1) c7) = visSum ss + (0 + 1 + 1) := HSum.out
              rw [h10]
              exact h9
            · have HV : IntsO wb w.heap.size (.slice (some ⟨gt, ot + 1, none⟩) l (ct - 1)) t := by
                have h1 := Httl.out
                rw [if_neg hc1] at h1
                exact h1
              obtain ⟨l0, hl0⟩ : ∃ l0, l0 = l + 1 := ⟨_, rfl⟩
              have HL0 := Lib.hid hl0
              clear hl0
              obtain ⟨Ws, hWs⟩ : ∃ W, wb.setCell ⟨g7, m * 2 + 1, none⟩ (.slice (some ⟨gt, ot + 1, none⟩) l (ct - 1)) = W := ⟨_, rfl⟩
              have hset := Hstk.out.set HV
              rw [Hm.out, hWs] at hset
              have hord := HI.out.1.ord
              have H6 : LfSt w w.heap.size (EdR E) N O2 S2 ((x, (.slice (some ⟨gt, ot + 1, none⟩) l (ct - 1)), t) :: ss) D2 (.slice p3 O2.length c3) (.slice (some ⟨g7, 0, none⟩) (m + 1) c7) (.slice (some ⟨b12, off12, none⟩) n c12) Ws ∨ True := .inr trivial
              have hb1 : IntsO Ws w.heap.size (.slice p3 O2.length c3) O2 := hord.kept hset.2 (.inr (Hstk.out.apart hord g7 rfl))
              have hb2 : IntsO Ws w.heap.size (.slice (some ⟨b12, off12, none⟩) n c12) N := HI.out.1.nodes.kept hset.2 (.inr (Hstk.out.apart HI.out.1.nodes g7 rfl))
              have hb3 : SeenAt w.heap.size S2.length S2 D2 Ws := HI.out.1.seen.kept hset.2 (fun e => by
                obtain ⟨o, ho, hc⟩ := HI.out.1.seen.obj
                exact row_no Hstk.out.row ho hc e.symm)
              have hb4 : w.grownBy Ws none := HI.out.1.gro.andThen hset.2 (fun q e => .inl (by cases e; exact hB7))
              have hb5 : ∀ y ∈ (x, (.slice (some ⟨gt, ot + 1, none⟩) l (ct - 1)), t) :: ss, ∀ q, (Value.slice p3 O2.length c3).ownBlock = some q → y.2.1.ownBlock ≠ some q := fun y hy q h1 h2 => by
                rcases List.mem_cons.1 hy with rfl | hy
                · exact HI.out.1.ap2 _ (List.mem_cons_self ..) q h1 h2
                · exact HI.out.1.ap2 y (List.mem_cons_of_mem _ hy) q h1 h2
              have hSl : S2.length ≤ 500 := by have := HI.out.1.len; have := HN.out; omega
              -- a visit of it, or none
              have HEn : Hid (Calls Tryz.prog 56 #[.pointer (some ⟨g, 0, none⟩), .slice (some ⟨g7, 0, none⟩) (m + 1) c7, .map (some w.heap.size), iv b] Ws fun e w' => ∃ p8 c8 S' ss' D', e = .returned (.slice p8 ss'.length c8) ∧ Hid (LfSt w w.heap.size (EdR E) N O2 S' ss' D' (.slice p3 O2.length c3) (.slice p8 ss'.length c8) (.slice (some ⟨b12, off12, none⟩) n c12) w' ∧ (∀ j, j < q + 1 → N.getD j 0 ∈ S') ∧ (n - (O2.length + ss'.length)) * (n + 2) + visSum ss' < (n - (O2.length + (m + 1))) * (n + 2) + (visSum ss + (l0 + 1)))) := by
                by_cases hbS : b ∈ S2
                · have hd : DfsOk (EdR E) O2 (plainS ((x, (.slice (some ⟨gt, ot + 1, none⟩) l (ct - 1)), t) :: ss)) := Hdfs.out.skip (by
                    rcases (HI.out.1.mem b).1 hbS with g | g
                    · exact .inl g
                    · exact .inr (by simpa [plainS] using g))
                  have H7 : LfSt w w.heap.size (EdR E) N O2 S2 ((x, (.slice (some ⟨gt, ot + 1, none⟩) l (ct - 1)), t) :: ss) D2 (.slice p3 O2.length c3) (.slice (some ⟨g7, 0, none⟩) (m + 1) c7) (.slice (some ⟨b12, off12, none⟩) n c12) Ws := ⟨hb3, hb1, hset.1, hb2, HI.out.1.ap1, hb5, hb4, hd, HI.out.1.mem, HI.out.1.once, HI.out.1.sub⟩
                  refine (enter_no (g := g) b (Hfit.out b HbN.out) Ws (.slice (some ⟨g7, 0, none⟩) (m + 1) c7) hb3 hbS).mono ?_
                  rintro e w' ⟨rfl, hg⟩
                  refine ⟨some ⟨g7, 0, none⟩, c7, S2, (x, (.slice (some ⟨gt, ot + 1, none⟩) l (ct - 1)), t) :: ss, D2, by rw [List.length_cons, Hm.out], ?_⟩
                  have h8 := H7.kept hg
                  rw [← Hm.out] at h8
                  refine ⟨h8, HI.out.2, ?_⟩
                  rw [List.length_cons, Hm.out]
                  show _ + (visSum ss + (t.length + 1)) < _
                  have := Hl.out
                  have := HL0.out
                  omega
                · have hbO : b ∉ O2 := fun g => hbS ((HI.out.1.mem b).2 (.inl g))
                  have hbs : b ∉ (plainS ((x, (.slice (some ⟨gt, ot + 1, none⟩) l (ct - 1)), t) :: ss)).map (·.1) := fun g => hbS ((HI.out.1.mem b).2 (.inr (by simpa [plainS] using g)))
                  have hd0 : DfsOk (EdR E) O2 ((b, outsE N E b) :: (x, t) :: plainS ss) := Hdfs.out.push ⟨hbO, hbs⟩ fun z => mem_outsE Hends.out
                  have hVw : Below w.heap.size w Ws := grown_of_below hb4
                  have hss : ((x, (.slice (some ⟨gt, ot + 1, none⟩) l (ct - 1)), t) :: ss).length = m + 1 := by rw [List.length_cons, Hm.out]
                  have hlen3 := Hlen2.out
                  have hnb := HN.out
                  rw [Hn.out] at hnb
                  refine (enter_yes b (Hfit.out b HbN.out) Hc.out w Ws HGr.out hVw (Nat.le_refl _) (.slice (some ⟨g7, 0, none⟩) (m + 1) c7) ((x, (.slice (some ⟨gt, ot + 1, none⟩) l (ct - 1)), t) :: ss) hset.1 (by rw [hss]; omega) (by omega) hb3 hbS).mono ?_
                  rintro e w' ⟨v8, vo, rfl, K⟩
                  obtain ⟨g8, c8, e8, -⟩ := K.out.2.1.top
                  -- as it would stand, were it not for the walk's own order
                  have H7 : LfSt w w.heap.size (EdR E) N O2 (S2 ++ [b]) ((b, vo, outsE N E b) :: (x, (.slice (some ⟨gt, ot + 1, none⟩) l (ct - 1)), t) :: ss) (D2.put (il b) (.held unitV)) (.slice p3 O2.length c3) v8 (.slice (some ⟨b12, off12, none⟩) n c12) w' := by
                    have hz : ∀ {v : Value} {zs : List Int}, IntsO Ws w.heap.size v zs → ∀ q, v.ownBlock = some q → ¬ (q = w.heap.size ∨ (Value.slice (some ⟨g7, 0, none⟩) (m + 1) c7).ownBlock = some q) := fun hv q e g => by
                      rcases g with rfl | g
                      · obtain ⟨o, ho, hc⟩ := hb3.obj
                        exact hv.no ho hc e
                      · exact hset.1.apart hv q g e
                    refine ⟨by rw [List.length_append]; exact K.out.1, hb1.off K.out.2.2.1 (hz hb1), K.out.2.1, hb2.off K.out.2.2.1 (hz hb2), HI.out.1.ap1, fun y hy q e1 e2 => ?_, off_gro hb4 K.out.2.2.1 (fun q e => ?_), hd0, fun z => ?_, ?_, fun z hz => ?_⟩
                    · rcases List.mem_cons.1 hy with rfl | hy
                      · have := K.out.2.2.2.1 q e2
                        have := (hb1.lt e1).2
                        omega
                      · exact hb5 y hy q e1 e2
                    · rcases e with rfl | e
                      · exact Nat.le_refl _
                      · exact (hset.1.row.lt q e).1
                    · rw [List.mem_append, List.mem_singleton, HI.out.1.mem z]
                      simp only [plainS, List.map_cons, List.mem_cons]
                      constructor
                      · rintro ((g | g) | g)
                        · exact .inl g
                        · exact .inr (.inr g)
                        · exact .inr (.inl g)
                      · rintro (g | g | g)
                        · exact .inl (.inl g)
                        · exact .inr g
                        · exact .inl (.inr g)
                    · rw [List.nodup_append]
                      exact ⟨HI.out.1.once, by simp, fun y hy z hz e => by rw [List.mem_singleton] at hz; subst hz e; exact hbS hy⟩
                    · rcases List.mem_append.1 hz with g | g
                      · exact HI.out.1.sub z g
                      · rw [List.mem_singleton] at g; rw [g]; exact HbN.out
                  refine ⟨some ⟨g8, 0, none⟩, c8, S2 ++ [b], (b, vo, outsE N E b) :: (x, (.slice (some ⟨gt, ot + 1, none⟩) l (ct - 1)), t) :: ss, D2.put (il b) (.held unitV), by rw [e8]; rfl, ?_⟩
                  have hlen4 := H7.len.1
                  rw [e8] at H7
                  refine ⟨H7, fun j hj => List.mem_append_left _ (HI.out.2 j hj), ?_⟩
                  have hol : (outsE N E b).length ≤ n := by rw [← Hn.out]; exact List.length_filter_le _ _
                  rw [List.length_cons, List.length_cons, Hm.out, Hn.out] at hlen4
                  rw [List.length_cons, List.length_cons, Hm.out]
                  show _ + (visSum ss + (t.length + 1) + ((outsE N E b).length + 1)) < _
                  rw [Hl.out, HL0.out]
                  exact lf_measure (by omega) hol
              have hfz := Hstk.out.thaw (m * 2 + 1)
              clear hset hord H6 hb1 hb2 hb3 hb4 hb5 hSl HV hB7 hg7
              go_wp2_with (first
                | (go_at_call 56; (with_reducible refine HEn.out.mono ?_); rintro e w5 ⟨p8, c8, S3, ss3, D3, rfl, H8⟩)
                | go_in)
              refine ⟨⟨O2, S3, ss3, D3, H8.out.1, H8.out.2.1⟩, ?_⟩
              rw [stkSum_is H8.out.1.stk]
              have h9 := H8.out.2.2
              rw [HL0.out] at h9
              have h10 : stkSum wb (.slice (some ⟨g7, 0, none⟩) (m + 1) c7) = visSum ss + (l + 1 + 1) := HSum.out
              rw [h10]
              exact h9
    · have hqn : q = n := by omega
      clear hlt
      go_wp2
      go_ret
      refine ⟨_, O, rfl, HR.out.1.ord, HR.out.1.dfs, fun x => ?_, grown_of_below HR.out.1.gro⟩
      have h1 := HR.out.1.mem x
      simp only [plainS, List.map_nil, List.not_mem_nil, or_false] at h1
      rw [← h1]
      refine ⟨HR.out.1.sub x, fun hx => ?_⟩
      obtain ⟨j, hj, e⟩ := List.getElem_of_mem hx
      have h2 := HR.out.2 j (by rw [hqn, ← Hn.out]; exact hj)
      rw [List.getD_eq_getElem?_getD, List.getElem?_eq_getElem hj] at h2
      rw [← e]
      exact h2
end Go.Proofs.YthgkloapnihpaaaGreat

/- The library's sort at this program, laid by the kit's command. -/
namespace Go.Proofs
open Go.Shelf
def Tryz.sortLs_ren : Go.Shelf.Ren := ⟨fun | 6 => 42 | 15 => 58 | 14 => 59 | 28 => 75 | 29 => 76 | 20 => 77 | 21 => 78 | 22 => 79 | 23 => 80 | 24 => 81 | 25 => 82 | 26 => 83 | 27 => 84 | 46 => 101 | 47 => 97 | 48 => 98 | 49 => 102 | 50 => 103 | 57 => 109 | n => n, fun | 22 => 49 | 24 => 23 | 25 => 91 | 3 => 3 | 39 => 99 | 0 => 0 | 53 => 123 | 55 => 125 | 4 => 4 | 46 => 117 | 45 => 116 | 50 => 75 | 5 => 5 | 9 => 9 | 66 => 138 | 70 => 142 | 76 => 148 | 77 => 149 | n => n, fun | n => n⟩
theorem Tryz.sortLs : Go.Proofs.SlLaysF.n6 Tryz.prog Tryz.sortLs_ren := {
  mixed := by kernel_rfl
  f6 := ⟨Tryz.f42.name, by decide, Tryz.func42.trans (congrArg some (by kernel_rfl))⟩
  f14 := ⟨Tryz.f59.name, by decide, Tryz.func59.trans (congrArg some (by kernel_rfl))⟩
  f15 := Tryz.func58.trans (congrArg some (by kernel_rfl))
  f20 := ⟨Tryz.f77.name, by decide, Tryz.func77.trans (congrArg some (by kernel_rfl))⟩
  f21 := ⟨Tryz.f78.name, by decide, Tryz.func78.trans (congrArg some (by kernel_rfl))⟩
  f22 := ⟨Tryz.f79.name, by decide, Tryz.func79.trans (congrArg some (by kernel_rfl))⟩
  f23 := ⟨Tryz.f80.name, by decide, Tryz.func80.trans (congrArg some (by kernel_rfl))⟩
  f24 := ⟨Tryz.f81.name, by decide, Tryz.func81.trans (congrArg some (by kernel_rfl))⟩
  f25 := ⟨Tryz.f82.name, by decide, Tryz.func82.trans (congrArg some (by kernel_rfl))⟩
  f26 := ⟨Tryz.f83.name, by decide, Tryz.func83.trans (congrArg some (by kernel_rfl))⟩
  f27 := ⟨Tryz.f84.name, by decide, Tryz.func84.trans (congrArg some (by kernel_rfl))⟩
  f28 := Tryz.func75.trans (congrArg some (by kernel_rfl))
  f29 := Tryz.func76.trans (congrArg some (by kernel_rfl))
  f46 := ⟨Tryz.f101.name, by decide, Tryz.func101.trans (congrArg some (by kernel_rfl))⟩
  f47 := Tryz.func97.trans (congrArg some (by kernel_rfl))
  f48 := Tryz.func98.trans (congrArg some (by kernel_rfl))
  f49 := ⟨Tryz.f102.name, by decide, Tryz.func102.trans (congrArg some (by kernel_rfl))⟩
  f50 := ⟨Tryz.f103.name, by decide, Tryz.func103.trans (congrArg some (by kernel_rfl))⟩
  f57 := ⟨Tryz.f109.name, by decide, Tryz.func109.trans (congrArg some (by kernel_rfl))⟩
  t0 := Tryz.underlying0
  a0 := Tryz.isAgg0
  z0 := Tryz.sizeOf0
  v0 := Tryz.zeroValue0
  t3 := Tryz.underlying3
  a3 := Tryz.isAgg3
  z3 := Tryz.sizeOf3
  v3 := Tryz.zeroValue3
  t4 := Tryz.underlying4
  a4 := Tryz.isAgg4
  z4 := Tryz.sizeOf4
  v4 := Tryz.zeroValue4
  t5 := Tryz.underlying5
  a5 := Tryz.isAgg5
  z5 := Tryz.sizeOf5
  v5 := Tryz.zeroValue5
  t9 := Tryz.underlying9
  a9 := Tryz.isAgg9
  z9 := Tryz.sizeOf9
  v9 := Tryz.zeroValue9
  t22 := Tryz.underlying49
  a22 := Tryz.isAgg49
  z22 := Tryz.sizeOf49
  v22 := Tryz.zeroValue49
  a24 := Tryz.isAgg23
  z24 := Tryz.sizeOf23
  t25 := Tryz.underlying91
  a25 := Tryz.isAgg91
  z25 := Tryz.sizeOf91
  v25 := Tryz.zeroValue91
  t39 := Tryz.underlying99
  a39 := Tryz.isAgg99
  z39 := Tryz.sizeOf99
  v39 := Tryz.zeroValue99
  t45 := Tryz.underlying116
  a45 := Tryz.isAgg116
  z45 := Tryz.sizeOf116
  v45 := Tryz.zeroValue116
  t46 := Tryz.underlying117
  a46 := Tryz.isAgg117
  z46 := Tryz.sizeOf117
  v46 := Tryz.zeroValue117
  t50 := Tryz.underlying75
  a50 := Tryz.isAgg75
  z50 := Tryz.sizeOf75
  v50 := Tryz.zeroValue75
  t53 := Tryz.underlying123
  a53 := Tryz.isAgg123
  z53 := Tryz.sizeOf123
  v53 := Tryz.zeroValue123
  t55 := Tryz.underlying125
  a55 := Tryz.isAgg125
  z55 := Tryz.sizeOf125
  v55 := Tryz.zeroValue125
  t66 := Tryz.underlying138
  a66 := Tryz.isAgg138
  z66 := Tryz.sizeOf138
  v66 := Tryz.zeroValue138
  t70 := Tryz.underlying142
  a70 := Tryz.isAgg142
  z70 := Tryz.sizeOf142
  v70 := Tryz.zeroValue142
  t76 := Tryz.underlying148
  a76 := Tryz.isAgg148
  z76 := Tryz.sizeOf148
  v76 := Tryz.zeroValue148
  t77 := Tryz.underlying149
  a77 := Tryz.isAgg149
  z77 := Tryz.sizeOf149
  v77 := Tryz.zeroValue149 }
end Go.Proofs

/- Lists of lists of numbers in memory, sorted by their heads where they lie. -/
namespace Go.Proofs.YthgkloapnihpaaaGreat
open Go.RowKit Go.Maps Go.WideMaps Go.WideElems Go.ChangeShapes Go.WideShapes

/-- Lists: their values, and plainly. -/
abbrev Pts := List (Value × List Int)
structure PtsAt (B : Nat) (v : Value) (ps : Pts) (W : World) : Prop where
  row : W.ownsRow B 23 1 v ps.length (ps.map (·.1))
  each : ∀ x ∈ ps, IntsO W B x.1 x.2
theorem pts_nil (B : Nat) (W : World) : PtsAt B (.slice none 0 0) [] W := ⟨World.ownsRow_nil _ _ _ _, by simp⟩
theorem PtsAt.apart {B B2 : Nat} {v v2 : Value} {ps : Pts} {zs : List Int} {W : World} (h : PtsAt B v ps W) (h2 : IntsO W B2 v2 zs) : ∀ q, v.ownBlock = some q → v2.ownBlock ≠ some q := by
  intro q e
  rcases h.row.2 with ⟨rfl, _⟩ | ⟨g, cap, cur, rfl, _, hg, _⟩
  · simp [Value.ownBlock] at e
  · have e2 : g = q := by simpa [Value.ownBlock] using e
    subst e2
    exact h2.ne hg fun cur2 e3 => by cases e3
theorem PtsAt.off {B : Nat} {v : Value} {ps : Pts} {W W' : World} {Z : Nat → Prop} (h : PtsAt B v ps W) (hg : Off Z W W') (hz : ∀ q, v.ownBlock = some q → ¬ Z q) (hz2 : ∀ x ∈ ps, ∀ q, x.1.ownBlock = some q → ¬ Z q) : PtsAt B v ps W' :=
  ⟨row_off h.row hg hz, fun x hx => (h.each x hx).off hg (hz2 x hx)⟩
theorem PtsAt.kept {B : Nat} {v : Value} {ps : Pts} {W W' : World} (h : PtsAt B v ps W) (hg : W.grownBy W' none) : PtsAt B v ps W' :=
  h.off (off_of_grown hg) (fun q _ e => by cases e) (fun x _ q _ e => by cases e)
/-- A block that is no cells turns. -/
theorem PtsAt.keptAt {B r : Nat} {v : Value} {ps : Pts} {W W' : World} {o : Obj} (h : PtsAt B v ps W) (hg : W.grownBy W' (some r)) (ho : W.heap[r]? = some o) (hc : o.isCells = false) : PtsAt B v ps W' :=
  h.off (off_of_grown hg) (fun q e e2 => row_no h.row ho hc (by cases e2; exact e)) (fun x hx q e e2 => (h.each x hx).no ho hc (by cases e2; exact e))
/-- What cmp.Compare says. -/
def cmpI (a b : Int) : Int := if a < b then -1 else if b < a then 1 else 0
set_option maxRecDepth 100000 in
theorem isNaN_any (a : Int) (w : World) : Calls Tryz.prog 60 #[.int .i64 a] w fun e w' => e = .returned (.bool false) ∧ w = w' := by
  go_enter Tryz.func60, Tryz.ntmps60
  go_wp2
  go_ret
  exact ⟨by simp, rfl⟩
set_option maxRecDepth 100000 in
theorem compare_any (a b : Int) (w : World) : Calls Tryz.prog 44 #[.int .i64 a, .int .i64 b] w fun e w' => e = .returned (.int .i64 (cmpI a b)) ∧ w = w' := by
  have HN := Lib.hid (fun a => isNaN_any a w)
  obtain ⟨R, hR⟩ : ∃ R, R = cmpI a b := ⟨_, rfl⟩
  rw [← hR]
  unfold cmpI at hR
  by_cases h1 : a < b
  · rw [if_pos h1] at hR
    subst hR
    go_enter Tryz.func44, Tryz.ntmps44
    go_wp2_with (first | (go_at_call 60; refine (HN.out _).mono ?_; rintro e w2 ⟨rfl, rfl⟩))
    go_ret
    exact ⟨rfl, rfl⟩
  · rw [if_neg h1] at hR
    by_cases h2 : b < a
    · rw [if_pos h2] at hR
      subst hR
      go_enter Tryz.func44, Tryz.ntmps44
      go_wp2_with (first | (go_at_call 60; refine (HN.out _).mono ?_; rintro e w2 ⟨rfl, rfl⟩))
      go_ret
      exact ⟨rfl, rfl⟩
    · rw [if_neg h2] at hR
      subst hR
      go_enter Tryz.func44, Tryz.ntmps44
      go_wp2_with (first | (go_at_call 60; refine (HN.out _).mono ?_; rintro e w2 ⟨rfl, rfl⟩))
      go_ret
      exact ⟨rfl, rfl⟩

section
open Go.Sort (grow putRow Holds putCells mapBlock onCells heap_grow_old SWO PermIn SortedIn)
theorem grow_none (w : World) : grow w #[] = w := by simp [grow]
set_option maxHeartbeats 16000000 in
set_option maxRecDepth 100000 in
theorem cmp_heads {B : Nat} {vx vy : Value} {xs ys : List Int} (W : World) (hx : IntsO W B vx xs) (hy : IntsO W B vy ys) (hxn : xs ≠ []) (hyn : ys ≠ []) :
    Calls Tryz.prog 43 #[vx, vy] W fun e w' => e = .returned (iv (cmpI (xs.headD 0) (ys.headD 0))) ∧ ∃ q os', w' = grow (W.drewN q) os' := by
  obtain ⟨p, c, rfl, hc1, h2⟩ := hx.form
  obtain ⟨p', c', rfl, hc2, h2'⟩ := hy.form
  obtain ⟨g, off, rfl, -, -, hc⟩ := h2 hxn
  obtain ⟨g', off', rfl, -, -, hc'⟩ := h2' hyn
  obtain ⟨x, xs, rfl⟩ : ∃ x l, xs = x :: l := by cases xs with
    | nil => exact absurd rfl hxn
    | cons x l => exact ⟨x, l, rfl⟩
  obtain ⟨y, ys, rfl⟩ : ∃ x l, ys = x :: l := by cases ys with
    | nil => exact absurd rfl hyn
    | cons x l => exact ⟨x, l, rfl⟩
  have x0 := hc 0 (by simp)
  have y0 := hc' 0 (by simp)
  rw [List.getD_cons_zero, Nat.add_zero] at x0 y0
  rw [List.length_cons, List.length_cons]
  show Calls _ _ _ _ fun e w' => e = .returned (iv (cmpI x y)) ∧ _
  obtain ⟨n, hn⟩ : ∃ n, xs.length = n := ⟨_, rfl⟩
  obtain ⟨m, hm⟩ : ∃ m, ys.length = m := ⟨_, rfl⟩
  rw [hn, hm]
  have hix1 : (0 : Int) < (n : Int) + 1 := by omega
  have hix2 : (0 : Int) < (m : Int) + 1 := by omega
  have HC := Lib.hid (fun W => compare_any x y W)
  clear hx hy hc1 hc2 h2 h2' hc hc' hxn hyn hn hm
  generalize cmpI x y = R at *
  go_enter Tryz.func43, Tryz.ntmps43
  go_wp2
  go_region_held3 (fun w' => w'.cell? ⟨g, off, none⟩ = some (iv x) ∧ w'.cell? ⟨g', off', none⟩ = some (iv y)) (go_keep)
    (first | (go_at_call 44; refine (HC.out _).mono ?_; rintro e w4 ⟨rfl, rfl⟩))
  all_goals
    go_wp2
    go_ret
    exact ⟨rfl, 1, #[], (grow_none _).symm⟩
variable {α : Type} [Inhabited α]
theorem heap_sortedE {enc : α → Value} {w : World} {g m off : Nat} {os : Array Obj} {cur : Array Value} {e : TypeId} {fr : Nat × Nat} (d : Array α) (hb : w.heap[g]? = some (.cells cur e fr)) :
    (grow (putRow enc (Sort.ahead w m) g off d) os).heap[g]? = some (.cells (putCells enc off d cur) e fr) := by
  have hg : g < w.heap.size := (Array.getElem?_eq_some_iff.1 hb).1
  rw [heap_grow_old _ _ (by simpa [putRow, mapBlock, Sort.ahead] using hg)]
  simp [putRow, mapBlock, Sort.ahead, Array.getElem?_modify, hb, onCells]
theorem grownBy_sortedE {enc : α → Value} {w : World} {g m off : Nat} {os : Array Obj} (d : Array α) : w.grownBy (grow (putRow enc (Sort.ahead w m) g off d) os) (some g) := by
  refine ⟨rfl, rfl, rfl, by simp [grow, putRow, mapBlock, Sort.ahead], fun k hk hne => ?_⟩
  rw [heap_grow_old _ _ (by simpa [putRow, mapBlock, Sort.ahead] using hk)]
  have : g ≠ k := fun e => hne (by rw [e])
  simp [putRow, mapBlock, Sort.ahead, Array.getElem?_modify, this]
theorem take_sortedE {enc : α → Value} (cur : Array Value) (l : List α) (h : l.length ≤ cur.size) : (putCells enc 0 l.toArray cur).toList.take l.length = l.map enc := by
  refine List.ext_getElem? fun j => ?_
  by_cases hj : j < l.length
  · have hc : j < cur.size := by omega
    rw [List.getElem?_take_of_lt hj, Array.getElem?_toList]
    simp [putCells, hj, hc]
  · rw [List.getElem?_take_eq_none (by omega), List.getElem?_eq_none (by simp; omega)]
end
/-- A list that is not empty, in a world. -/
abbrev PtE (W : World) (B : Nat) := { x : Value × List Int // IntsO W B x.1 x.2 ∧ x.2 ≠ [] }
def cfE {W : World} {B : Nat} (x y : PtE W B) : Int := cmpI (x.1.2.headD 0) (y.1.2.headD 0)
theorem ltE_of {W : World} {B : Nat} (x y : PtE W B) : ltOf cfE x y = decide (x.1.2.headD 0 < y.1.2.headD 0) := by
  unfold ltOf cfE cmpI
  rw [decide_eq_decide]
  generalize x.1.2.headD 0 = a
  generalize y.1.2.headD 0 = b
  by_cases h1 : a < b
  · simp [h1]
  · by_cases h2 : b < a <;> simp [h1, h2]
open Go.Sort (grow putRow Holds putCells mapBlock onCells heap_grow_old SWO PermIn SortedIn) in
theorem swoE (W : World) (B : Nat) : SWO (ltOf (cfE (W := W) (B := B))) where
  irrefl x := by rw [ltE_of]; simp
  trans x y z h1 h2 := by
    rw [ltE_of, decide_eq_true_eq] at *
    omega
  ntrans x y z h1 h2 := by
    rw [ltE_of, decide_eq_false_iff_not] at *
    omega
open Go.Sort (grow putRow Holds putCells mapBlock onCells heap_grow_old SWO PermIn SortedIn) in
set_option maxRecDepth 100000 in
theorem sort_parts (B : Nat) (v : Value) (ps : Pts) (w : World) (h : PtsAt B v ps w) (hne : ∀ x ∈ ps, x.2 ≠ []) (hl : ps.length ≤ 500) :
    Calls Tryz.prog 42 #[v, .func (.func 43) #[] #[]] w fun e w' => e = .returned (.tuple #[]) ∧ ∃ ps', Hid (ps'.Perm ps ∧ (ps'.map fun x => x.2.headD 0).Pairwise (· ≤ ·) ∧ PtsAt B v ps' w' ∧ w.grownBy w' v.ownBlock) := by
  rcases h.row.2 with ⟨rfl, h0⟩ | ⟨g, cap, cur, rfl, hb, hg, hn, hm, hs, ht⟩
  · have hp : ps = [] := List.eq_nil_of_length_eq_zero h0
    subst hp
    exact (AnyF.slices_SortFunc_none (P := Tryz.prog) (ρ := Tryz.sortLs_ren) { Tryz.sortLs with } none 0 (.func (.func 43) #[] #[]) w).mono fun e w' ⟨h1, h2⟩ => ⟨h1, [], List.Perm.refl _, by simp, h2 ▸ pts_nil _ _, h2 ▸ World.grownBy.refl w _⟩
  · by_cases hp0 : ps = []
    · subst hp0
      exact (AnyF.slices_SortFunc_none (P := Tryz.prog) (ρ := Tryz.sortLs_ren) { Tryz.sortLs with } (some ⟨g, 0, none⟩) cap (.func (.func 43) #[] #[]) w).mono fun e w' ⟨h1, h2⟩ => ⟨h1, [], List.Perm.refl _, by simp, h2 ▸ h, h2 ▸ World.grownBy.refl w _⟩
    obtain ⟨x0, hx0⟩ : ∃ x, x ∈ ps := by
      cases ps with
      | nil => exact absurd rfl hp0
      | cons x l => exact ⟨x, by simp⟩
    letI : Inhabited (PtE w B) := ⟨⟨x0, h.each x0 hx0, hne x0 hx0⟩⟩
    rw [Nat.mul_one] at hs ht
    obtain ⟨L, hL⟩ : ∃ L : List (PtE w B), L = ps.attach.map fun x => ⟨x.1, h.each x.1 x.2, hne x.1 x.2⟩ := ⟨_, rfl⟩
    have hLv : L.map (·.1) = ps := by
      rw [hL, List.map_map]
      exact List.attach_map_subtype_val ps
    have hLl : L.length = ps.length := by rw [hL]; simp
    have hgs : g < w.heap.size := (Array.getElem?_eq_some_iff.1 hg).1
    have hap : ∀ x ∈ ps, x.1.ownBlock ≠ some g := fun x hx => h.apart (h.each x hx) g rfl
    have hapE : ∀ x : PtE w B, x.1.1.ownBlock ≠ some g := fun x => x.2.1.ne hg fun cur2 e3 => by cases e3
    have hH : Holds (fun x : PtE w B => x.1.1) w g 0 L.toArray := by
      intro j hj
      have hj' : j < L.length := by simpa using hj
      refine ⟨?_, by simp [World.frozen?, hg]⟩
      have h1 : (ps.map (·.1))[j]? = some (L[j].1.1) := by
        rw [← hLv, List.map_map, List.getElem?_map, List.getElem?_eq_getElem hj']
        rfl
      rw [← ht, List.getElem?_take, if_pos (by omega)] at h1
      rw [Nat.zero_add]
      simp only [World.cell?, hg]
      simp [hj'] at h1 ⊢
      exact h1
    have hcon := Any.slices_SortFunc (P := Tryz.prog) (ρ := Tryz.sortLs_ren) Tryz.sortLs (fun x : PtE w B => x.1.1) (fun x => slice_one x.2.1) cfE (swoE w B) 43 #[] g 0 cap L.toArray w (enters_of Tryz.func43 (by kernel_rfl) rfl)
      (fun m os dk _ x y => by
        have hgr : w.grownBy (sortWorld (fun x : PtE w B => x.1.1) w g 0 m dk os) (some g) := grownBy_sortedE dk
        exact cmp_heads _ (x.2.1.kept hgr (.inr (hapE x))) (y.2.1.kept hgr (.inr (hapE y))) x.2.2 y.2.2)
      hH hgs (by simp; omega)
    have hsz : L.toArray.size = ps.length := by simpa using hLl
    rw [hsz] at hcon
    refine hcon.mono fun e w' ⟨h1, d', m, os, hp, hso, hw⟩ => ⟨h1, d'.toList.map (·.1), ?_, ?_, ?_, ?_⟩
    · have hd : d'.size = ps.length := by rw [hp.1, hsz]
      have h2 := hp.2.2
      rw [show d'.extract 0 ps.length = d' by rw [← hd]; simp, show L.toArray.extract 0 ps.length = L.toArray by rw [← hsz]; simp] at h2
      have h3 := h2.map (fun x : PtE w B => x.1)
      have h4 : L.toArray.toList.map (fun x : PtE w B => x.1) = ps := hLv
      rw [h4] at h3
      exact h3
    · have hd : d'.size = ps.length := by rw [hp.1, hsz]
      rw [List.map_map, List.pairwise_map]
      refine List.pairwise_iff_getElem.2 fun i j hi hj hij => ?_
      have h2 := hso i j (Nat.zero_le _) hij (by simpa [hd] using hj)
      have hi' : i < d'.size := by simpa using hi
      have hj' : j < d'.size := by simpa using hj
      rw [getElem!_pos d' i hi', getElem!_pos d' j hj', ltE_of, decide_eq_false_iff_not] at h2
      simp only [Function.comp, Array.getElem_toList]
      omega
    · have hd : d'.size = ps.length := by rw [hp.1, hsz]
      have hgr : w.grownBy w' (some g) := by rw [hw]; exact grownBy_sortedE d'
      have hdl : d'.toList.length = ps.length := by simpa using hd
      refine ⟨?_, fun x hx => ?_⟩
      · rw [List.length_map, hdl, List.map_map, hw]
        refine ⟨by simp; omega, .inr ⟨g, cap, _, rfl, hb, heap_sortedE d' hg, hn, hm, by simp [putCells]; omega, ?_⟩⟩
        have h5 := take_sortedE (enc := fun x : PtE w B => x.1.1) cur d'.toList (by omega)
        rw [hdl, Array.toArray_toList] at h5
        rw [Nat.mul_one]
        exact h5
      · obtain ⟨y, hy, rfl⟩ := List.mem_map.1 hx
        exact y.2.1.kept hgr (.inr (hapE y))
    · rw [hw]; exact grownBy_sortedE d'
end Go.Proofs.YthgkloapnihpaaaGreat

/- Graphs: Parts, by a contract. -/
namespace Go.Proofs.YthgkloapnihpaaaGreat
open Go.RowKit Go.Maps Go.WideMaps Go.WideElems Go.ChangeShapes Go.WideShapes
attribute [local go_sem] Oper.semAt_some
open Classical

/-- Plainly: so many from the last one on have been gone through. -/
structure GrpOk (R : Int → Int → Prop) (N O S : List Int) (ps : Pts) (q : Nat) : Prop where
  seen : ∀ y, y ∈ S ↔ ∃ z ∈ O.drop (O.length - q), Mutual R z y
  each : ∀ x ∈ ps, ∃ k ∈ N, x.2 = cls R N k
  all : ∀ y ∈ S, ∃ x ∈ ps, y ∈ x.2
  sub : ∀ x ∈ ps, ∀ y ∈ x.2, y ∈ S
  once : (ps.map fun x => x.2.headD 0).Nodup
theorem drop_one {O : List Int} {q : Nat} (h : q < O.length) : O.drop (O.length - (q + 1)) = O.getD (O.length - 1 - q) 0 :: O.drop (O.length - q) := by
  have h1 : O.length - (q + 1) < O.length := by omega
  rw [List.drop_eq_getElem_cons h1, List.getD_eq_getElem?_getD, List.getElem?_eq_getElem (by omega)]
  have e1 : O.length - (q + 1) + 1 = O.length - q := by omega
  have e2 : O.length - (q + 1) = O.length - 1 - q := by omega
  simp only [e1]
  congr 1
  simp only [e2]
  rfl
section
variable {R : Int → Int → Prop} {N O S : List Int} {ps : Pts} {q : Nat}
theorem GrpOk.zero (R : Int → Int → Prop) (N O : List Int) : GrpOk R N O [] [] 0 := ⟨fun y => by simp, by simp, by simp, by simp, by simp⟩
/-- One that has been seen. -/
theorem GrpOk.skip (h : GrpOk R N O S ps q) (hq : q < O.length) (hk : O.getD (O.length - 1 - q) 0 ∈ S) : GrpOk R N O S ps (q + 1) := by
  refine ⟨fun y => ?_, h.each, h.all, h.sub, h.once⟩
  rw [drop_one hq, h.seen y]
  constructor
  · rintro ⟨z, h1, h2⟩
    exact ⟨z, List.mem_cons_of_mem _ h1, h2⟩
  · rintro ⟨z, h1, h2⟩
    rcases List.mem_cons.1 h1 with e | h1
    · obtain ⟨z2, h3, h4⟩ := (h.seen _).1 hk
      exact ⟨z2, h3, h4.trans (e ▸ h2)⟩
    · exact ⟨z, h1, h2⟩
theorem GrpOk.mutual (h : GrpOk R N O S ps q) {a b : Int} (ha : a ∈ S) (hab : Mutual R a b) : b ∈ S := by
  obtain ⟨z, h1, h2⟩ := (h.seen a).1 ha
  exact (h.seen b).2 ⟨z, h1, h2.trans hab⟩
/-- One that has not: what has been found is its group. -/
theorem GrpOk.found (hd : DfsOk R O []) (hON : ∀ x, x ∈ O ↔ x ∈ N) (hin : ∀ a b, R a b → a ∈ N ∧ b ∈ N) (h : GrpOk R N O S ps q) (hq : q < O.length) {k : Int} (hk : O.getD (O.length - 1 - q) 0 = k) (hkS : k ∉ S) {F : List Int} (hF : ∀ y, y ∈ F ↔ k ∉ S ∧ Leads (within (fun a b => R b a) fun z => z ∉ S) k y) :
    ∀ y, y ∈ F ↔ Mutual R k y := by
  intro y
  have hnd : O.Nodup := by
    have := hd.once
    simpa using this
  have hO : ∀ y, y ∈ O.drop (O.length - 1 - q + 1) → y ∈ S := fun y hy => (h.seen y).2 ⟨y, by rwa [show O.length - 1 - q + 1 = O.length - q from by omega] at hy, Mutual.refl y⟩
  have hik : O[O.length - 1 - q]? = some k := by
    rw [← hk, List.getD_eq_getElem?_getD, List.getElem?_eq_getElem (by omega)]
    rfl
  rw [hF y]
  have hg := group_of (S := fun z => z ∈ S) hd.left hnd (fun a b hab => ⟨(hON a).2 (hin a b hab).1, (hON b).2 (hin a b hab).2⟩) (fun a b ha hab => h.mutual ha hab) hik hO hkS y
  rw [hg]
  exact ⟨fun h => h.2, fun h => ⟨hkS, h⟩⟩
theorem GrpOk.add (hN : RiseI N) (h : GrpOk R N O S ps q) (hq : q < O.length) {k : Int} (hk : O.getD (O.length - 1 - q) 0 = k) (hkN : k ∈ N) (hkS : k ∉ S) {F F' : List Int} (hF : ∀ y, y ∈ F ↔ Mutual R k y) (hFN : ∀ y ∈ F, y ∈ N) (hr : RiseI F') (hF' : ∀ y, y ∈ F' ↔ y ∈ F) (v : Value) : GrpOk R N O (S ++ F) (ps ++ [(v, F')]) (q + 1) := by
  have he : F' = cls R N k := riseI_ext hr (rise_cls hN k) fun y => by
    rw [hF', hF, mem_cls]
    exact ⟨fun g => ⟨hFN y ((hF y).2 g), g⟩, fun g => g.2⟩
  refine ⟨fun y => ?_, fun x hx => ?_, fun y hy => ?_, fun x hx y hy => ?_, ?_⟩
  · rw [drop_one hq, List.mem_append, h.seen y, hF y, hk]
    constructor
    · rintro (⟨z, h1, h2⟩ | h1)
      · exact ⟨z, List.mem_cons_of_mem _ h1, h2⟩
      · exact ⟨k, List.mem_cons_self .., h1⟩
    · rintro ⟨z, h1, h2⟩
      rcases List.mem_cons.1 h1 with rfl | h1
      · exact .inr h2
      · exact .inl ⟨z, h1, h2⟩
  · rcases List.mem_append.1 hx with h1 | h1
    · exact h.each x h1
    · rw [List.mem_singleton] at h1
      subst h1
      exact ⟨k, hkN, he⟩
  · rcases List.mem_append.1 hy with h1 | h1
    · obtain ⟨x, h2, h3⟩ := h.all y h1
      exact ⟨x, List.mem_append_left _ h2, h3⟩
    · exact ⟨(v, F'), by simp, (hF' y).2 h1⟩
  · rcases List.mem_append.1 hx with h1 | h1
    · exact List.mem_append_left _ (h.sub x h1 y hy)
    · rw [List.mem_singleton] at h1
      subst h1
      exact List.mem_append_right _ ((hF' y).1 hy)
  · rw [List.map_append, List.nodup_append]
    refine ⟨h.once, by simp, fun a ha b hb e => ?_⟩
    simp only [List.map_cons, List.map_nil, List.mem_singleton] at hb
    obtain ⟨x, h1, h2⟩ := List.mem_map.1 ha
    obtain ⟨k2, h3, h4⟩ := h.each x h1
    have hne : ∀ k2, k2 ∈ N → (cls R N k2).headD 0 ∈ cls R N k2 := fun k2 hk2 => by
      have hm : k2 ∈ cls R N k2 := mem_cls.2 ⟨hk2, Mutual.refl k2⟩
      cases hl : cls R N k2 with
      | nil => rw [hl] at hm; simp at hm
      | cons a l => simp
    have h5 : a ∈ S := h.sub x h1 a (by rw [← h2, h4]; exact hne k2 h3)
    have h6 : b ∈ F := by
      have := hne k hkN
      rw [← he, ← hb, hF'] at this
      exact this
    subst e
    have h7 := (hF a).1 h6
    exact hkS (h.mutual h5 h7.symm)
/-- All have been gone through. -/
theorem GrpOk.parts (hN : RiseI N) (hON : ∀ x, x ∈ O ↔ x ∈ N) (h : GrpOk R N O S ps O.length) {ps' : Pts} (hp : ps'.Perm ps) (hs : (ps'.map fun x => x.2.headD 0).Pairwise (· ≤ ·)) : ps'.map (·.2) = partsOf R N := by
  have hmem : ∀ x, x ∈ ps' ↔ x ∈ ps := fun x => hp.mem_iff
  refine parts_of_heads hN (fun p hp2 => ?_) (fun k hk => ?_) ?_
  · obtain ⟨x, h1, rfl⟩ := List.mem_map.1 hp2
    exact h.each x ((hmem x).1 h1)
  · have h1 : k ∈ S := (h.seen k).2 ⟨k, by rw [Nat.sub_self, List.drop_zero]; exact (hON k).2 hk, Mutual.refl k⟩
    obtain ⟨x, h2, h3⟩ := h.all k h1
    exact ⟨x.2, List.mem_map.2 ⟨x, (hmem x).2 h2, rfl⟩, h3⟩
  · rw [List.map_map]
    have hnd : (ps'.map fun x => x.2.headD 0).Nodup := (hp.map _).symm.nodup h.once
    show (ps'.map fun x => x.2.headD 0).Pairwise (· < ·)
    exact (hs.and (List.nodup_iff_pairwise_ne.1 hnd)).imp fun {a b} hab => by
      have h1 := hab.1
      have h2 := hab.2
      omega
end
end Go.Proofs.YthgkloapnihpaaaGreat

/- Graphs: Parts, by a contract: the walk. -/
namespace Go.Proofs.YthgkloapnihpaaaGreat
open Go.RowKit Go.Maps Go.WideMaps Go.WideElems Go.ChangeShapes Go.WideShapes
attribute [local go_sem] Oper.semAt_some

theorem revQ_split {n : Nat} {pre : List (Fin n)} {x : Fin n} (hp : pre.length < n) (h : pre ++ [x] = revQ n (pre ++ [x]).length) : pre = revQ n pre.length ∧ x.val = n - 1 - pre.length := by
  rw [List.length_append, List.length_singleton, revQ_next hp] at h
  obtain ⟨h1, h2⟩ := List.append_inj' h rfl
  refine ⟨h1, ?_⟩
  have := List.cons.inj h2
  rw [this.1]
theorem PtsAt.low {B B' : Nat} {v : Value} {ps : Pts} {W : World} (h : PtsAt B v ps W) (hB : B' ≤ B) : PtsAt B' v ps W :=
  ⟨⟨h.row.1, h.row.2.imp id fun ⟨g, cap, cur, e, hb, r⟩ => ⟨g, cap, cur, e, Nat.le_trans hB hb, r⟩⟩, fun x hx => (h.each x hx).low hB⟩
theorem elem23 : (Tryz.prog.info? 23).map (fun i => (i.zero, i.size, i.bytes)) = some (some (.slice none 0 0), 1, 24) := by kernel_rfl
/-- Between the rounds. -/
structure PtInv (V W0 : World) (n₁ mb b5 : Nat) (R : Int → Int → Prop) (N O : List Int) (pre : List (Fin O.length)) (W : World) : Prop where
  env : Below V.heap.size V W
  kp : KpB n₁ mb b5 W0 W
  ex : ∃ S D v ps, SeenAt mb S.length S D W ∧ S.Nodup ∧ (∀ x ∈ S, x ∈ N) ∧ Boxed W b5 49 v ∧ PtsAt n₁ v ps W ∧ ps.length ≤ pre.length ∧ (∀ x ∈ ps, x.2 ≠ []) ∧ (pre = revQ O.length pre.length → GrpOk R N O S ps pre.length)
theorem box_any (w : World) (t : TypeId) (v : Value) : ∃ W, w.alloc (.cells #[v] t) = W ∧ Hid (Below w.heap.size w W) ∧ Hid (w.heap.size < W.heap.size) ∧ Hid (Boxed W w.heap.size t v) := ⟨_, rfl, (Below.refl _ _).alloc (Nat.le_refl _) _, by show _ < _; simp, Boxed.new w t v⟩
theorem boxed_low {W W' : World} {B : Nat} {t : TypeId} {v : Value} (h : Boxed W B t v) (hb : Below W.heap.size W W') : Boxed W' B t v := (hb.block B h.lt).trans h
theorem res30 (tmps : Array Value) (W : World) (v : Value) (h2 : tmps.getD 2 undef = v) : (results Tryz.f17 tmps).run Tryz.prog W = .ok v W := by
  have h2' : tmps[2]?.getD undef = v := by simpa using h2
  simp [results, Tryz.results17, h2']
theorem leave30 {R : Ending → World → Prop} {a : Act} {w : World} (D : Nat) (v : Value) (hd : a.defers = [{ target := .collected D, args := #[] }]) (hv : a.tmps.getD 2 undef = v) (hK : w.heap[D]? = some (.deferred (some [])))
    (hR : R (.returned v) (w.putObj D (.deferred none))) : bodyPostM Fence.wide 10 Tryz.prog Tryz.f17 R .ret a w := by
  show LeavesInM Fence.wide 10 Tryz.prog Tryz.f17 a.tmps R a.defers .returning w
  rw [hd]
  exact ⟨by simp, .inl ⟨_, _, rfl, run_takeDeferred hK, _, res30 _ _ v hv, hR⟩⟩
set_option maxHeartbeats 128000000 in
set_option maxRecDepth 100000 in
theorem parts_p {Z : Nat → Prop} {B g c : Nat} {N : List Int} {E : List Ed} (hc : c ≤ 100000) (hN : N.length ≤ 500) (w : World) (h : GrAt Z B g c N E w) :
    Calls Tryz.prog 17 #[.pointer (some ⟨g, 0, none⟩)] w fun e w' => ∃ v ps, e = .returned v ∧ Hid (PtsAt w.heap.size v ps w' ∧ ps.map (·.2) = partsOf (EdR E) N ∧ Below w.heap.size w w') := by
  obtain ⟨i0, hi, hz0, hz1, hz2⟩ := info_parts elem23
  have hmm := @run_makeMap Tryz.prog
  have hends : EndsIn N E := by obtain ⟨ob, DO, F, DI, f, h, hZ⟩ := h; exact h.ends
  have hnodes : RiseI N := by obtain ⟨ob, DO, F, DI, f, h, hZ⟩ := h; exact h.nodes
  have Hends := Lib.hid hends
  have Hnodes := Lib.hid hnodes
  have Hfit : Hid (∀ a ∈ N, fit64 a) := by obtain ⟨ob, DO, F, DI, f, h, hZ⟩ := h; exact fun a ha => h.dom.fit a ha
  have HN := Lib.hid hN
  have HT := Lib.hid (turned_any hN w h)
  have HL : Hid (∀ W, Below w.heap.size w W → Calls Tryz.prog 39 #[.pointer (some ⟨g, 0, none⟩)] W fun e w' => ∃ v O, e = .returned v ∧ Hid (IntsO w' W.heap.size v O ∧ DfsOk (EdR E) O [] ∧ (∀ x, x ∈ O ↔ x ∈ N) ∧ Below W.heap.size W w')) := fun W hb => left_any hc hN W (h.below hb)
  clear h hc hN hends hnodes
  refine callsIn_wide.1 (callsIn_of_wp_marks (F := Fence.wide) (n := 10) Tryz.func17 rfl trivial (wpIn_wide.2 ?_) rfl)
  simp only [Tryz.ntmps17, List.size_toArray, List.length_cons, List.length_nil, Nat.reduceAdd, Nat.reduceSub, Array.replicate_succ, Array.replicate_zero, List.push_toArray, List.append_toArray, List.nil_append, List.cons_append]
  go_wp2_with (first
    | (go_at_call 37; (with_reducible refine HT.out.mono ?_); rintro e V ⟨tb, rfl, KT⟩
       obtain ⟨W1, hW1, Hb1, hs1, Hx1⟩ := box_any V 74 (.map (some tb))
       obtain ⟨W2, hW2⟩ : ∃ W, W1.alloc (.map #[] 0) = W := ⟨_, rfl⟩
       have Hg2 : Hid (W1.grownBy W2 none ∧ W1.heap.size < W2.heap.size) := by
         show _ ∧ _
         rw [← hW2]
         exact ⟨World.grownBy_alloc W1 _ none, by simp⟩
       have HS2 : Hid (SeenAt W1.heap.size 0 [] (.map []) W2) := by rw [← hW2]; exact seen_made W1
       obtain ⟨W3, hW3, Hb3, hs3, Hx3⟩ := box_any W2 83 (.map (some W1.heap.size))
       obtain ⟨W4, hW4, Hb4, hs4, Hx4⟩ := box_any W3 49 (.slice none 0 0)
       have HV4 : Hid (Below V.heap.size V W4) := Hb1.out.trans ((grown_of_below Hg2.out.1).mono Hb1.out.size |>.trans ((Hb3.out.mono (Nat.le_trans Hb1.out.size Hg2.out.1.size)).trans (Hb4.out.mono (Nat.le_trans Hb1.out.size (Nat.le_trans Hg2.out.1.size Hb3.out.size)))))
       have HL4 := Lib.hid (HL.out W4 (KT.out.2.1.trans (HV4.out.mono KT.out.2.1.size))))
    | (go_at_call 39; (with_reducible refine HL4.out.mono ?_); rintro e w5 ⟨v13, O, rfl, K5⟩
       obtain ⟨p13, c13, rfl, -, -⟩ := K5.out.1.form
       obtain ⟨W6, hW6, Hb6, hs6, Hx6⟩ := box_any w5 23 (.slice p13 O.length c13)
       have HBk := Lib.hid (backward_any p13 O.length c13 w5)
       rw [hW6] at HBk)
    | (go_at_call 38; (with_reducible refine HBk.out.mono ?_); rintro e w7 ⟨rfl, rfl⟩)
    | go_in)
  have hO1 : V.heap.size < W1.heap.size ∧ W1.heap.size < W2.heap.size ∧ W2.heap.size < W3.heap.size ∧ W3.heap.size < W4.heap.size ∧ W4.heap.size ≤ w5.heap.size ∧ w5.heap.size < W6.heap.size := ⟨hs1.out, Hg2.out.2, hs3.out, hs4.out, K5.out.2.2.2.size, hs6.out⟩
  have HO1 := Lib.hid hO1
  have h46 : Below W4.heap.size W4 W6 := K5.out.2.2.2.trans (Hb6.out.mono K5.out.2.2.2.size)
  have h26 : W2.grownBy W6 none := by
    have h1 : Below W2.heap.size W2 W6 := Hb3.out.trans ((Hb4.out.mono Hb3.out.size).trans (h46.mono (Nat.le_trans Hb3.out.size Hb4.out.size)))
    exact grown_below h1
  have HX3 : Hid (Boxed W6 V.heap.size 74 (.map (some tb))) := (Hx1.out.kept Hg2.out.1 (by simp)).kept h26 (by simp)
  have HX4 : Hid (Boxed W6 W2.heap.size 83 (.map (some W1.heap.size))) := boxed_low (boxed_low Hx3.out Hb4.out) h46
  have HX5 : Hid (Boxed W6 W3.heap.size 49 (.slice none 0 0)) := boxed_low Hx4.out h46
  have HS6 : Hid (SeenAt W1.heap.size 0 [] (.map []) W6) := HS2.out.kept h26 (by simp)
  have HV6 : Hid (Below V.heap.size V W6) := HV4.out.trans (h46.mono HV4.out.size)
  have HOl : Hid (O.length ≤ 500) := by
    have h1 := K5.out.2.1.once
    have h2 := len_le (l := O) (m := N) (by simpa using h1) fun x hx => (K5.out.2.2.1 x).1 hx
    have := HN.out
    show _ ≤ _
    omega
  have hv6 : IntsO W6 W4.heap.size (.slice p13 O.length c13) O := K5.out.1.below Hb6.out
  have hvb : ∀ q, (Value.slice p13 O.length c13).ownBlock = some q → q < W6.heap.size ∧ q ≠ W1.heap.size ∧ q ≠ W3.heap.size := fun q e => by
    have h1 := K5.out.1.lt e
    omega
  have hseq := back_seq (10 - 1) (by decide) w5.heap.size W6.heap.size W1.heap.size W3.heap.size W4.heap.size (.slice p13 O.length c13) O HOl.out W6 (Nat.le_refl _) Hx6.out ⟨by omega, by omega, by omega⟩ hv6 hvb
  have H0 : Hid (PtInv V W6 W6.heap.size W1.heap.size W3.heap.size (EdR E) N O [] W6) := ⟨HV6.out, KpB.refl _ _ _ _, [], .map [], .slice none 0 0, [], HS6.out, by simp, by simp, HX5.out, pts_nil _ _, Nat.le_refl _, by simp, fun _ => GrpOk.zero _ _ _⟩
  clear hO1 h46 h26 hv6 hvb HS2 HS6 HX5 HV6
  refine (wpIn_wide (n := 10)).1 ?_
  apply wpIn_rangeFunc_ownG (F := Fence.wide) (n := 10) rfl (by decide) (gf := 55) (lb := #[.pointer (some ⟨w5.heap.size, 0, none⟩)]) rfl trivial (enters_of Tryz.func55 (by kernel_rfl) rfl)
    hseq (fun h k => h.trans k) (fun W l o o' hl ho hc hw => ⟨by simp [World.putObj], fun k hk _ _ => World.putObj_heap_other (by omega)⟩) (Below.refl _ _) (fun _ => rfl)
    (fun pre W => PtInv V W6 W6.heap.size W1.heap.size W3.heap.size (EdR E) N O pre W) (fun _ _ _ => False)
    (fun pre W W' row h hg hr => by
      have hlo := HO1.out
      obtain ⟨S, D, v, ps, h1, h2, h3, h4, h5, h6⟩ := h.ex
      have hrow : ∀ k, k < W6.heap.size → some k ≠ row := fun k hk e => by
        have := (hr k e.symm).1
        omega
      refine ⟨h.env.grown hg h.env.size (fun q e => by have := (hr q e).1; omega), ⟨Nat.le_trans h.kp.size hg.size, fun k hk a b => (hg.block k (Nat.lt_of_lt_of_le hk h.kp.size) (hrow k hk)).trans (h.kp.block k hk a b)⟩, S, D, v, ps, h1.kept hg (hrow _ (by omega)), h2, h3, h4.kept hg (hrow _ (by omega)), ?_, h6⟩
      refine h5.off (off_of_grown hg) (fun q e e2 => ?_) (fun x hx q e e2 => ?_)
      · obtain ⟨-, o, ho, hc⟩ := hr q e2.symm
        exact row_no h5.row ho hc e
      · obtain ⟨-, o, ho, hc⟩ := hr q e2.symm
        exact (h5.each x hx).no ho hc e)
    (fun _ _ _ _ _ h => h.elim) H0.out
    (fun x => { tmps := #[.pointer (some ⟨g, 0, none⟩), undef, .slice none 0 0, .pointer (some ⟨V.heap.size, 0, none⟩), .pointer (some ⟨W2.heap.size, 0, none⟩), .pointer (some ⟨W3.heap.size, 0, none⟩), undef, iv (O.getD x.val 0), undef, .pointer (some ⟨g, 0, none⟩), .map (some tb), .map (some W1.heap.size), .pointer (some ⟨g, 0, none⟩), .slice p13 O.length c13, .func (.func 55) #[] #[.pointer (some ⟨w5.heap.size, 0, none⟩)], .int .i64 ((x.val : Nat) : Int), iv (O.getD x.val 0), undef, undef, undef, undef, undef, undef, undef, undef, undef, undef, undef, undef, undef, undef, undef, undef], defers := [] })
  case hassign =>
    intro l x W K hK
    generalize O.getD x.val 0 = y at hK ⊢
    gi_wp2
    exact hK
  case hbody =>
    rintro l pre x W hI hlt
    have hlo := HO1.out
    obtain ⟨S, D, v, ps, hS, hSn, hSN, hbx, hps, hpl, hpne, hok⟩ := hI.ex
    have hkN : O.getD x.val 0 ∈ N := (K5.out.2.2.1 _).1 (getD_in x.isLt)
    have Hxv : Hid (∀ j, x.val = j → O.getD x.val 0 = O.getD j 0) := fun j e => by rw [e]
    obtain ⟨k, hk⟩ : ∃ k, O.getD x.val 0 = k := ⟨_, rfl⟩
    rw [hk] at hkN Hxv ⊢
    have hSl : S.length ≤ 500 := by have := len_le hSn hSN; have := HN.out; omega
    have hx3 : Boxed W V.heap.size 74 (.map (some tb)) := (hI.kp.block _ (by omega) (by omega) (by omega)).trans HX3.out
    have hx4 : Boxed W W2.heap.size 83 (.map (some W1.heap.size)) := (hI.kp.block _ (by omega) (by omega) (by omega)).trans HX4.out
    have y3 := hx3.cell
    have y4 := hx4.cell
    have HG := Lib.hid (gather_any V Hends.out KT.out.1 k hkN Hfit.out HN.out (by omega : S.length ≤ 1000) (Nat.le_of_lt hlo.1) W hI.env hS)
    have HI := Lib.hid hI
    have HSn := Lib.hid hSn
    have HSN := Lib.hid hSN
    have Hbx := Lib.hid hbx
    have Hps := Lib.hid hps
    have Hpl := Lib.hid hpl
    have Hpne := Lib.hid hpne
    have Hok := Lib.hid hok
    have HkN := Lib.hid hkN
    have hW : W6.heap.size ≤ W.heap.size := hI.kp.size
    have HW := Lib.hid hW
    clear hS hSn hSN hbx hps hpl hpne hok hI hkN hk hx3 hx4 hW
    gi_wp2_with (first
      | (refine ⟨trivial, ?_⟩; gi_at_call 40; refine (CallsIn.inRound l (callsIn_wide.2 HG.out)).mono ?_; rintro e w8 ⟨v8, F, D8, rfl, K8⟩
         obtain ⟨p8, c8, rfl, -, -⟩ := K8.out.2.1.form
         obtain ⟨f, hf⟩ : ∃ f, F.length = f := ⟨_, rfl⟩
         have Hf := Lib.hid hf
         have hF8 := K8.out.2.1
         rw [hf] at hF8 ⊢
         have HF8 := Lib.hid hF8
         have hfl : f ≤ 500 := by
           have h1 := len_le K8.out.2.2.2.1 K8.out.2.2.2.2.1
           have := HN.out
           omega
         have HS := Lib.hid (sort_o _ _ F w8 hF8 (by omega) K8.out.2.2.2.1)
         have hx8 := Hbx.out.kept K8.out.2.2.1 (by simp; omega)
         obtain ⟨o8, ho8, hc8⟩ := (show ∃ o, W.heap[W1.heap.size]? = some o ∧ o.isCells = false from by
           obtain ⟨S0, D0, -, -, h1, -⟩ := HI.out.ex
           exact h1.obj)
         have hp8 : PtsAt W6.heap.size v ps w8 := Hps.out.keptAt K8.out.2.2.1 ho8 hc8
         have Hx8 := Lib.hid hx8
         have Hp8 := Lib.hid hp8
         have hk8 : KpB W6.heap.size W1.heap.size W3.heap.size W w8 := ⟨K8.out.2.2.1.size, fun q h1 h2 _ => K8.out.2.2.1.block q (Nat.lt_of_lt_of_le h1 HW.out) (by simpa using h2)⟩
         have Hk8 := Lib.hid hk8
         have He8 : Hid (Below V.heap.size V w8) := HI.out.env.grown K8.out.2.2.1 HI.out.env.size (fun q e => by cases e; exact Nat.le_of_lt HO1.out.1)
         clear hF8 hx8 hp8 ho8 hc8 hk8 hf)
      | (refine ⟨trivial, ?_⟩; gi_at_call 41; refine (CallsIn.inRound l (callsIn_wide.2 HS.out)).mono ?_; rintro e w9 ⟨rfl, F', K9⟩
         have hx9 := Hx8.out.kept K9.out.2.2.2.2 (fun e => HF8.out.ne (show w8.heap[W3.heap.size]? = _ from Hx8.out) (fun cur e2 => by cases e2) e.symm)
         have hp9 : PtsAt W6.heap.size v ps w9 := Hp8.out.off (off_of_grown K9.out.2.2.2.2) (fun q e e2 => Hp8.out.apart HF8.out q e e2.symm) (fun y hy q e e2 => by
           have h1 := (HF8.out.lt e2.symm).1
           have h2 := ((Hps.out.each y hy).lt e).2
           omega)
         obtain ⟨pv, cv, hv⟩ := row_sl hp9.row
         rw [hv] at hx9 hp9
         have Hx9 := Lib.hid hx9
         have Hp9 := Lib.hid hp9
         have x9 := hx9.cell
         have hps500 : ps.length ≤ 500 := by have := Hpl.out; have := HOl.out; omega
         clear hx9 hp9)
      | (gi_at_builtin; refine wpListIn_append_own _ rfl _ _ 49 rfl W6.heap.size 23 i0 (.slice none 0 0) 1 24 Tryz.underlying49 hi hz0 hz1 hz2 rfl (by decide) (.slice pv ps.length cv) ps.length (ps.map (·.1)) rfl (Hp9.out.row.alloc _) ⟨w9.heap.size, 0, none⟩ 1 1 [.slice p8 f c8] rfl rfl (news_new w9 #[.slice p8 f c8] 23) (by intro u hu; simp at hu; subst hu; rfl) (by unfold maxLen; omega) (by omega) (by have := HW.out; have := K8.out.2.2.1.size; have := K9.out.2.2.2.2.size; simp; omega) ?_)
      | go_in)
    · intro v10 w10 hown hgrow hnil
      have hf0 : 0 < f := by assumption
      have hA := World.grownBy_alloc w9 (.cells #[.slice p8 f c8] 23) none
      have hx10 : Boxed w10 W3.heap.size 49 (.slice pv ps.length cv) := (Hx9.out.alloc _).kept hgrow (Boxed.not_row Hx9.out (by decide) Hp9.out.row)
      obtain ⟨p10, c10, rfl⟩ := row_sl hown
      have y10 := hx10.cell
      have z10 := hx10.frozen
      have Hown := Lib.hid hown
      have Hgrow := Lib.hid hgrow
      have Hx10 := Lib.hid hx10
      have Hf0 := Lib.hid hf0
      clear hown hgrow hnil hx10 hA hf0
      gi_wp2
      have hA := World.grownBy_alloc w9 (.cells #[.slice p8 f c8] 23) none
      have hap9 : ∀ {v2 : Value} {zs : List Int}, IntsO w9 W6.heap.size v2 zs → IntsO w10 W6.heap.size v2 zs := fun h2 => (h2.alloc (.cells #[.slice p8 f c8] 23)).beside Hgrow.out (fun q e => Hp9.out.apart h2 q e)
      have hset : ∀ q, q ≠ W3.heap.size → ∀ u, (w10.setCell ⟨W3.heap.size, 0, none⟩ u).heap[q]? = w10.heap[q]? := fun q hq u => Below.heap_setCell _ _ _ _ (fun e => hq e)
      have hgs : ∀ u, w10.grownBy (w10.setCell ⟨W3.heap.size, 0, none⟩ u) (some W3.heap.size) := fun u => ⟨rfl, rfl, rfl, by simp [World.setCell], fun q _ hq => hset q (fun e => hq (by rw [e])) u⟩
      have hf9 : IntsO w9 W6.heap.size (.slice p8 f c8) F' := K9.out.2.2.2.1.low HW.out
      have hne3 : ∀ {v2 : Value} {zs : List Int}, IntsO w10 W6.heap.size v2 zs → ∀ u, IntsO (w10.setCell ⟨W3.heap.size, 0, none⟩ u) W6.heap.size v2 zs := fun h2 u => h2.kept (hgs u) (.inr (h2.ne (show w10.heap[W3.heap.size]? = _ from Hx10.out) (fun cur e2 => by cases e2)))
      have hs9 : SeenAt W1.heap.size (S.length + F.length) (S ++ F) D8 w9 := K8.out.1.kept K9.out.2.2.2.2 (fun e => by
        obtain ⟨o, ho, hc⟩ := K8.out.1.obj
        exact HF8.out.no ho hc e.symm)
      have hs10 : SeenAt W1.heap.size (S.length + F.length) (S ++ F) D8 w10 := (hs9.kept hA (by simp)).kept Hgrow.out (fun e => by
        obtain ⟨o, ho, hc⟩ := hs9.obj
        exact row_no Hp9.out.row ho hc e.symm)
      have hlo := HO1.out
      have hW9 := K9.out.2.2.2.2
      have hrow9 : ∀ q, (Value.slice pv ps.length cv).ownBlock = some q → W6.heap.size ≤ q := fun q e => (Hp9.out.row.lt q e).1
      have hrow8 : ∀ q, (Value.slice p8 f c8).ownBlock = some q → W6.heap.size ≤ q := fun q e => Nat.le_trans HW.out (HF8.out.lt e).1
      have hblk : ∀ q, q < W.heap.size → q ≠ W1.heap.size → q ≠ W3.heap.size → some q ≠ (Value.slice pv ps.length cv).ownBlock → ∀ u, (w10.setCell ⟨W3.heap.size, 0, none⟩ u).heap[q]? = W.heap[q]? := fun q h1 h2 h3 h4 u => by
        have e8 := K8.out.2.2.1.size
        have e9 := hW9.size
        refine (hset q h3 u).trans ((Hgrow.out.block q (by simp; omega) h4).trans ((hA.block q (by omega) (by simp)).trans ((hW9.block q (by omega) (fun e => ?_)).trans (K8.out.2.2.1.block q h1 (by simpa using h2)))))
        have := (HF8.out.lt e.symm).1
        omega
      refine ⟨⟨?_, fun q o hq ho hc => ?_⟩, ⟨?_, fun q h1 h2 h3 => ?_⟩, ⟨?_, ?_, S ++ F, D8, .slice p10 (ps.length + 1) c10, ps ++ [(.slice p8 f c8, F')], ?_, ?_, ?_, ?_, ⟨?_, ?_⟩, ?_, ?_, ?_⟩⟩
      · have e8 := K8.out.2.2.1.size
        have e9 := hW9.size
        have e10 := Hgrow.out.size
        simp [World.setCell] at e10 ⊢
        omega
      · have hlt := (Array.getElem?_eq_some_iff.1 ho).1
        by_cases hr : some q = (Value.slice pv ps.length cv).ownBlock
        · exfalso
          obtain ⟨v0, h5⟩ : ∃ v0, PtsAt W6.heap.size v0 ps W ∧ v0 = .slice pv ps.length cv := ⟨_, Hps.out, by assumption⟩
          exact row_no h5.1.row ho hc (by rw [h5.2]; exact hr.symm)
        · exact (hblk q hlt (by omega) (by omega) hr _).trans ho
      · have e8 := K8.out.2.2.1.size
        have e9 := hW9.size
        have e10 := Hgrow.out.size
        simp [World.setCell] at e10 ⊢
        omega
      · exact hblk q (Nat.lt_of_lt_of_le h1 HW.out) h2 h3 (fun e => by have := hrow9 q e.symm; omega) _
      · refine ((He8.out.grown hW9 He8.out.size (fun q e => ?_)).grown hA (by have := He8.out.size; have := hW9.size; omega) (fun q e => by cases e)).grown Hgrow.out (by have := He8.out.size; have := hW9.size; have := hA.size; omega) (fun q e => ?_) |>.grown (hgs _) (by have := He8.out.size; have := hW9.size; have := hA.size; have := Hgrow.out.size; omega) (fun q e => by cases e; omega)
        · have := hrow8 q e
          omega
        · have := hrow9 q e
          omega
      · refine ⟨?_, fun q h1 h2 h3 => ?_⟩
        · have e0 := HI.out.kp.size
          have e8 := K8.out.2.2.1.size
          have e9 := hW9.size
          have e10 := Hgrow.out.size
          simp [World.setCell] at e10 ⊢
          omega
        · exact (hblk q (Nat.lt_of_lt_of_le h1 HW.out) h2 h3 (fun e => by have := hrow9 q e.symm; omega) _).trans (HI.out.kp.block q h1 h2 h3)
      · rw [List.length_append]
        exact hs10.kept (hgs _) (by simp; omega)
      · rw [List.nodup_append]
        refine ⟨HSn.out, K8.out.2.2.2.1, fun a ha b hb e => ?_⟩
        subst e
        obtain ⟨h1, h2⟩ := (K8.out.2.2.2.2.2 a).1 hb
        have h3 : ∀ {k a : Int}, Leads (within (flipR E) fun z => z ∉ S) k a → k ∉ S → a ∉ S := by
          intro k a hl
          induction hl with
          | refl => exact id
          | step g _ ih => exact fun _ => ih g.2.2
        exact h3 h2 h1 ha
      · intro y hy
        rcases List.mem_append.1 hy with h1 | h1
        · exact HSN.out y h1
        · exact K8.out.2.2.2.2.1 y h1
      · exact Hx10.out.set _
      · rw [List.length_append, List.length_singleton, List.map_append]
        refine row_off Hown.out (off_of_grown (hgs _)) (fun q e e2 => ?_)
        have h1 := Boxed.not_row Hx10.out (by decide) Hown.out
        exact h1 (by rw [e]; exact e2.symm ▸ rfl)
      · intro y hy
        rcases List.mem_append.1 hy with h1 | h1
        · exact hne3 (hap9 (Hp9.out.each y h1)) _
        · rw [List.mem_singleton] at h1
          subst h1
          exact hne3 (hap9 hf9) _
      · rw [List.length_append, List.length_append, List.length_singleton, List.length_singleton]
        have := Hpl.out
        omega
      · intro y hy
        rcases List.mem_append.1 hy with h1 | h1
        · exact Hpne.out y h1
        · rw [List.mem_singleton] at h1
          subst h1
          intro e
          have h2 := K9.out.2.2.1
          have e3 : F' = [] := e
          rw [e3, Hf.out] at h2
          have := Hf0.out
          simp at h2
          omega
      · intro hpre
        obtain ⟨h1, h2⟩ := revQ_split hlt hpre
        have hok := Hok.out h1
        have hkq := Hxv.out _ h2
        rw [List.length_append, List.length_singleton]
        obtain ⟨y0, hy0⟩ : ∃ y, y ∈ F := by
          cases hF : F with
          | nil => have := Hf.out; rw [hF] at this; have := Hf0.out; simp at *; omega
          | cons a l => exact ⟨a, by simp⟩
        have hkS := ((K8.out.2.2.2.2.2 y0).1 hy0).1
        have hfound := hok.found K5.out.2.1 K5.out.2.2.1 Hends.out hlt hkq.symm hkS K8.out.2.2.2.2.2
        exact hok.add Hnodes.out hlt hkq.symm HkN.out hkS hfound K8.out.2.2.2.2.1 K9.out.1 K9.out.2.1 _
    · have hf0 : ¬ 0 < f := by assumption
      have hF : F = [] := List.eq_nil_of_length_eq_zero (by have := Hf.out; omega)
      have hs8 := K8.out.1
      rw [hF, List.append_nil, List.length_nil, Nat.add_zero] at hs8
      refine ⟨KeepsFrom.of_grownBy K8.out.2.2.1 (fun q e => by cases e; have := HO1.out; omega), Hk8.out, He8.out, HI.out.kp.trans Hk8.out, S, D8, v, ps, hs8, HSn.out, HSN.out, Hx8.out, Hp8.out, ?_, Hpne.out, fun hpre => ?_⟩
      · rw [List.length_append]
        have := Hpl.out
        omega
      · obtain ⟨h1, h2⟩ := revQ_split hlt hpre
        have hok := Hok.out h1
        have hkq := Hxv.out _ h2
        rw [List.length_append, List.length_singleton]
        refine hok.skip hlt ?_
        rw [← hkq]
        refine Classical.byContradiction fun hkS => ?_
        have := (K8.out.2.2.2.2.2 k).2 ⟨hkS, .refl _⟩
        rw [hF] at this
        simp at this
  case hdone =>
    rintro D xs W hD rfl hI hK
    obtain ⟨S, D2, v, ps, hS, hSn, hSN, hbx, hps, hpl, hpne, hok⟩ := hI.ex
    rw [revQ_len (Nat.le_refl _)] at hpl hok
    have Hok := Lib.hid (hok rfl)
    have Hso := Lib.hid (sort_parts W6.heap.size v ps W hps hpne (by have := HOl.out; omega))
    obtain ⟨pv, cv, hv⟩ := row_sl hps.row
    rw [hv] at hbx Hso hps
    have x5 := hbx.cell
    have Hbx := Lib.hid hbx
    have Hps := Lib.hid hps
    have HI := Lib.hid hI
    have HK := Lib.hid hK
    have HD := Lib.hid hD
    have Hnb : Hid (some W3.heap.size ≠ (Value.slice pv ps.length cv).ownBlock) := Boxed.not_row hbx (by decide) hps.row
    clear hS hSn hSN hbx hps hpl hpne hok hI hK hD
    go_wp2_with (first
      | (go_at_call 42; (with_reducible refine Hso.out.mono ?_); rintro e w9 ⟨rfl, ps', K9⟩
         have x9 := (Hbx.out.kept K9.out.2.2.2 Hnb.out).cell
         have H9 := Lib.hid (Hbx.out.kept K9.out.2.2.2 Hnb.out))
      | go_in)
    have hlo := HO1.out
    have hrow : ∀ q, (Value.slice pv ps.length cv).ownBlock = some q → W6.heap.size ≤ q := fun q e => (Hps.out.row.lt q e).1
    have hk9 : w9.heap[D]? = some (.deferred (some [])) := (K9.out.2.2.2.block D (Array.getElem?_eq_some_iff.1 HK.out).1 (fun e => row_no Hps.out.row HK.out rfl e.symm)).trans HK.out
    refine leave30 D (.slice pv ps.length cv) rfl rfl hk9 ⟨_, ps', rfl, ?_, ?_, ?_⟩
    · have hlw : w.heap.size ≤ W6.heap.size := by have := KT.out.2.1.size; omega
      exact (K9.out.2.2.1.keptAt (grownBy_putObj' w9 D _) hk9 rfl).low hlw
    · exact Hok.out.parts Hnodes.out K5.out.2.2.1 K9.out.1 K9.out.2.1
    · have hV : Below V.heap.size V w9 := HI.out.env.grown K9.out.2.2.2 HI.out.env.size (fun q e => by have := hrow q e; omega)
      exact KT.out.2.1.trans ((hV.grown (grownBy_putObj' w9 D _) hV.size (fun q e => by cases e; have := HD.out; omega)).mono KT.out.2.1.size)
  case hstop =>
    rintro D c pre W hD hSp hI hK
    exact hI.elim
end Go.Proofs.YthgkloapnihpaaaGreat
