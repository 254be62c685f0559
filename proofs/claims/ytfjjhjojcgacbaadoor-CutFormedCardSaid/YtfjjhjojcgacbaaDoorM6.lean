/- Helpers, joined: Mi, Mk, Ml, Mm, Mn, Mo, Mp. -/
import Derived.Test.YtfjjhjojcgacbaaDoorM5
import Derived.OneCell

/- begin: by contracts. -/
namespace Go.Proofs.YtfjjhjojcgacbaaDoor
open Go.RowKit Go.Maps Go.WideMaps Go.WideElems Go.ChangeShapes Go.WideShapes
variable {T : TypeId} {er : Nat → Addr}

theorem busy_cell {V : World} {A t mb eb : Nat} {M : List (Nat × Value)} {busy : List (Option Nat)} {ov rv : Value} {taken : Int} (h : V.heap[A]? = some (.cells (autoC ov taken rv mb (bp M busy 0) (bp M busy 1) (bp M busy 2) (bp M busy 3) (bp M busy 4) (bp M busy 5) (bp M busy 6) (bp M busy 7) eb) 88)) (ht : t < 8) : V.cell? ⟨A, 4 + t, none⟩ = some (.pointer (bp M busy t)) := by
  rcases t with _ | _ | _ | _ | _ | _ | _ | _ | t
  iterate 8 exact (cell_of_row _ _ _ _ _ _ h).trans rfl
  omega

set_option maxHeartbeats 4000000 in
set_option maxRecDepth 100000 in
theorem begin_thread {B A : Nat} {os : List (Int × Int)} {recs : List Rec} {busy : List (Option Nat)} {taken : Nat} {M : List (Nat × Value)} {oa : Option Addr} {oc : Nat} {rv : Value} {mb eb : Nat} (w : World) (h : AutoAt B A os recs busy taken M oa oc rv mb eb w) (hG : Glob T er w) (e : Ev) (hi : ¬ e.tx ∈ recs.map (·.id)) (t : Nat) (ht : e.thread = (t : Int)) (ht8 : t < 8) (p : Addr) (hp : bp M busy t = some p) :
    Calls Tryd.prog 65 #[.pointer (some ⟨A, 0, none⟩), e.agg] w fun en w' => Told T false en ∧ Hid (Below w.heap.size w w') := by
  obtain ⟨W, hW, Hb, hs, Hx⟩ := cells_new w #[.int .i64 e.kind, .int .i64 e.tx, .int .i64 e.thread, .int .i64 e.obj, .int .i64 e.op, .int .i64 e.key, .int .i64 e.val, .int .i64 e.ret] 34
  have HA := Lib.hid (h.keep Hb.out)
  have HX : Hid (∀ V, Below W.heap.size W V → V.heap[w.heap.size]? = some (.cells #[.int .i64 e.kind, .int .i64 e.tx, .int .i64 e.thread, .int .i64 e.obj, .int .i64 e.op, .int .i64 e.key, .int .i64 e.val, .int .i64 e.ret] 34)) := fun V hV => keepB hV Hx.out
  have hgW := hG.below' Hb.out
  obtain ⟨es, hes⟩ : ∃ es, (ents (recs.map (·.id)) (M.map (·.1)) 0).toArray = es := ⟨_, rfl⟩
  have L : ∀ V : World, V.heap[mb]? = some (.map es M.length) → (Instr.lookup 83 (.map (some mb)) (.int .i64 e.tx) true).run Tryd.prog V = .ok (.tuple #[.pointer none, .bool false]) V := fun V hV => map_none under83 zero84 e.tx hV (by rw [← hes]; exact find_off _ _ 0 0 e.tx hi)
  have HS : Hid (∀ V, Below W.heap.size W V → (V.cell? ⟨w.heap.size, 1, none⟩ = some (.int .i64 e.tx) ∧ V.cell? ⟨A, 3, none⟩ = some (.map (some mb))) ∧ V.heap[mb]? = some (.map es M.length)) := fun V hV => ⟨⟨(row_eight (HX.out V hV)).2.1, (cell_of_row _ _ 3 _ _ _ (HA.out.keep hV).auto).trans rfl⟩, by rw [← hes]; exact (HA.out.keep hV).map⟩
  obtain ⟨PB, hPB⟩ : ∃ PB, bp M busy t = PB := ⟨_, rfl⟩
  have HT : Hid (∀ V, Below W.heap.size W V → V.cell? ⟨w.heap.size, 2, none⟩ = some (.int .i64 (t : Int)) ∧ V.cell? ⟨A, 4 + t, none⟩ = some (.pointer PB)) := fun V hV => ⟨by rw [← ht]; exact (row_eight (HX.out V hV)).2.2.1, by rw [← hPB]; exact busy_cell (HA.out.keep hV).auto ht8⟩
  rw [hp] at hPB
  subst hPB
  have g10 := (hgW.below' (stepD (stepD (Below.refl _ W)))).eThread
  have t0 : (0 : Int) ≤ (t : Int) := by omega
  have t1 : (t : Int) < 8 := by omega
  clear h hG hgW hes hi Hx ht hp
  go_enter Tryd.func65, Tryd.ntmps65
  go_wp2_with fail
  go_region_held3 (fun w' => (w'.cell? ⟨w.heap.size, 1, none⟩ = some (.int .i64 e.tx) ∧ w'.cell? ⟨A, 3, none⟩ = some (.map (some mb))) ∧ w'.heap[mb]? = some (.map es M.length))
    (first | (with_reducible exact HS.out _ (stepD (Below.refl _ _))))
    (fail)
  go_wp2_with fail
  go_region_held3 (fun w' => w'.cell? ⟨w.heap.size, 2, none⟩ = some (.int .i64 (t : Int)) ∧ w'.cell? ⟨A, 4 + t, none⟩ = some (.pointer (some p)))
    (first | (with_reducible exact HT.out _ (stepD (stepD (Below.refl _ _)))))
    (fail)
  all_goals
    go_wp2_with fail
    go_ret
    exact ⟨⟨_, rfl⟩, stepB Hb.out (stepD (stepD (Below.refl _ _)))⟩

theorem elem84 : (Tryd.prog.info? 84).map (fun i => (i.zero, i.size, i.bytes)) = some (some (.pointer none), 1, 8) := by kernel_rfl

set_option maxHeartbeats 4000000 in
set_option maxRecDepth 100000 in
theorem begin_ok {B A : Nat} {os : List (Int × Int)} {recs : List Rec} {busy : List (Option Nat)} {taken : Nat} {M : List (Nat × Value)} {oa : Option Addr} {oc : Nat} {rv : Value} {mb eb : Nat} (w : World) (h : AutoAt B A os recs busy taken M oa oc rv mb eb w) (hG : Glob T er w) (e : Ev) (hi : ¬ e.tx ∈ recs.map (·.id)) (t : Nat) (ht : e.thread = (t : Int)) (ht8 : t < 8) (hp : bp M busy t = none) (hM : M.length ≤ 100000) (hbl : t < busy.length) (hbv : ∀ j i, busy.getD j none = some i → i < M.length) :
    Calls Tryd.prog 65 #[.pointer (some ⟨A, 0, none⟩), e.agg] w fun en w' => en = .returned .nilIface ∧ ∃ x rv', Hid (AutoAt B A os (recs ++ [⟨e.tx, (t : Int), 1, (taken : Int), -1, -1, [], 1⟩]) (busy.set t (some M.length)) taken (M ++ [x]) oa oc rv' mb eb w' ∧ Below B w w') := by
  obtain ⟨i0, hi0, hz0, hz1, hz2⟩ := info_parts elem84
  obtain ⟨W, hW, Hb, hs, Hx⟩ := cells_new w #[.int .i64 e.kind, .int .i64 e.tx, .int .i64 e.thread, .int .i64 e.obj, .int .i64 e.op, .int .i64 e.key, .int .i64 e.val, .int .i64 e.ret] 34
  have HA := Lib.hid (h.keep Hb.out)
  have HX : Hid (∀ V, Below W.heap.size W V → V.heap[w.heap.size]? = some (.cells #[.int .i64 e.kind, .int .i64 e.tx, .int .i64 e.thread, .int .i64 e.obj, .int .i64 e.op, .int .i64 e.key, .int .i64 e.val, .int .i64 e.ret] 34)) := fun V hV => keepB hV Hx.out
  have hgW := hG.below' Hb.out
  obtain ⟨es, hes⟩ : ∃ es, (ents (recs.map (·.id)) (M.map (·.1)) 0).toArray = es := ⟨_, rfl⟩
  have L : ∀ V : World, V.heap[mb]? = some (.map es M.length) → (Instr.lookup 83 (.map (some mb)) (.int .i64 e.tx) true).run Tryd.prog V = .ok (.tuple #[.pointer none, .bool false]) V := fun V hV => map_none under83 zero84 e.tx hV (by rw [← hes]; exact find_off _ _ 0 0 e.tx hi)
  have HS : Hid (∀ V, Below W.heap.size W V → (V.cell? ⟨w.heap.size, 1, none⟩ = some (.int .i64 e.tx) ∧ V.cell? ⟨A, 3, none⟩ = some (.map (some mb))) ∧ V.heap[mb]? = some (.map es M.length)) := fun V hV => ⟨⟨(row_eight (HX.out V hV)).2.1, (cell_of_row _ _ 3 _ _ _ (HA.out.keep hV).auto).trans rfl⟩, by rw [← hes]; exact (HA.out.keep hV).map⟩
  obtain ⟨PB, hPB⟩ : ∃ PB, bp M busy t = PB := ⟨_, rfl⟩
  have HT : Hid (∀ V, Below W.heap.size W V → V.cell? ⟨w.heap.size, 2, none⟩ = some (.int .i64 (t : Int)) ∧ V.cell? ⟨A, 4 + t, none⟩ = some (.pointer PB)) := fun V hV => ⟨by rw [← ht]; exact (row_eight (HX.out V hV)).2.2.1, by rw [← hPB]; exact busy_cell (HA.out.keep hV).auto ht8⟩
  rw [hp] at hPB
  subst hPB
  have t0 : (0 : Int) ≤ (t : Int) := by omega
  have t1 : (t : Int) < 8 := by omega
  have HU : Hid (∀ V, Below W.heap.size W V → (V.cell? ⟨w.heap.size, 1, none⟩ = some (.int .i64 e.tx) ∧ V.cell? ⟨w.heap.size, 2, none⟩ = some (.int .i64 (t : Int))) ∧ V.cell? ⟨A, 1, none⟩ = some (.int .i64 (taken : Int))) := fun V hV => ⟨⟨(HS.out V hV).1.1, (HT.out V hV).1⟩, (cell_of_row _ _ 1 _ _ _ (HA.out.keep hV).auto).trans rfl⟩
  obtain ⟨W4, hW4, Hb4, hs4, Hr4⟩ := cells_new W.drew.drew.drew #[.int .i64 e.tx, .int .i64 (t : Int), .int .i64 1, .int .i64 (taken : Int), .int .i64 (-1), .int .i64 (-1), .slice none 0 0, .int .i64 1] 91
  have B4 : Hid (Below W.heap.size W W4) := stepB (stepD (stepD (stepD (Below.refl _ _)))) Hb4.out
  have HR4 : Hid (W4.heap[W.heap.size]? = some (.cells #[.int .i64 e.tx, .int .i64 (t : Int), .int .i64 1, .int .i64 (taken : Int), .int .i64 (-1), .int .i64 (-1), .slice none 0 0, .int .i64 1] 91)) := Hr4.out
  have HA4 := Lib.hid (HA.out.keep B4.out)
  have ca2 : W4.cell? ⟨A, 2, none⟩ = some rv := (cell_of_row _ _ 2 _ _ _ HA4.out.auto).trans rfl
  have Hes := Lib.hid hes
  have Hi := Lib.hid hi
  have Ht := Lib.hid ht
  have Hbl := Lib.hid hbl
  have Hbv := Lib.hid hbv
  have Hbw : Hid (B ≤ w.heap.size) := h.base
  clear h hG hgW hi Hx ht hp hes hbl hbv
  go_enter Tryd.func65, Tryd.ntmps65
  go_wp2_with fail
  go_region_held3 (fun w' => (w'.cell? ⟨w.heap.size, 1, none⟩ = some (.int .i64 e.tx) ∧ w'.cell? ⟨A, 3, none⟩ = some (.map (some mb))) ∧ w'.heap[mb]? = some (.map es M.length))
    (first | (with_reducible exact HS.out _ (stepD (Below.refl _ _))))
    (fail)
  go_wp2_with fail
  go_region_held3 (fun w' => w'.cell? ⟨w.heap.size, 2, none⟩ = some (.int .i64 (t : Int)) ∧ w'.cell? ⟨A, 4 + t, none⟩ = some (.pointer none))
    (first | (with_reducible exact HT.out _ (stepD (stepD (Below.refl _ _)))))
    (fail)
  go_wp2_with fail
  go_region_held3 (fun w' => (w'.cell? ⟨w.heap.size, 1, none⟩ = some (.int .i64 e.tx) ∧ w'.cell? ⟨w.heap.size, 2, none⟩ = some (.int .i64 (t : Int))) ∧ w'.cell? ⟨A, 1, none⟩ = some (.int .i64 (taken : Int)))
    (first | (with_reducible exact HU.out _ (stepD (stepD (stepD (Below.refl _ _))))) | (with_reducible exact HU.out _ B4.out))
    (fail)
  all_goals
    go_wp2_with (first | (at_builtin; refine wpList_append_own _ rfl _ _ 82 rfl B 84 i0 (.pointer none) 1 8 Tryd.underlying82 hi0 hz0 hz1 hz2 rfl (by decide) rv _ _ rfl (row_kept HA4.out.order ((Below.refl _ _).alloc (Nat.le_refl _) _)) ⟨W4.heap.size, 0, none⟩ 1 1 [.pointer (some ⟨W.heap.size, 0, none⟩)] rfl rfl (World.news_of_block (World.alloc_heap_new W4 _)) (by intro u hu; simp at hu; subst hu; rfl) (by unfold maxLen; omega) (by omega) (Nat.le_trans HA4.out.base (by show _ ≤ _; simp)) ?_))
    intro v' w6 hown6 hgrow6 hnil6
    obtain ⟨a6, c6, rfl, -, -⟩ := row_sl hown6
    have HA5 := HA4.out.keep (U := W4.alloc (.cells #[.pointer (some ⟨W.heap.size, 0, none⟩)] 84)) ((Below.refl _ _).alloc (Nat.le_refl _) _)
    have hA6 := keepG hgrow6 (row_off HA5.order HA5.auto (by decide)) HA5.auto
    have hm6 := keepG hgrow6 (row_off_map HA5.order HA5.map) HA5.map
    have hx5 := HX.out (W4.alloc (.cells #[.pointer (some ⟨W.heap.size, 0, none⟩)] 84)) (B4.out.alloc B4.out.size _)
    have hx6 := keepG hgrow6 (row_off HA5.order hx5 (by decide)) hx5
    have c62 : w6.cell? ⟨A, 2, none⟩ = some rv := (cell_of_row _ _ 2 _ _ _ hA6).trans rfl
    have f62 : w6.frozen? ⟨A, 2, none⟩ = false := frozen_of_row _ A 2 _ 88 hA6
    obtain ⟨W7, hW7⟩ : ∃ W7, w6.setCell ⟨A, 2, none⟩ (.slice a6 (M.length + 1) c6) = W7 := ⟨_, rfl⟩
    have hA7 := heap_setCell_same w6 A 2 _ 88 (.slice a6 (M.length + 1) c6) hA6
    have hm7 := keepS (o := 2) (v := .slice a6 (M.length + 1) c6) (ne_kind hA6 hm6) hm6
    have hx7 := keepS (o := 2) (v := .slice a6 (M.length + 1) c6) (ne_of_type hA6 hx6 (by decide)) hx6
    rw [hW7] at hA7 hm7 hx7
    rw [Hes.out] at hm7
    have I8 := map_insert under83 e.tx (.pointer (some ⟨W.heap.size, 0, none⟩)) (V := W7.drew) hm7 (by rw [← Hes.out]; exact find_off _ _ 0 0 e.tx Hi.out)
    obtain ⟨W8, hW8⟩ : ∃ W8, setObjW W7.drew mb (.map (es.push ⟨.int .i64 e.tx, .pointer (some ⟨W.heap.size, 0, none⟩), M.length⟩) (M.length + 1)) = W8 := ⟨_, rfl⟩
    rw [hW8] at I8
    have eA8 : W8.heap[A]? = W7.heap[A]? := by rw [← hW8]; exact setObjW_other _ (ne_kind hA6 hm6).symm
    have hA8 := eA8.trans hA7
    have eX8 : W8.heap[w.heap.size]? = W7.heap[w.heap.size]? := by rw [← hW8]; exact setObjW_other _ (ne_kind hx6 hm6).symm
    have hx8 := eX8.trans hx7
    have HS7 : Hid (W7.drew.cell? ⟨w.heap.size, 1, none⟩ = some (.int .i64 e.tx) ∧ W7.drew.cell? ⟨A, 3, none⟩ = some (.map (some mb))) := ⟨(row_eight (W := W7.drew) hx7).2.1, (cell_of_row W7.drew _ 3 _ _ _ hA7).trans rfl⟩
    have HS8 : Hid (W8.cell? ⟨w.heap.size, 1, none⟩ = some (.int .i64 e.tx) ∧ W8.cell? ⟨A, 3, none⟩ = some (.map (some mb))) := ⟨(row_eight hx8).2.1, (cell_of_row _ _ 3 _ _ _ hA8).trans rfl⟩
    obtain ⟨W9, hW9⟩ : ∃ W9, W8.drew.setCell ⟨A, 4 + t, none⟩ (.pointer (some ⟨W.heap.size, 0, none⟩)) = W9 := ⟨_, rfl⟩
    have c8 := busy_cell (V := W8.drew) hA8 ht8
    have f8 : W8.drew.frozen? ⟨A, 4 + t, none⟩ = false := frozen_of_row W8.drew A (4 + t) _ 88 hA8
    have hx9 := keepS (V := W8.drew) (o := 4 + t) (v := .pointer (some ⟨W.heap.size, 0, none⟩)) (ne_of_type (W := W8.drew) hA8 hx8 (by decide)) hx8
    rw [hW9] at hx9
    have HT8 : Hid (W8.drew.cell? ⟨w.heap.size, 2, none⟩ = some (.int .i64 (t : Int))) := by show _ = _; rw [← Ht.out]; exact (row_eight (W := W8.drew) hx8).2.2.1
    have HT9 : Hid (W9.cell? ⟨w.heap.size, 2, none⟩ = some (.int .i64 (t : Int))) := by show _ = _; rw [← Ht.out]; exact (row_eight hx9).2.2.1
    have HF := Lib.hid (HA5.begun (rb := W.heap.size) (t := t) (r := ⟨e.tx, (t : Int), 1, (taken : Int), -1, -1, [], 1⟩) hgrow6 hown6 HA.out.base (keepB ((Below.refl _ _).alloc (Nat.le_refl _) _) HR4.out) rfl (fun j m2 hm2 => by
      have hj : j < recs.length := by rw [HA.out.len]; exact (List.getElem?_eq_some_iff.1 hm2).1
      exact Nat.ne_of_lt (Array.getElem?_eq_some_iff.1 (HA.out.one j _ m2 (List.getElem?_eq_getElem hj) hm2).2.1).1) ht8 Hbl.out Hbv.out (U5 := W9) (by rw [← hW9, ← hW8, ← hW7, ← Hes.out]))
    have HD : Hid (Below B w W9) := by
      have D5 : Below B w (W4.alloc (.cells #[.pointer (some ⟨W.heap.size, 0, none⟩)] 84)) := ((Hb.out.mono Hbw.out).trans (B4.out.mono HA.out.base)).alloc HA4.out.base _
      have D6 := D5.grown hgrow6 HA5.base (fun k e => (HA5.order.lt k e).1)
      show Below _ _ _
      rw [← hW9, ← hW8, ← hW7]
      exact ((D6.setCell (p := ⟨A, 2, none⟩) HA5.low.1.1 _).drew.trans (setObjW_below _ HA5.low.1.2)).drew.setCell (p := ⟨A, 4 + t, none⟩) HA5.low.1.1 _
    clear hown6 hgrow6 hnil6 HA5 hA6 hm6 hx5 hx6 hA7 hm7 hx7 eA8 eX8 hA8 hx8 hx9
    go_wp2_with fail
    go_region_held3 (fun w' => w'.cell? ⟨w.heap.size, 1, none⟩ = some (.int .i64 e.tx) ∧ w'.cell? ⟨A, 3, none⟩ = some (.map (some mb)))
      (first | (with_reducible exact HS7.out) | (with_reducible exact HS8.out))
      (fail)
    go_wp2_with fail
    go_region_held3 (fun w' => w'.cell? ⟨w.heap.size, 2, none⟩ = some (.int .i64 (t : Int)))
      (first | (with_reducible exact HT8.out) | (with_reducible exact HT9.out))
      (fail)
    go_wp2_with fail
    go_ret
    exact ⟨rfl, _, _, HF.out, HD.out⟩
end Go.Proofs.YtfjjhjojcgacbaaDoor

/- An automaton that takes a call: a record's deeds grow. -/
namespace Go.Proofs.YtfjjhjojcgacbaaDoor
open Go.RowKit Go.Maps Go.WideMaps Go.WideElems Go.ChangeShapes Go.WideShapes
variable {T : TypeId} {er : Nat → Addr}

theorem EffAt.carry2 {B eb : Nat} {V U : World} (h : EffAt B eb V) (hc : ∀ (k : Nat) (cs : Array Value) (t : TypeId), t ≠ 75 → t ≠ 91 → V.heap[k]? = some (.cells cs t) → U.heap[k]? = some (.cells cs t)) (hm : ∀ (es : Array MapEntry) (n : Nat), V.heap[eb]? = some (.map es n) → U.heap[eb]? = some (.map es n)) : EffAt B eb U := by
  obtain ⟨p2, q2, p3, q3, p4, q4, p5, q5, p6, q6, p7, q7, h0, ⟨⟨a2, b2⟩, c2, d2⟩, ⟨⟨a3, b3⟩, c3, d3⟩, ⟨⟨a4, b4⟩, c4, d4⟩, ⟨⟨a5, b5⟩, c5, d5⟩, ⟨⟨a6, b6⟩, c6, d6⟩, ⟨⟨a7, b7⟩, c7, d7⟩⟩ := h
  exact ⟨p2, q2, p3, q3, p4, q4, p5, q5, p6, q6, p7, q7, hm _ _ h0, ⟨⟨a2, hc _ _ _ (by decide) (by decide) b2⟩, c2, hc _ _ _ (by decide) (by decide) d2⟩, ⟨⟨a3, hc _ _ _ (by decide) (by decide) b3⟩, c3, hc _ _ _ (by decide) (by decide) d3⟩, ⟨⟨a4, hc _ _ _ (by decide) (by decide) b4⟩, c4, hc _ _ _ (by decide) (by decide) d4⟩, ⟨⟨a5, hc _ _ _ (by decide) (by decide) b5⟩, c5, hc _ _ _ (by decide) (by decide) d5⟩, ⟨⟨a6, hc _ _ _ (by decide) (by decide) b6⟩, c6, hc _ _ _ (by decide) (by decide) d6⟩, ⟨⟨a7, hc _ _ _ (by decide) (by decide) b7⟩, c7, hc _ _ _ (by decide) (by decide) d7⟩⟩
theorem set_fst {M : List (Nat × Value)} {i : Nat} {m : Nat × Value} (hm : M[i]? = some m) (x : Value) {α : Type} (f : Nat → α) (k : Nat) : (M.set i (m.1, x))[k]?.map (fun m => f m.1) = M[k]?.map (fun m => f m.1) := by
  rw [List.getElem?_set]
  split
  · rename_i e
    subst e
    rw [if_pos (List.getElem?_eq_some_iff.1 hm).1, hm]
    rfl
  · rfl
theorem set_fst_map {M : List (Nat × Value)} {i : Nat} {m : Nat × Value} (hm : M[i]? = some m) (x : Value) {α : Type} (f : Nat → α) : (M.set i (m.1, x)).map (fun m => f m.1) = M.map (fun m => f m.1) := by
  apply List.ext_getElem?
  intro k
  rw [List.getElem?_map, List.getElem?_map]
  exact set_fst hm x f k
theorem bp_same {M : List (Nat × Value)} {i : Nat} {m : Nat × Value} (hm : M[i]? = some m) (x : Value) (busy : List (Option Nat)) (j : Nat) : bp (M.set i (m.1, x)) busy j = bp M busy j := by
  unfold bp
  cases busy.getD j none with
  | none => rfl
  | some k => exact set_fst hm x (fun b => (⟨b, 0, none⟩ : Addr)) k

theorem AutoAt.dealt {B A : Nat} {os : List (Int × Int)} {recs : List Rec} {busy : List (Option Nat)} {taken : Nat} {M : List (Nat × Value)} {oa : Option Addr} {oc : Nat} {rv : Value} {mb eb : Nat} {V : World} (h : AutoAt B A os recs busy taken M oa oc rv mb eb V) {U : World} {i g c n : Nat} {r : Rec} {m : Nat × Value} {ys : List Value} (hi : recs[i]? = some r) (hm : M[i]? = some m) (hg : V.grownBy U m.2.ownBlock) (hown : U.ownsRow B 75 8 (.slice (some ⟨g, 0, none⟩) n c) n ys) (hat : m.2.ownBlock = some g ∨ g = V.heap.size)
    (r' : Rec) (hn : r'.ds.length = n) (hys : deeds r'.ds = ys) (hc : (r.cells m.2).setIfInBounds 6 (.slice (some ⟨g, 0, none⟩) n c) = r'.cells (.slice (some ⟨g, 0, none⟩) n c)) (hid : r'.id = r.id) :
    AutoAt B A os (recs.set i r') busy taken (M.set i (m.1, .slice (some ⟨g, 0, none⟩) n c)) oa oc rv mb eb (U.setCell ⟨m.1, 6, none⟩ (.slice (some ⟨g, 0, none⟩) n c)) := by
  obtain ⟨h1, h2, h3⟩ := h.one i r m hi hm
  have hil : i < recs.length := (List.getElem?_eq_some_iff.1 hi).1
  have hiM : i < M.length := (List.getElem?_eq_some_iff.1 hm).1
  have hR := keepG hg (row_off h3 h2 (by decide)) h2
  have CU : ∀ (k : Nat) (cs : Array Value) (t : TypeId), t ≠ 75 → t ≠ 91 → V.heap[k]? = some (.cells cs t) → (U.setCell ⟨m.1, 6, none⟩ (.slice (some ⟨g, 0, none⟩) n c)).heap[k]? = some (.cells cs t) := by
    intro k cs t t1 t2 hk
    have hkU := keepG hg (row_off h3 hk t1) hk
    exact keepS (ne_of_type hR hkU (Ne.symm t2)) hkU
  have CM : ∀ (k : Nat) (es : Array MapEntry) (n' : Nat), V.heap[k]? = some (.map es n') → (U.setCell ⟨m.1, 6, none⟩ (.slice (some ⟨g, 0, none⟩) n c)).heap[k]? = some (.map es n') := by
    intro k es n' hk
    have hkU := keepG hg (row_off_map h3 hk) hk
    exact keepS (ne_kind hR hkU) hkU
  refine ⟨?_, h.low, row_carry h.objs (fun k cs => CU k cs _ (by decide) (by decide)), ?_, ?_, h.eff.carry2 CU (CM eb), by simp [h.len], ?_, ?_, h.two⟩
  · simp only [bp_same hm]
    exact CU _ _ _ (by decide) (by decide) h.auto
  · rw [List.length_set, set_fst_map hm _ (fun b => Value.pointer (some ⟨b, 0, none⟩))]
    exact row_carry h.order (fun k cs => CU k cs _ (by decide) (by decide))
  · rw [set_map hi hid, List.length_set, set_fst_map hm _ (fun b => b)]
    exact CM _ _ _ h.map
  · intro j r2 m2 hj hm2
    by_cases e : i = j
    · subst e
      rw [List.getElem?_set_self hil] at hj
      rw [List.getElem?_set_self hiM] at hm2
      injection hj with hj
      injection hm2 with hm2
      subst hj hm2
      refine ⟨h1, ?_, ?_⟩
      · have := heap_setCell_same U m.1 6 _ 91 (.slice (some ⟨g, 0, none⟩) n c) hR
        rw [hc] at this
        exact this
      · rw [hn, hys]
        exact row_setOff hown hR (by decide) _
    · rw [List.getElem?_set, if_neg e] at hj
      rw [List.getElem?_set, if_neg e] at hm2
      obtain ⟨g1, g2, g3⟩ := h.one j r2 m2 hj hm2
      have hap := h.apart i j m m2 e hm hm2
      refine ⟨g1, keepS hap.1 (keepG hg (row_off h3 g2 (by decide)) g2), ?_⟩
      refine row_setOff ⟨g3.1, g3.2.imp id ?_⟩ hR (by decide) _
      rintro ⟨gj, cap, cur, hvj, hB, hgj, rest⟩
      refine ⟨gj, cap, cur, hvj, hB, keepG hg (fun e2 => hap.2 gj e2 (by rw [hvj]; rfl)) hgj, rest⟩
  · intro j k mj mk hjk hj hk
    have old : ∀ (l : Nat) (ml : Nat × Value), i ≠ l → M[l]? = some ml → m.1 ≠ ml.1 ∧ ml.2.ownBlock ≠ some g := by
      intro l ml hl hml
      have hap := h.apart i l m ml hl hm hml
      refine ⟨hap.1, fun e2 => ?_⟩
      rcases hat with hat | hat
      · exact hap.2 g hat e2
      · have hll : l < recs.length := by rw [h.len]; exact (List.getElem?_eq_some_iff.1 hml).1
        have := ((h.one l _ ml (List.getElem?_eq_getElem hll) hml).2.2.lt g e2).2
        omega
    rw [List.getElem?_set] at hj hk
    split at hj
    · rename_i ej
      subst ej
      injection hj with hj
      subst hj
      rw [if_neg hjk] at hk
      obtain ⟨o1, o2⟩ := old k mk hjk hk
      refine ⟨o1, fun g' e1 e2 => o2 ?_⟩
      have : g = g' := by simpa [Value.ownBlock] using e1
      rw [this]
      exact e2
    · rename_i ej
      split at hk
      · rename_i ek
        subst ek
        injection hk with hk
        subst hk
        obtain ⟨o1, o2⟩ := old j mj ej hj
        refine ⟨o1.symm, fun g' e1 e2 => o2 ?_⟩
        have : g = g' := by simpa [Value.ownBlock] using e2
        rw [this]
        exact e1
      · exact h.apart j k mj mk hjk hj hk
end Go.Proofs.YtfjjhjojcgacbaaDoor

/- call: by a contract. -/
namespace Go.Proofs.YtfjjhjojcgacbaaDoor
open Go.RowKit Go.Maps Go.WideMaps Go.WideElems Go.ChangeShapes Go.WideShapes
variable {T : TypeId} {er : Nat → Addr}

abbrev zeroDeed : Value := .agg #[.int .i64 0, .int .i64 0, .int .i64 0, .int .i64 0, .int .i64 0, .int .i64 0, .int .i64 0, .int .i64 0]
theorem elem75 : (Tryd.prog.info? 75).map (fun i => (i.zero, i.size, i.bytes)) = some (some zeroDeed, 8, 64) := by kernel_rfl

set_option maxHeartbeats 4000000 in
set_option maxRecDepth 100000 in
theorem call_ok {B A : Nat} {os : List (Int × Int)} {recs : List Rec} {busy : List (Option Nat)} {taken : Nat} {M : List (Nat × Value)} {oa : Option Addr} {oc : Nat} {rv : Value} {mb eb : Nat} (w : World) (h : AutoAt B A os recs busy taken M oa oc rv mb eb w) {i : Nat} {r : Rec} {m : Nat × Value} (hi : recs[i]? = some r) (hm : M[i]? = some m) (hds : r.ds.length ≤ 100000) (e : Ev) :
    Calls Tryd.prog 67 #[.pointer (some ⟨A, 0, none⟩), .pointer (some ⟨m.1, 0, none⟩), e.agg] w fun en w' => en = .returned .nilIface ∧ ∃ x, Hid (AutoAt B A os (recs.set i { r with phase := 2, ds := r.ds ++ [⟨e.obj, e.op, e.key, e.val, 0, 0, (taken : Int), -1⟩] }) busy taken (M.set i (m.1, x)) oa oc rv mb eb w' ∧ Below B w w') := by
  obtain ⟨i0, hi0, hz0, hz1, hz2⟩ := info_parts elem75
  obtain ⟨W, hW, Hb, hs, Hx⟩ := cells_new w #[.int .i64 e.kind, .int .i64 e.tx, .int .i64 e.thread, .int .i64 e.obj, .int .i64 e.op, .int .i64 e.key, .int .i64 e.val, .int .i64 e.ret] 34
  have hl : i < recs.length := (List.getElem?_eq_some_iff.1 hi).1
  have H0 := h.keep Hb.out
  have hr := H0.row hi hm
  have c7 : W.cell? ⟨m.1, 7, none⟩ = some (.int .i64 r.phase) := (cell_of_row _ _ 7 _ _ _ hr).trans rfl
  have f7 : W.frozen? ⟨m.1, 7, none⟩ = false := frozen_of_row _ m.1 7 _ 91 hr
  obtain ⟨W1, hW1⟩ : ∃ W1, W.setCell ⟨m.1, 7, none⟩ (.int .i64 2) = W1 := ⟨_, rfl⟩
  have H1 : AutoAt B A os (recs.set i { r with phase := 2 }) busy taken M oa oc rv mb eb W1 := hW1 ▸ H0.setRec (o := 7) hi hm { r with phase := 2 } (.int .i64 2) rfl rfl rfl
  have hx1 := keepS (o := 7) (v := .int .i64 2) (ne_of_type hr Hx.out (by decide)) Hx.out
  rw [hW1] at hx1
  have hi1 : (recs.set i { r with phase := 2 })[i]? = some { r with phase := 2 } := by rw [List.getElem?_set_self hl]
  have Hi2 := Lib.hid hi1
  have Hm := Lib.hid hm
  have Hds := Lib.hid hds
  obtain ⟨W2, hW2, Hb2, hs2, Hr2⟩ := cells_new W1.drew (#[.int .i64 e.obj, .int .i64 e.op, .int .i64 e.key, .int .i64 e.val, .int .i64 0, .int .i64 0, .int .i64 (taken : Int), .int .i64 (-1)] : Array Value) 75
  have Hr2' : Hid (W2.heap[W1.heap.size]? = some (.cells #[.int .i64 e.obj, .int .i64 e.op, .int .i64 e.key, .int .i64 e.val, .int .i64 0, .int .i64 0, .int .i64 (taken : Int), .int .i64 (-1)] 75)) := Hr2.out
  have B12 : Hid (Below W1.heap.size W1 W2) := stepB (stepD (Below.refl _ _)) Hb2.out
  have HA2 := Lib.hid (H1.keep B12.out)
  have HR2 : Hid (W2.ownsRow B 75 8 m.2 r.ds.length (deeds r.ds)) := (HA2.out.one i _ m hi1 hm).2.2
  have HM2 := Lib.hid (HA2.out.row hi1 hm)
  have Hx2 := Lib.hid (keepB B12.out hx1)
  have Hc6 : Hid (W1.drew.cell? ⟨m.1, 6, none⟩ = some m.2) := (cell_of_row W1 _ 6 _ _ _ (H1.row hi1 hm)).trans rfl
  have Hbm : Hid (B ≤ m.1) := (h.one i r m hi hm).1
  have HBw2 : Hid (Below B w W2) := by
    have D1 : Below B w W1 := hW1 ▸ (Hb.out.mono h.base).setCell (p := ⟨m.1, 7, none⟩) Hbm.out _
    exact D1.trans (B12.out.mono H1.base)
  have HS1 : Hid ((W1.drew.cell? ⟨w.heap.size, 3, none⟩ = some (.int .i64 e.obj) ∧ W1.drew.cell? ⟨w.heap.size, 4, none⟩ = some (.int .i64 e.op) ∧ W1.drew.cell? ⟨w.heap.size, 5, none⟩ = some (.int .i64 e.key) ∧ W1.drew.cell? ⟨w.heap.size, 6, none⟩ = some (.int .i64 e.val)) ∧ W1.drew.cell? ⟨A, 1, none⟩ = some (.int .i64 (taken : Int))) := ⟨⟨(row_eight hx1).2.2.2.1, (row_eight hx1).2.2.2.2.1, (row_eight hx1).2.2.2.2.2.1, (row_eight hx1).2.2.2.2.2.2.1⟩, (cell_of_row W1 _ 1 _ _ _ H1.auto).trans rfl⟩
  have HS2 : Hid ((W2.cell? ⟨w.heap.size, 3, none⟩ = some (.int .i64 e.obj) ∧ W2.cell? ⟨w.heap.size, 4, none⟩ = some (.int .i64 e.op) ∧ W2.cell? ⟨w.heap.size, 5, none⟩ = some (.int .i64 e.key) ∧ W2.cell? ⟨w.heap.size, 6, none⟩ = some (.int .i64 e.val)) ∧ W2.cell? ⟨A, 1, none⟩ = some (.int .i64 (taken : Int))) := ⟨⟨(row_eight Hx2.out).2.2.2.1, (row_eight Hx2.out).2.2.2.2.1, (row_eight Hx2.out).2.2.2.2.2.1, (row_eight Hx2.out).2.2.2.2.2.2.1⟩, (cell_of_row _ _ 1 _ _ _ HA2.out.auto).trans rfl⟩
  clear h hi hm hr H0 H1 hi1 hl hx1 hds Hx
  go_enter Tryd.func67, Tryd.ntmps67
  go_wp2_with fail
  refine wp_region_held_drew (S := (fun w' => (w'.cell? ⟨w.heap.size, 3, none⟩ = some (.int .i64 e.obj) ∧ w'.cell? ⟨w.heap.size, 4, none⟩ = some (.int .i64 e.op) ∧ w'.cell? ⟨w.heap.size, 5, none⟩ = some (.int .i64 e.key) ∧ w'.cell? ⟨w.heap.size, 6, none⟩ = some (.int .i64 e.val)) ∧ w'.cell? ⟨A, 1, none⟩ = some (.int .i64 (taken : Int)))) (by kernel_rfl) HS1.out (fun hHeld => ?_)
  refine held_take 0 (some 10) ?_ rfl rfl (by kernel_rfl) (by kernel_rfl) (by kernel_rfl) (fun _ _ _ h => h) (by kernel_rfl) ?_ (by assumption) ?_
  rotate_left
  · intro w hSw; (try dsimp only at hSw); go_simp <;> (try with_reducible rfl)
  simp only [Act.put, List.setIfInBounds_toArray, List.set_cons_zero, List.set_cons_succ]
  refine held_take 1 (some 11) ?_ rfl rfl (by kernel_rfl) (by kernel_rfl) (by kernel_rfl) (fun _ _ _ h => h) (by kernel_rfl) ?_ (by assumption) ?_
  rotate_left
  · intro w hSw; (try dsimp only at hSw); go_simp <;> (try with_reducible rfl)
  simp only [Act.put, List.setIfInBounds_toArray, List.set_cons_zero, List.set_cons_succ]
  refine held_take 2 (some 12) ?_ rfl rfl (by kernel_rfl) (by kernel_rfl) (by kernel_rfl) (fun _ _ _ h => h) (by kernel_rfl) ?_ (by assumption) ?_
  rotate_left
  · intro w hSw; (try dsimp only at hSw); go_simp <;> (try with_reducible rfl)
  simp only [Act.put, List.setIfInBounds_toArray, List.set_cons_zero, List.set_cons_succ]
  refine held_take 3 (some 13) ?_ rfl rfl (by kernel_rfl) (by kernel_rfl) (by kernel_rfl) (fun _ _ _ h => h) (by kernel_rfl) ?_ (by assumption) ?_
  rotate_left
  · intro w hSw; (try dsimp only at hSw); go_simp <;> (try with_reducible rfl)
  simp only [Act.put, List.setIfInBounds_toArray, List.set_cons_zero, List.set_cons_succ]
  refine held_take 4 (some 14) ?_ rfl rfl (by kernel_rfl) (by kernel_rfl) (by kernel_rfl) (fun _ _ _ h => h) (by kernel_rfl) ?_ (by assumption) ?_
  rotate_left
  · intro w hSw; (try dsimp only at hSw); go_simp <;> (try with_reducible rfl)
  simp only [Act.put, List.setIfInBounds_toArray, List.set_cons_zero, List.set_cons_succ]
  refine held_take 6 (some 16) ?_ rfl rfl (by kernel_rfl) (by kernel_rfl) (by kernel_rfl) (fun _ _ _ h => h) (by kernel_rfl) ?_ (by assumption) ?_
  rotate_left
  · intro w hSw; (try dsimp only at hSw); go_simp <;> (try with_reducible rfl)
  simp only [Act.put, List.setIfInBounds_toArray, List.set_cons_zero, List.set_cons_succ]
  refine held_take 7 (some 17) ?_ rfl rfl (by kernel_rfl) (by kernel_rfl) (by kernel_rfl) (fun _ _ _ h => h) (by kernel_rfl) ?_ (by assumption) ?_
  rotate_left
  · intro w hSw; (try dsimp only at hSw); go_simp <;> (try with_reducible rfl)
  simp only [Act.put, List.setIfInBounds_toArray, List.set_cons_zero, List.set_cons_succ]
  refine held_take 8 (some 18) ?_ rfl rfl (by kernel_rfl) (by kernel_rfl) (by kernel_rfl) (fun _ _ _ h => h) (by kernel_rfl) ?_ (by assumption) ?_
  rotate_left
  · intro w hSw; (try dsimp only at hSw); go_simp <;> (try with_reducible rfl)
  simp only [Act.put, List.setIfInBounds_toArray, List.set_cons_zero, List.set_cons_succ]
  refine held_take 9 (some 19) ?_ rfl rfl (by kernel_rfl) (by kernel_rfl) (by kernel_rfl) (fun _ _ _ h => h) (by kernel_rfl) ?_ (by assumption) ?_
  rotate_left
  · intro w hSw; (try dsimp only at hSw); go_simp <;> (try with_reducible rfl)
  simp only [Act.put, List.setIfInBounds_toArray, List.set_cons_zero, List.set_cons_succ]
  refine held_take 10 (some 20) ?_ rfl rfl (by kernel_rfl) (by kernel_rfl) (by kernel_rfl) (fun _ _ _ h => h) (by kernel_rfl) ?_ (by assumption) ?_
  rotate_left
  · intro w hSw; (try dsimp only at hSw); go_simp <;> (try with_reducible rfl)
  simp only [Act.put, List.setIfInBounds_toArray, List.set_cons_zero, List.set_cons_succ]
  refine held_take 11 (some 21) ?_ rfl rfl (by kernel_rfl) (by kernel_rfl) (by kernel_rfl) (fun _ _ _ h => h) (by kernel_rfl) ?_ (by assumption) ?_
  rotate_left
  · intro w hSw; (try dsimp only at hSw); go_simp <;> (try with_reducible rfl)
  simp only [Act.put, List.setIfInBounds_toArray, List.set_cons_zero, List.set_cons_succ]
  refine held_take 12 (some 22) ?_ rfl rfl (by kernel_rfl) (by kernel_rfl) (by kernel_rfl) (fun _ _ _ h => h) (by kernel_rfl) ?_ (by assumption) ?_
  rotate_left
  · intro w hSw; (try dsimp only at hSw); go_simp <;> (try with_reducible rfl)
  simp only [Act.put, List.setIfInBounds_toArray, List.set_cons_zero, List.set_cons_succ]
  refine held_take 13 (some 23) ?_ rfl rfl (by kernel_rfl) (by kernel_rfl) (by kernel_rfl) (fun _ _ _ h => h) (by kernel_rfl) ?_ (by assumption) ?_
  rotate_left
  · intro w hSw; (try dsimp only at hSw); go_simp <;> (try with_reducible rfl)
  simp only [Act.put, List.setIfInBounds_toArray, List.set_cons_zero, List.set_cons_succ]
  refine held_take 14 (some 24) ?_ rfl rfl (by kernel_rfl) (by kernel_rfl) (by kernel_rfl) (fun _ _ _ h => h) (by kernel_rfl) ?_ (by assumption) ?_
  rotate_left
  · intro w hSw; (try dsimp only at hSw); go_simp <;> (try with_reducible rfl)
  simp only [Act.put, List.setIfInBounds_toArray, List.set_cons_zero, List.set_cons_succ]
  refine held_take 15 (some 25) ?_ rfl rfl (by kernel_rfl) (by kernel_rfl) (by kernel_rfl) (fun _ _ _ h => h) (by kernel_rfl) ?_ (by assumption) ?_
  rotate_left
  · intro w hSw; (try dsimp only at hSw); go_simp <;> (try with_reducible rfl)
  simp only [Act.put, List.setIfInBounds_toArray, List.set_cons_zero, List.set_cons_succ]
  refine held_take 16 (some 26) ?_ rfl rfl (by kernel_rfl) (by kernel_rfl) (by kernel_rfl) (fun _ _ _ h => h) (by kernel_rfl) ?_ (by assumption) ?_
  rotate_left
  · intro w hSw; (try dsimp only at hSw); go_simp <;> (try with_reducible rfl)
  simp only [Act.put, List.setIfInBounds_toArray, List.set_cons_zero, List.set_cons_succ]
  refine held_take 17 (some 27) ?_ rfl rfl (by kernel_rfl) (by kernel_rfl) (by kernel_rfl) (fun _ _ _ h => h) (by kernel_rfl) ?_ (by assumption) ?_
  rotate_left
  · intro w hSw; (try dsimp only at hSw); go_simp <;> (try with_reducible rfl)
  simp only [Act.put, List.setIfInBounds_toArray, List.set_cons_zero, List.set_cons_succ]
  refine held_take 18 (some 28) ?_ rfl rfl (by kernel_rfl) (by kernel_rfl) (by kernel_rfl) (fun _ _ _ h => h) (by kernel_rfl) ?_ (by assumption) ?_
  rotate_left
  · intro w hSw; (try dsimp only at hSw); go_simp <;> (try with_reducible rfl)
  simp only [Act.put, List.setIfInBounds_toArray, List.set_cons_zero, List.set_cons_succ]
  refine wpAnyH_ready (rs := [5, 19]) (by kernel_rfl) (by simp) (AllReadyH.cons rfl (fun K hK => ?_) (AllReadyH.cons rfl (fun K hK => ?_) AllReadyH.nil))
  · have s1d : W1.drew.cell? ⟨m.1, 6, none⟩ = some m.2 := Hc6.out
    go_simp
    refine hK.out _ _ HS1.out (fun hHeld => ?_)
    clear hK K
    try simp only [Act.put, List.setIfInBounds_toArray, List.set_cons_zero, List.set_cons_succ]
    refine wpAnyH_ready (rs := [19]) (by kernel_rfl) (by simp) (AllReadyH.cons rfl (fun K hK => ?_) AllReadyH.nil)
    go_simp
    try rw [hW2]
    refine hK.out _ _ HS2.out (fun hHeld => ?_)
    clear hK K
    try simp only [Act.put, List.setIfInBounds_toArray, List.set_cons_zero, List.set_cons_succ]
    refine wpAnyH_ready (rs := [20]) (by kernel_rfl) (by simp) (AllReadyH.cons rfl (fun K hK => ?_) AllReadyH.nil)
    refine step_append_lies _ rfl _ _ 55 rfl B 75 i0 zeroDeed 8 64 Tryd.underlying55 hi0 hz0 hz1 hz2 rfl (by decide) m.2 _ _ rfl HR2.out ⟨W1.heap.size, 0, none⟩ 1 1 [.int .i64 e.obj, .int .i64 e.op, .int .i64 e.key, .int .i64 e.val, .int .i64 0, .int .i64 0, .int .i64 (taken : Int), .int .i64 (-1)] rfl rfl (World.news_of_block Hr2'.out) (by intro u hu; simp only [List.mem_cons, List.not_mem_nil, or_false] at hu; rcases hu with rfl | rfl | rfl | rfl | rfl | rfl | rfl | rfl <;> rfl) (by decide) (by unfold maxLen; have := Hds.out; omega) (by have := Hds.out; omega) HA2.out.base _ rfl ?_
    intro g c w3 hown3 hgrow3 hat3 hlt3
    have hA3 := keepG hgrow3 (row_off HR2.out HA2.out.auto (by decide)) HA2.out.auto
    have hx3 := keepG hgrow3 (row_off HR2.out Hx2.out (by decide)) Hx2.out
    have hm3 := keepG hgrow3 (row_off HR2.out HM2.out (by decide)) HM2.out
    have c36 : w3.cell? ⟨m.1, 6, none⟩ = some m.2 := (cell_of_row _ _ 6 _ _ _ hm3).trans rfl
    have f36 : w3.frozen? ⟨m.1, 6, none⟩ = false := frozen_of_row _ m.1 6 _ 91 hm3
    obtain ⟨W4, hW4⟩ : ∃ W4, w3.setCell ⟨m.1, 6, none⟩ (.slice (some ⟨g, 0, none⟩) (r.ds.length + 1) c) = W4 := ⟨_, rfl⟩
    have hA4 := keepS (o := 6) (v := .slice (some ⟨g, 0, none⟩) (r.ds.length + 1) c) (ne_of_type hm3 hA3 (by decide)) hA3
    have hx4 := keepS (o := 6) (v := .slice (some ⟨g, 0, none⟩) (r.ds.length + 1) c) (ne_of_type hm3 hx3 (by decide)) hx3
    rw [hW4] at hA4 hx4
    have HF := Lib.hid (HA2.out.dealt Hi2.out Hm.out hgrow3 hown3 hat3 { r with phase := 2, ds := r.ds ++ [⟨e.obj, e.op, e.key, e.val, 0, 0, (taken : Int), -1⟩] } (by simp) (by simp [deeds, Deed.row]) rfl rfl)
    rw [hW4, List.set_set] at HF
    have HD : Hid (Below B w W4) := by
      show Below _ _ _
      rw [← hW4]
      exact (HBw2.out.grown hgrow3 HA2.out.base (fun k e2 => (HR2.out.lt k e2).1)).setCell (p := ⟨m.1, 6, none⟩) Hbm.out _
    have HS3 : Hid ((w3.cell? ⟨w.heap.size, 3, none⟩ = some (.int .i64 e.obj) ∧ w3.cell? ⟨w.heap.size, 4, none⟩ = some (.int .i64 e.op) ∧ w3.cell? ⟨w.heap.size, 5, none⟩ = some (.int .i64 e.key) ∧ w3.cell? ⟨w.heap.size, 6, none⟩ = some (.int .i64 e.val)) ∧ w3.cell? ⟨A, 1, none⟩ = some (.int .i64 (taken : Int))) := ⟨⟨(row_eight hx3).2.2.2.1, (row_eight hx3).2.2.2.2.1, (row_eight hx3).2.2.2.2.2.1, (row_eight hx3).2.2.2.2.2.2.1⟩, (cell_of_row _ _ 1 _ _ _ hA3).trans rfl⟩
    have HS4 : Hid ((W4.cell? ⟨w.heap.size, 3, none⟩ = some (.int .i64 e.obj) ∧ W4.cell? ⟨w.heap.size, 4, none⟩ = some (.int .i64 e.op) ∧ W4.cell? ⟨w.heap.size, 5, none⟩ = some (.int .i64 e.key) ∧ W4.cell? ⟨w.heap.size, 6, none⟩ = some (.int .i64 e.val)) ∧ W4.cell? ⟨A, 1, none⟩ = some (.int .i64 (taken : Int))) := ⟨⟨(row_eight hx4).2.2.2.1, (row_eight hx4).2.2.2.2.1, (row_eight hx4).2.2.2.2.2.1, (row_eight hx4).2.2.2.2.2.2.1⟩, (cell_of_row _ _ 1 _ _ _ hA4).trans rfl⟩
    clear hown3 hgrow3 hat3 hlt3 hA3 hx3 hm3 hA4 hx4
    refine hK.out _ _ HS3.out (fun hHeld => ?_)
    clear hK K
    simp only [Act.put, List.setIfInBounds_toArray]
    refine held_take 21 (some 31) ?_ rfl rfl (by kernel_rfl) (by kernel_rfl) (by kernel_rfl) (fun _ _ _ h => h) (by kernel_rfl) ?_ (by assumption) ?_
    rotate_left
    · intro w hSw; (try dsimp only at hSw); go_simp <;> (try with_reducible rfl)
    simp only [Act.put]
    refine held_take 22 (some 32) ?_ rfl rfl (by kernel_rfl) (by kernel_rfl) (by kernel_rfl) (fun _ _ _ h => h) (by kernel_rfl) ?_ (by assumption) ?_
    rotate_left
    · intro w hSw; (try dsimp only at hSw); go_simp <;> (try with_reducible rfl)
    simp only [Act.put]
    refine held_take 23 (some 33) ?_ rfl rfl (by kernel_rfl) (by kernel_rfl) (by kernel_rfl) (fun _ _ _ h => h) (by kernel_rfl) ?_ (by assumption) ?_
    rotate_left
    · intro w hSw; (try dsimp only at hSw); go_simp <;> (try with_reducible rfl)
    simp only [Act.put]
    refine wpAnyH_ready (rs := [24]) (by kernel_rfl) (by simp) (AllReadyH.cons rfl (fun K hK => ?_) AllReadyH.nil)
    go_simp
    refine hK.out _ _ HS4.out (fun hHeld => ?_)
    clear hK K
    try simp only [Act.put, List.setIfInBounds_toArray, List.set_cons_zero, List.set_cons_succ]
    refine wpAnyH_done (by kernel_rfl) ?_ _
    go_wp2_with fail
    go_ret
    exact ⟨rfl, _, HF.out, HD.out⟩
  · go_simp
    try rw [hW2]
    refine hK.out _ _ HS2.out (fun hHeld => ?_)
    clear hK K
    try simp only [Act.put, List.setIfInBounds_toArray, List.set_cons_zero, List.set_cons_succ]
    refine wpAnyH_ready (rs := [5]) (by kernel_rfl) (by simp) (AllReadyH.cons rfl (fun K hK => ?_) AllReadyH.nil)
    have s1d : W2.cell? ⟨m.1, 6, none⟩ = some m.2 := (cell_of_row _ _ 6 _ _ _ HM2.out).trans rfl
    go_simp
    refine hK.out _ _ HS2.out (fun hHeld => ?_)
    clear hK K
    try simp only [Act.put, List.setIfInBounds_toArray, List.set_cons_zero, List.set_cons_succ]
    refine wpAnyH_ready (rs := [20]) (by kernel_rfl) (by simp) (AllReadyH.cons rfl (fun K hK => ?_) AllReadyH.nil)
    refine step_append_lies _ rfl _ _ 55 rfl B 75 i0 zeroDeed 8 64 Tryd.underlying55 hi0 hz0 hz1 hz2 rfl (by decide) m.2 _ _ rfl HR2.out ⟨W1.heap.size, 0, none⟩ 1 1 [.int .i64 e.obj, .int .i64 e.op, .int .i64 e.key, .int .i64 e.val, .int .i64 0, .int .i64 0, .int .i64 (taken : Int), .int .i64 (-1)] rfl rfl (World.news_of_block Hr2'.out) (by intro u hu; simp only [List.mem_cons, List.not_mem_nil, or_false] at hu; rcases hu with rfl | rfl | rfl | rfl | rfl | rfl | rfl | rfl <;> rfl) (by decide) (by unfold maxLen; have := Hds.out; omega) (by have := Hds.out; omega) HA2.out.base _ rfl ?_
    intro g c w3 hown3 hgrow3 hat3 hlt3
    have hA3 := keepG hgrow3 (row_off HR2.out HA2.out.auto (by decide)) HA2.out.auto
    have hx3 := keepG hgrow3 (row_off HR2.out Hx2.out (by decide)) Hx2.out
    have hm3 := keepG hgrow3 (row_off HR2.out HM2.out (by decide)) HM2.out
    have c36 : w3.cell? ⟨m.1, 6, none⟩ = some m.2 := (cell_of_row _ _ 6 _ _ _ hm3).trans rfl
    have f36 : w3.frozen? ⟨m.1, 6, none⟩ = false := frozen_of_row _ m.1 6 _ 91 hm3
    obtain ⟨W4, hW4⟩ : ∃ W4, w3.setCell ⟨m.1, 6, none⟩ (.slice (some ⟨g, 0, none⟩) (r.ds.length + 1) c) = W4 := ⟨_, rfl⟩
    have hA4 := keepS (o := 6) (v := .slice (some ⟨g, 0, none⟩) (r.ds.length + 1) c) (ne_of_type hm3 hA3 (by decide)) hA3
    have hx4 := keepS (o := 6) (v := .slice (some ⟨g, 0, none⟩) (r.ds.length + 1) c) (ne_of_type hm3 hx3 (by decide)) hx3
    rw [hW4] at hA4 hx4
    have HF := Lib.hid (HA2.out.dealt Hi2.out Hm.out hgrow3 hown3 hat3 { r with phase := 2, ds := r.ds ++ [⟨e.obj, e.op, e.key, e.val, 0, 0, (taken : Int), -1⟩] } (by simp) (by simp [deeds, Deed.row]) rfl rfl)
    rw [hW4, List.set_set] at HF
    have HD : Hid (Below B w W4) := by
      show Below _ _ _
      rw [← hW4]
      exact (HBw2.out.grown hgrow3 HA2.out.base (fun k e2 => (HR2.out.lt k e2).1)).setCell (p := ⟨m.1, 6, none⟩) Hbm.out _
    have HS3 : Hid ((w3.cell? ⟨w.heap.size, 3, none⟩ = some (.int .i64 e.obj) ∧ w3.cell? ⟨w.heap.size, 4, none⟩ = some (.int .i64 e.op) ∧ w3.cell? ⟨w.heap.size, 5, none⟩ = some (.int .i64 e.key) ∧ w3.cell? ⟨w.heap.size, 6, none⟩ = some (.int .i64 e.val)) ∧ w3.cell? ⟨A, 1, none⟩ = some (.int .i64 (taken : Int))) := ⟨⟨(row_eight hx3).2.2.2.1, (row_eight hx3).2.2.2.2.1, (row_eight hx3).2.2.2.2.2.1, (row_eight hx3).2.2.2.2.2.2.1⟩, (cell_of_row _ _ 1 _ _ _ hA3).trans rfl⟩
    have HS4 : Hid ((W4.cell? ⟨w.heap.size, 3, none⟩ = some (.int .i64 e.obj) ∧ W4.cell? ⟨w.heap.size, 4, none⟩ = some (.int .i64 e.op) ∧ W4.cell? ⟨w.heap.size, 5, none⟩ = some (.int .i64 e.key) ∧ W4.cell? ⟨w.heap.size, 6, none⟩ = some (.int .i64 e.val)) ∧ W4.cell? ⟨A, 1, none⟩ = some (.int .i64 (taken : Int))) := ⟨⟨(row_eight hx4).2.2.2.1, (row_eight hx4).2.2.2.2.1, (row_eight hx4).2.2.2.2.2.1, (row_eight hx4).2.2.2.2.2.2.1⟩, (cell_of_row _ _ 1 _ _ _ hA4).trans rfl⟩
    clear hown3 hgrow3 hat3 hlt3 hA3 hx3 hm3 hA4 hx4
    refine hK.out _ _ HS3.out (fun hHeld => ?_)
    clear hK K
    simp only [Act.put, List.setIfInBounds_toArray]
    refine held_take 21 (some 31) ?_ rfl rfl (by kernel_rfl) (by kernel_rfl) (by kernel_rfl) (fun _ _ _ h => h) (by kernel_rfl) ?_ (by assumption) ?_
    rotate_left
    · intro w hSw; (try dsimp only at hSw); go_simp <;> (try with_reducible rfl)
    simp only [Act.put]
    refine held_take 22 (some 32) ?_ rfl rfl (by kernel_rfl) (by kernel_rfl) (by kernel_rfl) (fun _ _ _ h => h) (by kernel_rfl) ?_ (by assumption) ?_
    rotate_left
    · intro w hSw; (try dsimp only at hSw); go_simp <;> (try with_reducible rfl)
    simp only [Act.put]
    refine held_take 23 (some 33) ?_ rfl rfl (by kernel_rfl) (by kernel_rfl) (by kernel_rfl) (fun _ _ _ h => h) (by kernel_rfl) ?_ (by assumption) ?_
    rotate_left
    · intro w hSw; (try dsimp only at hSw); go_simp <;> (try with_reducible rfl)
    simp only [Act.put]
    refine wpAnyH_ready (rs := [24]) (by kernel_rfl) (by simp) (AllReadyH.cons rfl (fun K hK => ?_) AllReadyH.nil)
    go_simp
    refine hK.out _ _ HS4.out (fun hHeld => ?_)
    clear hK K
    try simp only [Act.put, List.setIfInBounds_toArray, List.set_cons_zero, List.set_cons_succ]
    refine wpAnyH_done (by kernel_rfl) ?_ _
    go_wp2_with fail
    go_ret
    exact ⟨rfl, _, HF.out, HD.out⟩
end Go.Proofs.YtfjjhjojcgacbaaDoor

/- An automaton that takes an answer: a deed is written to. -/
namespace Go.Proofs.YtfjjhjojcgacbaaDoor
open Go.RowKit Go.Maps Go.WideMaps Go.WideElems Go.ChangeShapes Go.WideShapes
variable {T : TypeId} {er : Nat → Addr}

theorem row_set {W : World} {B e size n g c o : Nat} {xs : List Value} (h : W.ownsRow B e size (.slice (some ⟨g, 0, none⟩) n c) n xs) (x : Value) : (W.setCell ⟨g, o, none⟩ x).ownsRow B e size (.slice (some ⟨g, 0, none⟩) n c) n (xs.set o x) := by
  refine ⟨by rw [List.length_set]; exact h.1, ?_⟩
  rcases h.2 with ⟨e1, _⟩ | ⟨g', cap, cur, e1, hB, hg, h1, h2, h3, h4⟩
  · cases e1
  · injection e1 with e2 _ e3
    injection e2 with e2
    injection e2 with e2 _ _
    subst e2 e3
    refine .inr ⟨g, c, cur.setIfInBounds o x, rfl, hB, heap_setCell_same W g o cur e x hg, h1, h2, by simp [h3], ?_⟩
    rw [Array.toList_setIfInBounds, ← h4, List.take_set]
theorem AutoAt.setDeed {B A : Nat} {os : List (Int × Int)} {recs : List Rec} {busy : List (Option Nat)} {taken : Nat} {M : List (Nat × Value)} {oa : Option Addr} {oc : Nat} {rv : Value} {mb eb : Nat} {V : World} (h : AutoAt B A os recs busy taken M oa oc rv mb eb V) {i g n c : Nat} {r : Rec} {m : Nat × Value} (hi : recs[i]? = some r) (hm : M[i]? = some m) (hv : m.2 = .slice (some ⟨g, 0, none⟩) n c) (hn : r.ds.length = n) (o : Nat) (x : Value) (r' : Rec) (hd : deeds r'.ds = (deeds r.ds).set o x) (hlen : r'.ds.length = n) (hc : ∀ dv, r'.cells dv = r.cells dv) (hid : r'.id = r.id) :
    AutoAt B A os (recs.set i r') busy taken M oa oc rv mb eb (V.setCell ⟨g, o, none⟩ x) := by
  obtain ⟨h1, h2, h3⟩ := h.one i r m hi hm
  have hil : i < recs.length := (List.getElem?_eq_some_iff.1 hi).1
  rw [hv, hn] at h3
  obtain ⟨-, cur, hg⟩ := row_heap h3
  refine ⟨keepS (ne_of_type hg h.auto (by decide)) h.auto, h.low, row_setOff h.objs hg (by decide) x, row_setOff h.order hg (by decide) x, ?_, h.eff.set hg (by decide) (by decide) x, by rw [List.length_set]; exact h.len, ?_, h.apart, h.two⟩
  · rw [set_map hi hid]
    exact keepS (ne_kind hg h.map) h.map
  · intro j r2 m2 hj hm2
    by_cases e : i = j
    · subst e
      rw [List.getElem?_set_self hil] at hj
      rw [hm] at hm2
      injection hj with hj
      injection hm2 with hm2
      subst hj hm2
      refine ⟨h1, by rw [hc]; exact keepS (ne_of_type hg h2 (by decide)) h2, ?_⟩
      rw [hlen, hd, hv]
      exact row_set h3 x
    · rw [List.getElem?_set, if_neg e] at hj
      obtain ⟨g1, g2, g3⟩ := h.one j r2 m2 hj hm2
      exact ⟨g1, keepS (ne_of_type hg g2 (by decide)) g2, ownsRow_setCell_other g3 (a := ⟨g, o, none⟩) ((h.apart i j m m2 e hm hm2).2 g (by rw [hv]; rfl)) x⟩
end Go.Proofs.YtfjjhjojcgacbaaDoor

/- giveBack: by contracts. -/
namespace Go.Proofs.YtfjjhjojcgacbaaDoor
open Go.RowKit Go.Maps Go.WideMaps Go.WideElems Go.ChangeShapes Go.WideShapes
variable {T : TypeId} {er : Nat → Addr}

theorem deeds_len (ds : List Deed) : (deeds ds).length = ds.length * 8 := by
  unfold deeds; induction ds with
  | nil => rfl
  | cons o os ih => simp [List.flatMap_cons, ih, Deed.row]; omega
theorem deeds_last (ds : List Deed) (d : Deed) (j : Nat) : (deeds (ds ++ [d]))[ds.length * 8 + j]? = d.row[j]? := by
  have e : deeds (ds ++ [d]) = deeds ds ++ d.row := by simp [deeds]
  rw [e, List.getElem?_append_right (by rw [deeds_len]; omega), deeds_len, show ds.length * 8 + j - ds.length * 8 = j from by omega]

set_option maxHeartbeats 4000000 in
set_option maxRecDepth 100000 in
theorem back_bad {B A : Nat} {os : List (Int × Int)} {recs : List Rec} {busy : List (Option Nat)} {taken : Nat} {M : List (Nat × Value)} {oa : Option Addr} {oc : Nat} {rv : Value} {mb eb : Nat} (w : World) (h : AutoAt B A os recs busy taken M oa oc rv mb eb w) (hG : Glob T er w) {i : Nat} {r : Rec} {m : Nat × Value} (hi : recs[i]? = some r) (hm : M[i]? = some m) (ds : List Deed) (d : Deed) (hds : r.ds = ds ++ [d]) (hsm : ds.length ≤ 100000) (e : Ev) (hf : fitsZ d.op e.ret = false) :
    Calls Tryd.prog 68 #[.pointer (some ⟨A, 0, none⟩), .pointer (some ⟨m.1, 0, none⟩), e.agg] w fun en w' => Told T false en ∧ Hid (Below w.heap.size w w') := by
  obtain ⟨W, hW, Hb, hs, Hx⟩ := cells_new w #[.int .i64 e.kind, .int .i64 e.tx, .int .i64 e.thread, .int .i64 e.obj, .int .i64 e.op, .int .i64 e.key, .int .i64 e.val, .int .i64 e.ret] 34
  have HA := Lib.hid (h.keep Hb.out)
  have HG := Lib.hid (hG.below' Hb.out)
  obtain ⟨k, hk⟩ : ∃ k, ds.length = k := ⟨_, rfl⟩
  have hrow := (HA.out.one i r m hi hm).2.2
  rw [hds, List.length_append, hk] at hrow
  obtain ⟨g, c, hv, -, -⟩ := hrow.form (by simp)
  have hv2 : m.2 = .slice (some ⟨g, 0, none⟩) (k + 1) c := hv
  have HS1 : Hid (∀ V, Below W.heap.size W V → V.cell? ⟨m.1, 6, none⟩ = some (.slice (some ⟨g, 0, none⟩) (k + 1) c)) := fun V hV => by
    rw [← hv2]
    exact (cell_of_row _ _ 6 _ _ _ ((HA.out.keep hV).row hi hm)).trans rfl
  have HS2 : Hid (∀ V, Below W.heap.size W V → V.cell? ⟨w.heap.size, 7, none⟩ = some (.int .i64 e.ret) ∧ V.cell? ⟨g, k * 8 + 1, none⟩ = some (.int .i64 d.op)) := fun V hV => by
    refine ⟨(row_eight (keepB hV Hx.out)).2.2.2.2.2.2.2, ?_⟩
    have hr2 := row_kept hrow hV
    rw [hv] at hr2
    have := row_news hr2 (k * 8 + 1) (.int .i64 d.op) (by rw [← hk, deeds_last]; rfl)
    rw [Addr.add_lit, Nat.zero_add] at this
    exact this
  have g12 := (HG.out.below' (stepD (stepD (Below.refl _ W)))).eAnswer
  have HFt := Lib.hid (fun V => fits_any d.op e.ret V)
  rw [hf] at HFt
  have k0 : (0 : Int) ≤ (k : Int) := by omega
  have k1 : (k : Int) < ((k + 1 : Nat) : Int) := by omega
  have k2 : IntKind.i64.wrap (((k + 1 : Nat) : Int) - 1) = (k : Int) := by rw [IntKind.wrap_i64]; omega
  have k3 : IntKind.i64.wrap (k : Int) = (k : Int) := by rw [IntKind.wrap_i64]; omega
  have k4 : IntKind.i64.wrap ((k : Int) + 1 - 1) = (k : Int) := by rw [IntKind.wrap_i64]; omega
  have k5 : (k : Int) < (k : Int) + 1 := by omega
  clear h hG hi hm hds hk hrow hv hv2 hf Hx
  go_enter Tryd.func68, Tryd.ntmps68
  go_wp2_with fail
  go_region_held3 (fun w' => w'.cell? ⟨m.1, 6, none⟩ = some (.slice (some ⟨g, 0, none⟩) (k + 1) c))
    (first | (with_reducible exact HS1.out _ (stepD (Below.refl _ _))))
    (fail)
  go_wp2_with fail
  go_region_held3 (fun w' => w'.cell? ⟨w.heap.size, 7, none⟩ = some (.int .i64 e.ret) ∧ w'.cell? ⟨g, k * 8 + 1, none⟩ = some (.int .i64 d.op))
    (first | (with_reducible exact HS2.out _ (stepD (stepD (Below.refl _ _)))))
    (first | (go_at_call 77; (with_reducible refine (HFt.out _).mono ?_); rintro e3 w3 ⟨rfl, rfl⟩))
  all_goals
    go_wp2_with fail
    go_ret
    exact ⟨⟨_, rfl⟩, stepB Hb.out (stepD (stepD (Below.refl _ _)))⟩
end Go.Proofs.YtfjjhjojcgacbaaDoor

/- giveBack that fits: by a contract. -/
namespace Go.Proofs.YtfjjhjojcgacbaaDoor
open Go.RowKit Go.Maps Go.WideMaps Go.WideElems Go.ChangeShapes Go.WideShapes
variable {T : TypeId} {er : Nat → Addr}

theorem deeds_put (ds : List Deed) (d d' : Deed) (j : Nat) (x : Value) (h : d.row.set j x = d'.row) : deeds (ds ++ [d']) = (deeds (ds ++ [d])).set (ds.length * 8 + j) x := by
  have e : ∀ d, deeds (ds ++ [d]) = deeds ds ++ d.row := fun d => by simp [deeds]
  rw [e, e, List.set_append_right _ _ (by rw [deeds_len]; omega), deeds_len, show ds.length * 8 + j - ds.length * 8 = j from by omega, h]

set_option maxHeartbeats 8000000 in
set_option maxRecDepth 100000 in
theorem back_ok {B A : Nat} {os : List (Int × Int)} {recs : List Rec} {busy : List (Option Nat)} {taken : Nat} {M : List (Nat × Value)} {oa : Option Addr} {oc : Nat} {rv : Value} {mb eb : Nat} (w : World) (h : AutoAt B A os recs busy taken M oa oc rv mb eb w) (hG : Glob T er w) {i : Nat} {r : Rec} {m : Nat × Value} (hi : recs[i]? = some r) (hm : M[i]? = some m) (ds : List Deed) (d : Deed) (hds : r.ds = ds ++ [d]) (hsm : ds.length ≤ 100000) (e : Ev) (hf : fitsZ d.op e.ret = true) :
    Calls Tryd.prog 68 #[.pointer (some ⟨A, 0, none⟩), .pointer (some ⟨m.1, 0, none⟩), e.agg] w fun en w' => en = .returned .nilIface ∧ Hid (AutoAt B A os (recs.set i { r with phase := 1, ds := ds ++ [{ d with ret := e.ret, got := e.val, back := (taken : Int) }] }) busy taken M oa oc rv mb eb w' ∧ Below B w w') := by
  obtain ⟨W, hW, Hb, hs, Hx⟩ := cells_new w #[.int .i64 e.kind, .int .i64 e.tx, .int .i64 e.thread, .int .i64 e.obj, .int .i64 e.op, .int .i64 e.key, .int .i64 e.val, .int .i64 e.ret] 34
  have HA := Lib.hid (h.keep Hb.out)
  have HG := Lib.hid (hG.below' Hb.out)
  obtain ⟨k, hk⟩ : ∃ k, ds.length = k := ⟨_, rfl⟩
  have hrow := (HA.out.one i r m hi hm).2.2
  rw [hds, List.length_append, hk] at hrow
  obtain ⟨g, c, hv, -, -⟩ := hrow.form (by simp)
  have hv2 : m.2 = .slice (some ⟨g, 0, none⟩) (k + 1) c := hv
  have HS1 : Hid (∀ V, Below W.heap.size W V → V.cell? ⟨m.1, 6, none⟩ = some (.slice (some ⟨g, 0, none⟩) (k + 1) c)) := fun V hV => by
    rw [← hv2]
    exact (cell_of_row _ _ 6 _ _ _ ((HA.out.keep hV).row hi hm)).trans rfl
  have HS2 : Hid (∀ V, Below W.heap.size W V → V.cell? ⟨w.heap.size, 7, none⟩ = some (.int .i64 e.ret) ∧ V.cell? ⟨g, k * 8 + 1, none⟩ = some (.int .i64 d.op)) := fun V hV => by
    refine ⟨(row_eight (keepB hV Hx.out)).2.2.2.2.2.2.2, ?_⟩
    have hr2 := row_kept hrow hV
    rw [hv] at hr2
    have := row_news hr2 (k * 8 + 1) (.int .i64 d.op) (by rw [← hk, deeds_last]; rfl)
    rw [Addr.add_lit, Nat.zero_add] at this
    exact this
  have HFt := Lib.hid (fun V => fits_any d.op e.ret V)
  rw [hf] at HFt
  have k0 : (0 : Int) ≤ (k : Int) := by omega
  have k1 : (k : Int) < ((k + 1 : Nat) : Int) := by omega
  have k2 : IntKind.i64.wrap (((k + 1 : Nat) : Int) - 1) = (k : Int) := by rw [IntKind.wrap_i64]; omega
  have k3 : IntKind.i64.wrap (k : Int) = (k : Int) := by rw [IntKind.wrap_i64]; omega
  have k4 : IntKind.i64.wrap ((k : Int) + 1 - 1) = (k : Int) := by rw [IntKind.wrap_i64]; omega
  have k5 : (k : Int) < (k : Int) + 1 := by omega
  have hl : i < recs.length := (List.getElem?_eq_some_iff.1 hi).1
  have H2 := HA.out.keep (stepD (stepD (Below.refl _ W)))
  have hr := H2.row hi hm
  have c7 : W.drew.drew.cell? ⟨m.1, 7, none⟩ = some (.int .i64 r.phase) := (cell_of_row W.drew.drew _ 7 _ _ _ hr).trans rfl
  have f7 : W.drew.drew.frozen? ⟨m.1, 7, none⟩ = false := frozen_of_row W.drew.drew m.1 7 _ 91 hr
  obtain ⟨W3, hW3⟩ : ∃ W3, W.drew.drew.setCell ⟨m.1, 7, none⟩ (.int .i64 1) = W3 := ⟨_, rfl⟩
  have H3 : AutoAt B A os (recs.set i { r with phase := 1 }) busy taken M oa oc rv mb eb W3 := hW3 ▸ H2.setRec (o := 7) hi hm { r with phase := 1 } (.int .i64 1) rfl rfl rfl
  have hx3 := keepS (V := W.drew.drew) (o := 7) (v := .int .i64 1) (ne_of_type (W := W.drew.drew) hr Hx.out (by decide)) Hx.out
  rw [hW3] at hx3
  have H3d := H3.keep (stepD (Below.refl _ W3))
  have hi3 : (recs.set i { r with phase := 1 })[i]? = some { r with phase := 1 } := by rw [List.getElem?_set_self hl]
  have hrow0 := (H3d.one i _ m hi3 hm).2.2
  have hrow0' : World.ownsRow W3.drew B 75 8 (.slice (some ⟨g, 0, none⟩) (k + 1) c) (k + 1) (deeds (ds ++ [d])) := by
    have := hrow0
    simp only [hds, List.length_append, hk, List.length_cons, List.length_nil, hv2] at this
    exact this
  obtain ⟨-, cur0, hg0⟩ := row_heap hrow0'
  have cd0 : (W3.drew).cell? ⟨g, k * 8 + 4, none⟩ = some (.int .i64 (d : Deed).ret) := by
    have := row_news hrow0' (k * 8 + 4) (.int .i64 (d : Deed).ret) (by rw [← hk, deeds_last]; rfl)
    rw [Addr.add_lit, Nat.zero_add] at this
    exact this
  have fd0 : (W3.drew).frozen? ⟨g, k * 8 + 4, none⟩ = false := frozen_of_row W3.drew g (k * 8 + 4) _ 75 hg0
  obtain ⟨W4, hW4⟩ : ∃ W4, (W3.drew).setCell ⟨g, k * 8 + 4, none⟩ (.int .i64 e.ret) = W4 := ⟨_, rfl⟩
  have H4 : AutoAt B A os (recs.set i { r with phase := 1, ds := ds ++ [{ d with ret := e.ret }] }) busy taken M oa oc rv mb eb W4 := by
    have := H3d.setDeed (n := k + 1) hi3 hm hv2 (by simp [hds, hk]) (k * 8 + 4) (.int .i64 e.ret) { r with phase := 1, ds := ds ++ [{ d with ret := e.ret }] } (by
      show deeds (ds ++ [{ d with ret := e.ret }]) = (deeds ({ r with phase := 1 } : Rec).ds).set _ _
      have e1 : ({ r with phase := 1 } : Rec).ds = ds ++ [d] := by first | rfl | exact hds
      rw [e1, ← hk]
      exact deeds_put ds _ _ 4 _ rfl) (by simp [hk]) (fun _ => rfl) rfl
    rw [List.set_set, hW4] at this
    exact this
  have hi4 : (recs.set i { r with phase := 1, ds := ds ++ [{ d with ret := e.ret }] })[i]? = some { r with phase := 1, ds := ds ++ [{ d with ret := e.ret }] } := by rw [List.getElem?_set_self hl]
  have hx4 := keepS (V := W3.drew) (o := k * 8 + 4) (v := .int .i64 e.ret) (ne_of_type (W := W3.drew) hg0 hx3 (by decide)) hx3
  rw [hW4] at hx4
  have hrow1 := (H4.one i _ m hi4 hm).2.2
  have hrow1' : World.ownsRow W4 B 75 8 (.slice (some ⟨g, 0, none⟩) (k + 1) c) (k + 1) (deeds (ds ++ [({ d with ret := e.ret } : Deed)])) := by
    have := hrow1
    simp only [List.length_append, hk, List.length_cons, List.length_nil, hv2] at this
    exact this
  obtain ⟨-, cur1, hg1⟩ := row_heap hrow1'
  have cd1 : (W4).cell? ⟨g, k * 8 + 5, none⟩ = some (.int .i64 (({ d with ret := e.ret } : Deed) : Deed).got) := by
    have := row_news hrow1' (k * 8 + 5) (.int .i64 (({ d with ret := e.ret } : Deed) : Deed).got) (by rw [← hk, deeds_last]; rfl)
    rw [Addr.add_lit, Nat.zero_add] at this
    exact this
  have fd1 : (W4).frozen? ⟨g, k * 8 + 5, none⟩ = false := frozen_of_row W4 g (k * 8 + 5) _ 75 hg1
  obtain ⟨W5, hW5⟩ : ∃ W5, (W4).setCell ⟨g, k * 8 + 5, none⟩ (.int .i64 e.val) = W5 := ⟨_, rfl⟩
  have H5 : AutoAt B A os (recs.set i { r with phase := 1, ds := ds ++ [{ d with ret := e.ret, got := e.val }] }) busy taken M oa oc rv mb eb W5 := by
    have := H4.setDeed (n := k + 1) hi4 hm hv2 (by simp [hk]) (k * 8 + 5) (.int .i64 e.val) { r with phase := 1, ds := ds ++ [{ d with ret := e.ret, got := e.val }] } (by
      show deeds (ds ++ [{ d with ret := e.ret, got := e.val }]) = (deeds ({ r with phase := 1, ds := ds ++ [{ d with ret := e.ret }] } : Rec).ds).set _ _
      have e1 : ({ r with phase := 1, ds := ds ++ [{ d with ret := e.ret }] } : Rec).ds = ds ++ [({ d with ret := e.ret } : Deed)] := by first | rfl | exact hds
      rw [e1, ← hk]
      exact deeds_put ds _ _ 5 _ rfl) (by simp [hk]) (fun _ => rfl) rfl
    rw [List.set_set, hW5] at this
    exact this
  have hi5 : (recs.set i { r with phase := 1, ds := ds ++ [{ d with ret := e.ret, got := e.val }] })[i]? = some { r with phase := 1, ds := ds ++ [{ d with ret := e.ret, got := e.val }] } := by rw [List.getElem?_set_self hl]
  have hx5 := keepS (V := W4) (o := k * 8 + 5) (v := .int .i64 e.val) (ne_of_type (W := W4) hg1 hx4 (by decide)) hx4
  rw [hW5] at hx5
  have hrow2 := (H5.one i _ m hi5 hm).2.2
  have hrow2' : World.ownsRow W5 B 75 8 (.slice (some ⟨g, 0, none⟩) (k + 1) c) (k + 1) (deeds (ds ++ [({ d with ret := e.ret, got := e.val } : Deed)])) := by
    have := hrow2
    simp only [List.length_append, hk, List.length_cons, List.length_nil, hv2] at this
    exact this
  obtain ⟨-, cur2, hg2⟩ := row_heap hrow2'
  have cd2 : (W5).cell? ⟨g, k * 8 + 7, none⟩ = some (.int .i64 (({ d with ret := e.ret, got := e.val } : Deed) : Deed).back) := by
    have := row_news hrow2' (k * 8 + 7) (.int .i64 (({ d with ret := e.ret, got := e.val } : Deed) : Deed).back) (by rw [← hk, deeds_last]; rfl)
    rw [Addr.add_lit, Nat.zero_add] at this
    exact this
  have fd2 : (W5).frozen? ⟨g, k * 8 + 7, none⟩ = false := frozen_of_row W5 g (k * 8 + 7) _ 75 hg2
  obtain ⟨W6, hW6⟩ : ∃ W6, (W5).setCell ⟨g, k * 8 + 7, none⟩ (.int .i64 (taken : Int)) = W6 := ⟨_, rfl⟩
  have H6 : AutoAt B A os (recs.set i { r with phase := 1, ds := ds ++ [{ d with ret := e.ret, got := e.val, back := (taken : Int) }] }) busy taken M oa oc rv mb eb W6 := by
    have := H5.setDeed (n := k + 1) hi5 hm hv2 (by simp [hk]) (k * 8 + 7) (.int .i64 (taken : Int)) { r with phase := 1, ds := ds ++ [{ d with ret := e.ret, got := e.val, back := (taken : Int) }] } (by
      show deeds (ds ++ [{ d with ret := e.ret, got := e.val, back := (taken : Int) }]) = (deeds ({ r with phase := 1, ds := ds ++ [{ d with ret := e.ret, got := e.val }] } : Rec).ds).set _ _
      have e1 : ({ r with phase := 1, ds := ds ++ [{ d with ret := e.ret, got := e.val }] } : Rec).ds = ds ++ [({ d with ret := e.ret, got := e.val } : Deed)] := by first | rfl | exact hds
      rw [e1, ← hk]
      exact deeds_put ds _ _ 7 _ rfl) (by simp [hk]) (fun _ => rfl) rfl
    rw [List.set_set, hW6] at this
    exact this
  have hi6 : (recs.set i { r with phase := 1, ds := ds ++ [{ d with ret := e.ret, got := e.val, back := (taken : Int) }] })[i]? = some { r with phase := 1, ds := ds ++ [{ d with ret := e.ret, got := e.val, back := (taken : Int) }] } := by rw [List.getElem?_set_self hl]
  have hx6 := keepS (V := W5) (o := k * 8 + 7) (v := .int .i64 (taken : Int)) (ne_of_type (W := W5) hg2 hx5 (by decide)) hx5
  rw [hW6] at hx6
  have T3 : Hid ((W3.drew.cell? ⟨w.heap.size, 7, none⟩ = some (.int .i64 e.ret) ∧ W3.drew.cell? ⟨w.heap.size, 6, none⟩ = some (.int .i64 e.val)) ∧ W3.drew.cell? ⟨A, 1, none⟩ = some (.int .i64 (taken : Int))) := ⟨⟨(row_eight (W := W3.drew) hx3).2.2.2.2.2.2.2, (row_eight (W := W3.drew) hx3).2.2.2.2.2.2.1⟩, (cell_of_row W3.drew _ 1 _ _ _ H3d.auto).trans rfl⟩
  have T4 : Hid ((W4.cell? ⟨w.heap.size, 7, none⟩ = some (.int .i64 e.ret) ∧ W4.cell? ⟨w.heap.size, 6, none⟩ = some (.int .i64 e.val)) ∧ W4.cell? ⟨A, 1, none⟩ = some (.int .i64 (taken : Int))) := ⟨⟨(row_eight (W := W4) hx4).2.2.2.2.2.2.2, (row_eight (W := W4) hx4).2.2.2.2.2.2.1⟩, (cell_of_row W4 _ 1 _ _ _ H4.auto).trans rfl⟩
  have T5 : Hid ((W5.cell? ⟨w.heap.size, 7, none⟩ = some (.int .i64 e.ret) ∧ W5.cell? ⟨w.heap.size, 6, none⟩ = some (.int .i64 e.val)) ∧ W5.cell? ⟨A, 1, none⟩ = some (.int .i64 (taken : Int))) := ⟨⟨(row_eight (W := W5) hx5).2.2.2.2.2.2.2, (row_eight (W := W5) hx5).2.2.2.2.2.2.1⟩, (cell_of_row W5 _ 1 _ _ _ H5.auto).trans rfl⟩
  have T6 : Hid ((W6.cell? ⟨w.heap.size, 7, none⟩ = some (.int .i64 e.ret) ∧ W6.cell? ⟨w.heap.size, 6, none⟩ = some (.int .i64 e.val)) ∧ W6.cell? ⟨A, 1, none⟩ = some (.int .i64 (taken : Int))) := ⟨⟨(row_eight (W := W6) hx6).2.2.2.2.2.2.2, (row_eight (W := W6) hx6).2.2.2.2.2.2.1⟩, (cell_of_row W6 _ 1 _ _ _ H6.auto).trans rfl⟩
  have HF := Lib.hid H6
  have hBm := (h.one i r m hi hm).1
  have hBg : B ≤ g := (row_heap hrow0').1
  have HD : Hid (Below B w W6) := by
    show Below _ _ _
    rw [← hW6, ← hW5, ← hW4, ← hW3]
    exact (((((Hb.out.mono h.base).trans (stepD (stepD (Below.refl _ W)))).setCell (p := ⟨m.1, 7, none⟩) hBm _).drew.setCell (p := ⟨g, k * 8 + 4, none⟩) hBg _).setCell (p := ⟨g, k * 8 + 5, none⟩) hBg _).setCell (p := ⟨g, k * 8 + 7, none⟩) hBg _
  clear h hG hi hm hds hk hrow hv hv2 hf Hx H2 hr H3 H3d hx3 hi3 hrow0 hrow0' hrow1 hrow1' hrow2 hrow2' hg0 hg1 hg2 H4 H5 H6 hi4 hi5 hi6 hx4 hx5 hx6 hl hBm hBg
  go_enter Tryd.func68, Tryd.ntmps68
  go_wp2_with fail
  go_region_held3 (fun w' => w'.cell? ⟨m.1, 6, none⟩ = some (.slice (some ⟨g, 0, none⟩) (k + 1) c))
    (first | (with_reducible exact HS1.out _ (stepD (Below.refl _ _))))
    (fail)
  go_wp2_with fail
  go_region_held3 (fun w' => w'.cell? ⟨w.heap.size, 7, none⟩ = some (.int .i64 e.ret) ∧ w'.cell? ⟨g, k * 8 + 1, none⟩ = some (.int .i64 d.op))
    (first | (with_reducible exact HS2.out _ (stepD (stepD (Below.refl _ _)))))
    (first | (go_at_call 77; (with_reducible refine (HFt.out _).mono ?_); rintro e3 w3 ⟨rfl, rfl⟩))
  go_wp2_with fail
  go_region_held3 (fun w' => (w'.cell? ⟨w.heap.size, 7, none⟩ = some (.int .i64 e.ret) ∧ w'.cell? ⟨w.heap.size, 6, none⟩ = some (.int .i64 e.val)) ∧ w'.cell? ⟨A, 1, none⟩ = some (.int .i64 (taken : Int)))
    (first | (with_reducible exact T3.out) | (with_reducible exact T4.out) | (with_reducible exact T5.out) | (with_reducible exact T6.out))
    (fail)
  all_goals
    go_wp2_with fail
    go_ret
    exact ⟨rfl, HF.out, HD.out⟩
end Go.Proofs.YtfjjhjojcgacbaaDoor

/- The effects' closure: of a number that is not known. -/
namespace Go.Proofs.YtfjjhjojcgacbaaDoor
open Go.RowKit Go.Maps Go.WideMaps Go.WideElems Go.ChangeShapes Go.WideShapes
variable {T : TypeId} {er : Nat → Addr}

set_option maxHeartbeats 4000000 in
set_option maxRecDepth 100000 in
theorem from_none {B A : Nat} {os : List (Int × Int)} {recs : List Rec} {busy : List (Option Nat)} {taken : Nat} {M : List (Nat × Value)} {oa : Option Addr} {oc : Nat} {rv : Value} {mb eb : Nat} (w : World) (h : AutoAt B A os recs busy taken M oa oc rv mb eb w) (hG : Glob T er w) (e : Ev) (hi : ¬ e.tx ∈ recs.map (·.id)) (p q : Nat) :
    Calls Tryd.prog 76 #[.pointer (some ⟨A, 0, none⟩), e.agg, .pointer (some ⟨p, 0, none⟩), .pointer (some ⟨q, 0, none⟩)] w fun en w' => Told T false en ∧ Hid (Below w.heap.size w w') := by
  obtain ⟨W, hW, Hb, hs, Hx⟩ := cells_new w #[.int .i64 e.kind, .int .i64 e.tx, .int .i64 e.thread, .int .i64 e.obj, .int .i64 e.op, .int .i64 e.key, .int .i64 e.val, .int .i64 e.ret] 34
  have HA := Lib.hid (h.keep Hb.out)
  have HX : Hid (∀ V, Below W.heap.size W V → V.heap[w.heap.size]? = some (.cells #[.int .i64 e.kind, .int .i64 e.tx, .int .i64 e.thread, .int .i64 e.obj, .int .i64 e.op, .int .i64 e.key, .int .i64 e.val, .int .i64 e.ret] 34)) := fun V hV => keepB hV Hx.out
  have g0 := ((hG.below' Hb.out).below' (stepD (Below.refl _ W))).eTx
  obtain ⟨es, hes⟩ : ∃ es, (ents (recs.map (·.id)) (M.map (·.1)) 0).toArray = es := ⟨_, rfl⟩
  have L : ∀ V : World, V.heap[mb]? = some (.map es M.length) → (Instr.lookup 83 (.map (some mb)) (.int .i64 e.tx) true).run Tryd.prog V = .ok (.tuple #[.pointer none, .bool false]) V := fun V hV => map_none under83 zero84 e.tx hV (by rw [← hes]; exact find_off _ _ 0 0 e.tx hi)
  have HS : Hid (∀ V, Below W.heap.size W V → (V.cell? ⟨w.heap.size, 1, none⟩ = some (.int .i64 e.tx) ∧ V.cell? ⟨A, 3, none⟩ = some (.map (some mb))) ∧ V.heap[mb]? = some (.map es M.length)) := fun V hV => ⟨⟨(row_eight (HX.out V hV)).2.1, (cell_of_row _ _ 3 _ _ _ (HA.out.keep hV).auto).trans rfl⟩, by rw [← hes]; exact (HA.out.keep hV).map⟩
  clear h hG hi hes Hx
  go_enter Tryd.func76, Tryd.ntmps76
  go_wp2_with fail
  go_region_held3 (fun w' => (w'.cell? ⟨w.heap.size, 1, none⟩ = some (.int .i64 e.tx) ∧ w'.cell? ⟨A, 3, none⟩ = some (.map (some mb))) ∧ w'.heap[mb]? = some (.map es M.length))
    (first | (with_reducible exact HS.out _ (stepD (Below.refl _ _))))
    (fail)
  all_goals
    go_wp2_with fail
    go_ret
    exact ⟨⟨_, rfl⟩, stepB Hb.out (stepD (Below.refl _ _))⟩
end Go.Proofs.YtfjjhjojcgacbaaDoor
