/- Helpers, joined: Mq, Na, Nb, Nc, Nd. -/
import Derived.Test.YtfjjhjojcgacbaaDoorM6
import Derived.StillTailTactics

/- The effects' closure: of a number that is known. -/
namespace Go.Proofs.YtfjjhjojcgacbaaDoor
open Go.RowKit Go.Maps Go.WideMaps Go.WideElems Go.ChangeShapes Go.WideShapes
variable {T : TypeId} {er : Nat → Addr}

set_option maxHeartbeats 4000000 in
set_option maxRecDepth 100000 in
theorem from_order {B A : Nat} {os : List (Int × Int)} {recs : List Rec} {busy : List (Option Nat)} {taken : Nat} {M : List (Nat × Value)} {oa : Option Addr} {oc : Nat} {rv : Value} {mb eb : Nat} (w : World) (h : AutoAt B A os recs busy taken M oa oc rv mb eb w) (hG : Glob T er w) (e : Ev) {i : Nat} {r : Rec} {m : Nat × Value} (hnd : (recs.map (·.id)).Nodup) (hi : recs[i]? = some r) (hid : r.id = e.tx) (hm : M[i]? = some m) (p q : Nat) (x z : Int) (hp : w.heap[p]? = some (.cells #[.int .i64 x] 89)) (hb : bits BinOp.and IntKind.i64 r.phase x = z) (hz : (z == 0) = true) :
    Calls Tryd.prog 76 #[.pointer (some ⟨A, 0, none⟩), e.agg, .pointer (some ⟨p, 0, none⟩), .pointer (some ⟨q, 0, none⟩)] w fun en w' => Told T false en ∧ Hid (Below w.heap.size w w') := by
  obtain ⟨W, hW, Hb, hs, Hx⟩ := cells_new w #[.int .i64 e.kind, .int .i64 e.tx, .int .i64 e.thread, .int .i64 e.obj, .int .i64 e.op, .int .i64 e.key, .int .i64 e.val, .int .i64 e.ret] 34
  have HA := Lib.hid (h.keep Hb.out)
  have HX : Hid (∀ V, Below W.heap.size W V → V.heap[w.heap.size]? = some (.cells #[.int .i64 e.kind, .int .i64 e.tx, .int .i64 e.thread, .int .i64 e.obj, .int .i64 e.op, .int .i64 e.key, .int .i64 e.val, .int .i64 e.ret] 34)) := fun V hV => keepB hV Hx.out
  have g11 := ((hG.below' Hb.out).below' (stepD (stepD (Below.refl _ W)))).eOrder
  obtain ⟨es, hes⟩ : ∃ es, (ents (recs.map (·.id)) (M.map (·.1)) 0).toArray = es := ⟨_, rfl⟩
  have L : ∀ V : World, V.heap[mb]? = some (.map es M.length) → (Instr.lookup 83 (.map (some mb)) (.int .i64 e.tx) true).run Tryd.prog V = .ok (.tuple #[.pointer (some ⟨m.1, 0, none⟩), .bool true]) V := fun V hV => (map_look under83 e.tx (0 + i) _ hV (by rw [← hes]; exact find_at _ _ 0 0 i e.tx m.1 hnd (by rw [List.getElem?_map, hi]; simp [hid]) (by rw [List.getElem?_map, hm]; rfl))).1
  have HS : Hid (∀ V, Below W.heap.size W V → (V.cell? ⟨w.heap.size, 1, none⟩ = some (.int .i64 e.tx) ∧ V.cell? ⟨A, 3, none⟩ = some (.map (some mb))) ∧ V.heap[mb]? = some (.map es M.length)) := fun V hV => ⟨⟨(row_eight (HX.out V hV)).2.1, (cell_of_row _ _ 3 _ _ _ (HA.out.keep hV).auto).trans rfl⟩, by rw [← hes]; exact (HA.out.keep hV).map⟩
  have HT : Hid (∀ V, Below W.heap.size W V → V.cell? ⟨m.1, 7, none⟩ = some (.int .i64 r.phase) ∧ V.cell? ⟨p, 0, none⟩ = some (.int .i64 x)) := fun V hV => ⟨(cell_of_row _ _ 7 _ _ _ ((HA.out.keep hV).row hi hm)).trans rfl, (cell_of_row _ _ 0 _ _ _ (keepB hV (keepB Hb.out hp))).trans rfl⟩
  clear h hG hi hes Hx hm hid hnd hp
  go_enter Tryd.func76, Tryd.ntmps76
  go_wp2_with fail
  go_region_held3 (fun w' => (w'.cell? ⟨w.heap.size, 1, none⟩ = some (.int .i64 e.tx) ∧ w'.cell? ⟨A, 3, none⟩ = some (.map (some mb))) ∧ w'.heap[mb]? = some (.map es M.length))
    (first | (with_reducible exact HS.out _ (stepD (Below.refl _ _))))
    (fail)
  go_wp2_with fail
  go_region_held3 (fun w' => w'.cell? ⟨m.1, 7, none⟩ = some (.int .i64 r.phase) ∧ w'.cell? ⟨p, 0, none⟩ = some (.int .i64 x))
    (first | (with_reducible exact HT.out _ (stepD (stepD (Below.refl _ _)))))
    (fail)
  all_goals
    go_wp2_with fail
    go_ret
    exact ⟨⟨_, rfl⟩, stepB Hb.out (stepD (stepD (Below.refl _ _)))⟩

set_option maxHeartbeats 4000000 in
set_option maxRecDepth 100000 in
theorem from_67 {B A : Nat} {os : List (Int × Int)} {recs : List Rec} {busy : List (Option Nat)} {taken : Nat} {M : List (Nat × Value)} {oa : Option Addr} {oc : Nat} {rv : Value} {mb eb : Nat} (w : World) (h : AutoAt B A os recs busy taken M oa oc rv mb eb w) (e : Ev) {i : Nat} {r : Rec} {m : Nat × Value} (hnd : (recs.map (·.id)).Nodup) (hi : recs[i]? = some r) (hid : r.id = e.tx) (hm : M[i]? = some m) (p q : Nat) (x z : Int) (hp : w.heap[p]? = some (.cells #[.int .i64 x] 89)) (hb : bits BinOp.and IntKind.i64 r.phase x = z) (hz : (z == 0) = false) (hq : w.heap[q]? = some (.cells #[fv 67] 103)) {R : Value → World → Prop}
    (HK : ∀ W, Below w.heap.size w W → Calls Tryd.prog 67 #[.pointer (some ⟨A, 0, none⟩), .pointer (some ⟨m.1, 0, none⟩), e.agg] W fun en w' => ∃ v, en = .returned v ∧ R v w') :
    Calls Tryd.prog 76 #[.pointer (some ⟨A, 0, none⟩), e.agg, .pointer (some ⟨p, 0, none⟩), .pointer (some ⟨q, 0, none⟩)] w fun en w' => ∃ v, en = .returned v ∧ R v w' := by
  obtain ⟨W, hW, Hb, hs, Hx⟩ := cells_new w #[.int .i64 e.kind, .int .i64 e.tx, .int .i64 e.thread, .int .i64 e.obj, .int .i64 e.op, .int .i64 e.key, .int .i64 e.val, .int .i64 e.ret] 34
  have HA := Lib.hid (h.keep Hb.out)
  have HX : Hid (∀ V, Below W.heap.size W V → V.heap[w.heap.size]? = some (.cells #[.int .i64 e.kind, .int .i64 e.tx, .int .i64 e.thread, .int .i64 e.obj, .int .i64 e.op, .int .i64 e.key, .int .i64 e.val, .int .i64 e.ret] 34)) := fun V hV => keepB hV Hx.out
  obtain ⟨es, hes⟩ : ∃ es, (ents (recs.map (·.id)) (M.map (·.1)) 0).toArray = es := ⟨_, rfl⟩
  have L : ∀ V : World, V.heap[mb]? = some (.map es M.length) → (Instr.lookup 83 (.map (some mb)) (.int .i64 e.tx) true).run Tryd.prog V = .ok (.tuple #[.pointer (some ⟨m.1, 0, none⟩), .bool true]) V := fun V hV => (map_look under83 e.tx (0 + i) _ hV (by rw [← hes]; exact find_at _ _ 0 0 i e.tx m.1 hnd (by rw [List.getElem?_map, hi]; simp [hid]) (by rw [List.getElem?_map, hm]; rfl))).1
  have HS : Hid (∀ V, Below W.heap.size W V → (V.cell? ⟨w.heap.size, 1, none⟩ = some (.int .i64 e.tx) ∧ V.cell? ⟨A, 3, none⟩ = some (.map (some mb))) ∧ V.heap[mb]? = some (.map es M.length)) := fun V hV => ⟨⟨(row_eight (HX.out V hV)).2.1, (cell_of_row _ _ 3 _ _ _ (HA.out.keep hV).auto).trans rfl⟩, by rw [← hes]; exact (HA.out.keep hV).map⟩
  have HT : Hid (∀ V, Below W.heap.size W V → V.cell? ⟨m.1, 7, none⟩ = some (.int .i64 r.phase) ∧ V.cell? ⟨p, 0, none⟩ = some (.int .i64 x)) := fun V hV => ⟨(cell_of_row _ _ 7 _ _ _ ((HA.out.keep hV).row hi hm)).trans rfl, (cell_of_row _ _ 0 _ _ _ (keepB hV (keepB Hb.out hp))).trans rfl⟩
  have B2 : Hid (Below W.heap.size W W.drew.drew) := stepD (stepD (Below.refl _ _))
  have HK2 := Lib.hid (HK W.drew.drew (stepB Hb.out B2.out))
  have x0 : W.drew.drew.cell? ⟨q, 0, none⟩ = some (fv 67) := (cell_of_row _ _ 0 _ _ _ (keepB B2.out (keepB Hb.out hq))).trans rfl
  obtain ⟨y0, y1, y2, y3, y4, y5, y6, y7⟩ := row_eight (HX.out _ B2.out)
  clear h hi hes Hx hm hid hnd hp hq HK
  go_enter Tryd.func76, Tryd.ntmps76
  go_wp2_with fail
  go_region_held3 (fun w' => (w'.cell? ⟨w.heap.size, 1, none⟩ = some (.int .i64 e.tx) ∧ w'.cell? ⟨A, 3, none⟩ = some (.map (some mb))) ∧ w'.heap[mb]? = some (.map es M.length))
    (first | (with_reducible exact HS.out _ (stepD (Below.refl _ _))))
    (fail)
  go_wp2_with fail
  go_region_held3 (fun w' => w'.cell? ⟨m.1, 7, none⟩ = some (.int .i64 r.phase) ∧ w'.cell? ⟨p, 0, none⟩ = some (.int .i64 x))
    (first | (with_reducible exact HT.out _ (stepD (stepD (Below.refl _ _)))))
    (fail)
  all_goals
    go_wp2_with (first | (go_at_call 67; (with_reducible refine HK2.out.mono ?_); rintro en w5 ⟨v, rfl, K⟩; have K' := Lib.hid K))
    go_ret
    exact ⟨_, rfl, K'.out⟩

set_option maxHeartbeats 4000000 in
set_option maxRecDepth 100000 in
theorem from_68 {B A : Nat} {os : List (Int × Int)} {recs : List Rec} {busy : List (Option Nat)} {taken : Nat} {M : List (Nat × Value)} {oa : Option Addr} {oc : Nat} {rv : Value} {mb eb : Nat} (w : World) (h : AutoAt B A os recs busy taken M oa oc rv mb eb w) (e : Ev) {i : Nat} {r : Rec} {m : Nat × Value} (hnd : (recs.map (·.id)).Nodup) (hi : recs[i]? = some r) (hid : r.id = e.tx) (hm : M[i]? = some m) (p q : Nat) (x z : Int) (hp : w.heap[p]? = some (.cells #[.int .i64 x] 89)) (hb : bits BinOp.and IntKind.i64 r.phase x = z) (hz : (z == 0) = false) (hq : w.heap[q]? = some (.cells #[fv 68] 103)) {R : Value → World → Prop}
    (HK : ∀ W, Below w.heap.size w W → Calls Tryd.prog 68 #[.pointer (some ⟨A, 0, none⟩), .pointer (some ⟨m.1, 0, none⟩), e.agg] W fun en w' => ∃ v, en = .returned v ∧ R v w') :
    Calls Tryd.prog 76 #[.pointer (some ⟨A, 0, none⟩), e.agg, .pointer (some ⟨p, 0, none⟩), .pointer (some ⟨q, 0, none⟩)] w fun en w' => ∃ v, en = .returned v ∧ R v w' := by
  obtain ⟨W, hW, Hb, hs, Hx⟩ := cells_new w #[.int .i64 e.kind, .int .i64 e.tx, .int .i64 e.thread, .int .i64 e.obj, .int .i64 e.op, .int .i64 e.key, .int .i64 e.val, .int .i64 e.ret] 34
  have HA := Lib.hid (h.keep Hb.out)
  have HX : Hid (∀ V, Below W.heap.size W V → V.heap[w.heap.size]? = some (.cells #[.int .i64 e.kind, .int .i64 e.tx, .int .i64 e.thread, .int .i64 e.obj, .int .i64 e.op, .int .i64 e.key, .int .i64 e.val, .int .i64 e.ret] 34)) := fun V hV => keepB hV Hx.out
  obtain ⟨es, hes⟩ : ∃ es, (ents (recs.map (·.id)) (M.map (·.1)) 0).toArray = es := ⟨_, rfl⟩
  have L : ∀ V : World, V.heap[mb]? = some (.map es M.length) → (Instr.lookup 83 (.map (some mb)) (.int .i64 e.tx) true).run Tryd.prog V = .ok (.tuple #[.pointer (some ⟨m.1, 0, none⟩), .bool true]) V := fun V hV => (map_look under83 e.tx (0 + i) _ hV (by rw [← hes]; exact find_at _ _ 0 0 i e.tx m.1 hnd (by rw [List.getElem?_map, hi]; simp [hid]) (by rw [List.getElem?_map, hm]; rfl))).1
  have HS : Hid (∀ V, Below W.heap.size W V → (V.cell? ⟨w.heap.size, 1, none⟩ = some (.int .i64 e.tx) ∧ V.cell? ⟨A, 3, none⟩ = some (.map (some mb))) ∧ V.heap[mb]? = some (.map es M.length)) := fun V hV => ⟨⟨(row_eight (HX.out V hV)).2.1, (cell_of_row _ _ 3 _ _ _ (HA.out.keep hV).auto).trans rfl⟩, by rw [← hes]; exact (HA.out.keep hV).map⟩
  have HT : Hid (∀ V, Below W.heap.size W V → V.cell? ⟨m.1, 7, none⟩ = some (.int .i64 r.phase) ∧ V.cell? ⟨p, 0, none⟩ = some (.int .i64 x)) := fun V hV => ⟨(cell_of_row _ _ 7 _ _ _ ((HA.out.keep hV).row hi hm)).trans rfl, (cell_of_row _ _ 0 _ _ _ (keepB hV (keepB Hb.out hp))).trans rfl⟩
  have B2 : Hid (Below W.heap.size W W.drew.drew) := stepD (stepD (Below.refl _ _))
  have HK2 := Lib.hid (HK W.drew.drew (stepB Hb.out B2.out))
  have x0 : W.drew.drew.cell? ⟨q, 0, none⟩ = some (fv 68) := (cell_of_row _ _ 0 _ _ _ (keepB B2.out (keepB Hb.out hq))).trans rfl
  obtain ⟨y0, y1, y2, y3, y4, y5, y6, y7⟩ := row_eight (HX.out _ B2.out)
  clear h hi hes Hx hm hid hnd hp hq HK
  go_enter Tryd.func76, Tryd.ntmps76
  go_wp2_with fail
  go_region_held3 (fun w' => (w'.cell? ⟨w.heap.size, 1, none⟩ = some (.int .i64 e.tx) ∧ w'.cell? ⟨A, 3, none⟩ = some (.map (some mb))) ∧ w'.heap[mb]? = some (.map es M.length))
    (first | (with_reducible exact HS.out _ (stepD (Below.refl _ _))))
    (fail)
  go_wp2_with fail
  go_region_held3 (fun w' => w'.cell? ⟨m.1, 7, none⟩ = some (.int .i64 r.phase) ∧ w'.cell? ⟨p, 0, none⟩ = some (.int .i64 x))
    (first | (with_reducible exact HT.out _ (stepD (stepD (Below.refl _ _)))))
    (fail)
  all_goals
    go_wp2_with (first | (go_at_call 68; (with_reducible refine HK2.out.mono ?_); rintro en w5 ⟨v, rfl, K⟩; have K' := Lib.hid K))
    go_ret
    exact ⟨_, rfl, K'.out⟩

set_option maxHeartbeats 4000000 in
set_option maxRecDepth 100000 in
theorem from_69 {B A : Nat} {os : List (Int × Int)} {recs : List Rec} {busy : List (Option Nat)} {taken : Nat} {M : List (Nat × Value)} {oa : Option Addr} {oc : Nat} {rv : Value} {mb eb : Nat} (w : World) (h : AutoAt B A os recs busy taken M oa oc rv mb eb w) (e : Ev) {i : Nat} {r : Rec} {m : Nat × Value} (hnd : (recs.map (·.id)).Nodup) (hi : recs[i]? = some r) (hid : r.id = e.tx) (hm : M[i]? = some m) (p q : Nat) (x z : Int) (hp : w.heap[p]? = some (.cells #[.int .i64 x] 89)) (hb : bits BinOp.and IntKind.i64 r.phase x = z) (hz : (z == 0) = false) (hq : w.heap[q]? = some (.cells #[fv 69] 103)) {R : Value → World → Prop}
    (HK : ∀ W, Below w.heap.size w W → Calls Tryd.prog 69 #[.pointer (some ⟨A, 0, none⟩), .pointer (some ⟨m.1, 0, none⟩), e.agg] W fun en w' => ∃ v, en = .returned v ∧ R v w') :
    Calls Tryd.prog 76 #[.pointer (some ⟨A, 0, none⟩), e.agg, .pointer (some ⟨p, 0, none⟩), .pointer (some ⟨q, 0, none⟩)] w fun en w' => ∃ v, en = .returned v ∧ R v w' := by
  obtain ⟨W, hW, Hb, hs, Hx⟩ := cells_new w #[.int .i64 e.kind, .int .i64 e.tx, .int .i64 e.thread, .int .i64 e.obj, .int .i64 e.op, .int .i64 e.key, .int .i64 e.val, .int .i64 e.ret] 34
  have HA := Lib.hid (h.keep Hb.out)
  have HX : Hid (∀ V, Below W.heap.size W V → V.heap[w.heap.size]? = some (.cells #[.int .i64 e.kind, .int .i64 e.tx, .int .i64 e.thread, .int .i64 e.obj, .int .i64 e.op, .int .i64 e.key, .int .i64 e.val, .int .i64 e.ret] 34)) := fun V hV => keepB hV Hx.out
  obtain ⟨es, hes⟩ : ∃ es, (ents (recs.map (·.id)) (M.map (·.1)) 0).toArray = es := ⟨_, rfl⟩
  have L : ∀ V : World, V.heap[mb]? = some (.map es M.length) → (Instr.lookup 83 (.map (some mb)) (.int .i64 e.tx) true).run Tryd.prog V = .ok (.tuple #[.pointer (some ⟨m.1, 0, none⟩), .bool true]) V := fun V hV => (map_look under83 e.tx (0 + i) _ hV (by rw [← hes]; exact find_at _ _ 0 0 i e.tx m.1 hnd (by rw [List.getElem?_map, hi]; simp [hid]) (by rw [List.getElem?_map, hm]; rfl))).1
  have HS : Hid (∀ V, Below W.heap.size W V → (V.cell? ⟨w.heap.size, 1, none⟩ = some (.int .i64 e.tx) ∧ V.cell? ⟨A, 3, none⟩ = some (.map (some mb))) ∧ V.heap[mb]? = some (.map es M.length)) := fun V hV => ⟨⟨(row_eight (HX.out V hV)).2.1, (cell_of_row _ _ 3 _ _ _ (HA.out.keep hV).auto).trans rfl⟩, by rw [← hes]; exact (HA.out.keep hV).map⟩
  have HT : Hid (∀ V, Below W.heap.size W V → V.cell? ⟨m.1, 7, none⟩ = some (.int .i64 r.phase) ∧ V.cell? ⟨p, 0, none⟩ = some (.int .i64 x)) := fun V hV => ⟨(cell_of_row _ _ 7 _ _ _ ((HA.out.keep hV).row hi hm)).trans rfl, (cell_of_row _ _ 0 _ _ _ (keepB hV (keepB Hb.out hp))).trans rfl⟩
  have B2 : Hid (Below W.heap.size W W.drew.drew) := stepD (stepD (Below.refl _ _))
  have HK2 := Lib.hid (HK W.drew.drew (stepB Hb.out B2.out))
  have x0 : W.drew.drew.cell? ⟨q, 0, none⟩ = some (fv 69) := (cell_of_row _ _ 0 _ _ _ (keepB B2.out (keepB Hb.out hq))).trans rfl
  obtain ⟨y0, y1, y2, y3, y4, y5, y6, y7⟩ := row_eight (HX.out _ B2.out)
  clear h hi hes Hx hm hid hnd hp hq HK
  go_enter Tryd.func76, Tryd.ntmps76
  go_wp2_with fail
  go_region_held3 (fun w' => (w'.cell? ⟨w.heap.size, 1, none⟩ = some (.int .i64 e.tx) ∧ w'.cell? ⟨A, 3, none⟩ = some (.map (some mb))) ∧ w'.heap[mb]? = some (.map es M.length))
    (first | (with_reducible exact HS.out _ (stepD (Below.refl _ _))))
    (fail)
  go_wp2_with fail
  go_region_held3 (fun w' => w'.cell? ⟨m.1, 7, none⟩ = some (.int .i64 r.phase) ∧ w'.cell? ⟨p, 0, none⟩ = some (.int .i64 x))
    (first | (with_reducible exact HT.out _ (stepD (stepD (Below.refl _ _)))))
    (fail)
  all_goals
    go_wp2_with (first | (go_at_call 69; (with_reducible refine HK2.out.mono ?_); rintro en w5 ⟨v, rfl, K⟩; have K' := Lib.hid K))
    go_ret
    exact ⟨_, rfl, K'.out⟩

set_option maxHeartbeats 4000000 in
set_option maxRecDepth 100000 in
theorem from_70 {B A : Nat} {os : List (Int × Int)} {recs : List Rec} {busy : List (Option Nat)} {taken : Nat} {M : List (Nat × Value)} {oa : Option Addr} {oc : Nat} {rv : Value} {mb eb : Nat} (w : World) (h : AutoAt B A os recs busy taken M oa oc rv mb eb w) (e : Ev) {i : Nat} {r : Rec} {m : Nat × Value} (hnd : (recs.map (·.id)).Nodup) (hi : recs[i]? = some r) (hid : r.id = e.tx) (hm : M[i]? = some m) (p q : Nat) (x z : Int) (hp : w.heap[p]? = some (.cells #[.int .i64 x] 89)) (hb : bits BinOp.and IntKind.i64 r.phase x = z) (hz : (z == 0) = false) (hq : w.heap[q]? = some (.cells #[fv 70] 103)) {R : Value → World → Prop}
    (HK : ∀ W, Below w.heap.size w W → Calls Tryd.prog 70 #[.pointer (some ⟨A, 0, none⟩), .pointer (some ⟨m.1, 0, none⟩), e.agg] W fun en w' => ∃ v, en = .returned v ∧ R v w') :
    Calls Tryd.prog 76 #[.pointer (some ⟨A, 0, none⟩), e.agg, .pointer (some ⟨p, 0, none⟩), .pointer (some ⟨q, 0, none⟩)] w fun en w' => ∃ v, en = .returned v ∧ R v w' := by
  obtain ⟨W, hW, Hb, hs, Hx⟩ := cells_new w #[.int .i64 e.kind, .int .i64 e.tx, .int .i64 e.thread, .int .i64 e.obj, .int .i64 e.op, .int .i64 e.key, .int .i64 e.val, .int .i64 e.ret] 34
  have HA := Lib.hid (h.keep Hb.out)
  have HX : Hid (∀ V, Below W.heap.size W V → V.heap[w.heap.size]? = some (.cells #[.int .i64 e.kind, .int .i64 e.tx, .int .i64 e.thread, .int .i64 e.obj, .int .i64 e.op, .int .i64 e.key, .int .i64 e.val, .int .i64 e.ret] 34)) := fun V hV => keepB hV Hx.out
  obtain ⟨es, hes⟩ : ∃ es, (ents (recs.map (·.id)) (M.map (·.1)) 0).toArray = es := ⟨_, rfl⟩
  have L : ∀ V : World, V.heap[mb]? = some (.map es M.length) → (Instr.lookup 83 (.map (some mb)) (.int .i64 e.tx) true).run Tryd.prog V = .ok (.tuple #[.pointer (some ⟨m.1, 0, none⟩), .bool true]) V := fun V hV => (map_look under83 e.tx (0 + i) _ hV (by rw [← hes]; exact find_at _ _ 0 0 i e.tx m.1 hnd (by rw [List.getElem?_map, hi]; simp [hid]) (by rw [List.getElem?_map, hm]; rfl))).1
  have HS : Hid (∀ V, Below W.heap.size W V → (V.cell? ⟨w.heap.size, 1, none⟩ = some (.int .i64 e.tx) ∧ V.cell? ⟨A, 3, none⟩ = some (.map (some mb))) ∧ V.heap[mb]? = some (.map es M.length)) := fun V hV => ⟨⟨(row_eight (HX.out V hV)).2.1, (cell_of_row _ _ 3 _ _ _ (HA.out.keep hV).auto).trans rfl⟩, by rw [← hes]; exact (HA.out.keep hV).map⟩
  have HT : Hid (∀ V, Below W.heap.size W V → V.cell? ⟨m.1, 7, none⟩ = some (.int .i64 r.phase) ∧ V.cell? ⟨p, 0, none⟩ = some (.int .i64 x)) := fun V hV => ⟨(cell_of_row _ _ 7 _ _ _ ((HA.out.keep hV).row hi hm)).trans rfl, (cell_of_row _ _ 0 _ _ _ (keepB hV (keepB Hb.out hp))).trans rfl⟩
  have B2 : Hid (Below W.heap.size W W.drew.drew) := stepD (stepD (Below.refl _ _))
  have HK2 := Lib.hid (HK W.drew.drew (stepB Hb.out B2.out))
  have x0 : W.drew.drew.cell? ⟨q, 0, none⟩ = some (fv 70) := (cell_of_row _ _ 0 _ _ _ (keepB B2.out (keepB Hb.out hq))).trans rfl
  obtain ⟨y0, y1, y2, y3, y4, y5, y6, y7⟩ := row_eight (HX.out _ B2.out)
  clear h hi hes Hx hm hid hnd hp hq HK
  go_enter Tryd.func76, Tryd.ntmps76
  go_wp2_with fail
  go_region_held3 (fun w' => (w'.cell? ⟨w.heap.size, 1, none⟩ = some (.int .i64 e.tx) ∧ w'.cell? ⟨A, 3, none⟩ = some (.map (some mb))) ∧ w'.heap[mb]? = some (.map es M.length))
    (first | (with_reducible exact HS.out _ (stepD (Below.refl _ _))))
    (fail)
  go_wp2_with fail
  go_region_held3 (fun w' => w'.cell? ⟨m.1, 7, none⟩ = some (.int .i64 r.phase) ∧ w'.cell? ⟨p, 0, none⟩ = some (.int .i64 x))
    (first | (with_reducible exact HT.out _ (stepD (stepD (Below.refl _ _)))))
    (fail)
  all_goals
    go_wp2_with (first | (go_at_call 70; (with_reducible refine HK2.out.mono ?_); rintro en w5 ⟨v, rfl, K⟩; have K' := Lib.hid K))
    go_ret
    exact ⟨_, rfl, K'.out⟩

set_option maxHeartbeats 4000000 in
set_option maxRecDepth 100000 in
theorem from_71 {B A : Nat} {os : List (Int × Int)} {recs : List Rec} {busy : List (Option Nat)} {taken : Nat} {M : List (Nat × Value)} {oa : Option Addr} {oc : Nat} {rv : Value} {mb eb : Nat} (w : World) (h : AutoAt B A os recs busy taken M oa oc rv mb eb w) (e : Ev) {i : Nat} {r : Rec} {m : Nat × Value} (hnd : (recs.map (·.id)).Nodup) (hi : recs[i]? = some r) (hid : r.id = e.tx) (hm : M[i]? = some m) (p q : Nat) (x z : Int) (hp : w.heap[p]? = some (.cells #[.int .i64 x] 89)) (hb : bits BinOp.and IntKind.i64 r.phase x = z) (hz : (z == 0) = false) (hq : w.heap[q]? = some (.cells #[fv 71] 103)) {R : Value → World → Prop}
    (HK : ∀ W, Below w.heap.size w W → Calls Tryd.prog 71 #[.pointer (some ⟨A, 0, none⟩), .pointer (some ⟨m.1, 0, none⟩), e.agg] W fun en w' => ∃ v, en = .returned v ∧ R v w') :
    Calls Tryd.prog 76 #[.pointer (some ⟨A, 0, none⟩), e.agg, .pointer (some ⟨p, 0, none⟩), .pointer (some ⟨q, 0, none⟩)] w fun en w' => ∃ v, en = .returned v ∧ R v w' := by
  obtain ⟨W, hW, Hb, hs, Hx⟩ := cells_new w #[.int .i64 e.kind, .int .i64 e.tx, .int .i64 e.thread, .int .i64 e.obj, .int .i64 e.op, .int .i64 e.key, .int .i64 e.val, .int .i64 e.ret] 34
  have HA := Lib.hid (h.keep Hb.out)
  have HX : Hid (∀ V, Below W.heap.size W V → V.heap[w.heap.size]? = some (.cells #[.int .i64 e.kind, .int .i64 e.tx, .int .i64 e.thread, .int .i64 e.obj, .int .i64 e.op, .int .i64 e.key, .int .i64 e.val, .int .i64 e.ret] 34)) := fun V hV => keepB hV Hx.out
  obtain ⟨es, hes⟩ : ∃ es, (ents (recs.map (·.id)) (M.map (·.1)) 0).toArray = es := ⟨_, rfl⟩
  have L : ∀ V : World, V.heap[mb]? = some (.map es M.length) → (Instr.lookup 83 (.map (some mb)) (.int .i64 e.tx) true).run Tryd.prog V = .ok (.tuple #[.pointer (some ⟨m.1, 0, none⟩), .bool true]) V := fun V hV => (map_look under83 e.tx (0 + i) _ hV (by rw [← hes]; exact find_at _ _ 0 0 i e.tx m.1 hnd (by rw [List.getElem?_map, hi]; simp [hid]) (by rw [List.getElem?_map, hm]; rfl))).1
  have HS : Hid (∀ V, Below W.heap.size W V → (V.cell? ⟨w.heap.size, 1, none⟩ = some (.int .i64 e.tx) ∧ V.cell? ⟨A, 3, none⟩ = some (.map (some mb))) ∧ V.heap[mb]? = some (.map es M.length)) := fun V hV => ⟨⟨(row_eight (HX.out V hV)).2.1, (cell_of_row _ _ 3 _ _ _ (HA.out.keep hV).auto).trans rfl⟩, by rw [← hes]; exact (HA.out.keep hV).map⟩
  have HT : Hid (∀ V, Below W.heap.size W V → V.cell? ⟨m.1, 7, none⟩ = some (.int .i64 r.phase) ∧ V.cell? ⟨p, 0, none⟩ = some (.int .i64 x)) := fun V hV => ⟨(cell_of_row _ _ 7 _ _ _ ((HA.out.keep hV).row hi hm)).trans rfl, (cell_of_row _ _ 0 _ _ _ (keepB hV (keepB Hb.out hp))).trans rfl⟩
  have B2 : Hid (Below W.heap.size W W.drew.drew) := stepD (stepD (Below.refl _ _))
  have HK2 := Lib.hid (HK W.drew.drew (stepB Hb.out B2.out))
  have x0 : W.drew.drew.cell? ⟨q, 0, none⟩ = some (fv 71) := (cell_of_row _ _ 0 _ _ _ (keepB B2.out (keepB Hb.out hq))).trans rfl
  obtain ⟨y0, y1, y2, y3, y4, y5, y6, y7⟩ := row_eight (HX.out _ B2.out)
  clear h hi hes Hx hm hid hnd hp hq HK
  go_enter Tryd.func76, Tryd.ntmps76
  go_wp2_with fail
  go_region_held3 (fun w' => (w'.cell? ⟨w.heap.size, 1, none⟩ = some (.int .i64 e.tx) ∧ w'.cell? ⟨A, 3, none⟩ = some (.map (some mb))) ∧ w'.heap[mb]? = some (.map es M.length))
    (first | (with_reducible exact HS.out _ (stepD (Below.refl _ _))))
    (fail)
  go_wp2_with fail
  go_region_held3 (fun w' => w'.cell? ⟨m.1, 7, none⟩ = some (.int .i64 r.phase) ∧ w'.cell? ⟨p, 0, none⟩ = some (.int .i64 x))
    (first | (with_reducible exact HT.out _ (stepD (stepD (Below.refl _ _)))))
    (fail)
  all_goals
    go_wp2_with (first | (go_at_call 71; (with_reducible refine HK2.out.mono ?_); rintro en w5 ⟨v, rfl, K⟩; have K' := Lib.hid K))
    go_ret
    exact ⟨_, rfl, K'.out⟩

set_option maxHeartbeats 4000000 in
set_option maxRecDepth 100000 in
theorem from_72 {B A : Nat} {os : List (Int × Int)} {recs : List Rec} {busy : List (Option Nat)} {taken : Nat} {M : List (Nat × Value)} {oa : Option Addr} {oc : Nat} {rv : Value} {mb eb : Nat} (w : World) (h : AutoAt B A os recs busy taken M oa oc rv mb eb w) (e : Ev) {i : Nat} {r : Rec} {m : Nat × Value} (hnd : (recs.map (·.id)).Nodup) (hi : recs[i]? = some r) (hid : r.id = e.tx) (hm : M[i]? = some m) (p q : Nat) (x z : Int) (hp : w.heap[p]? = some (.cells #[.int .i64 x] 89)) (hb : bits BinOp.and IntKind.i64 r.phase x = z) (hz : (z == 0) = false) (hq : w.heap[q]? = some (.cells #[fv 72] 103)) {R : Value → World → Prop}
    (HK : ∀ W, Below w.heap.size w W → Calls Tryd.prog 72 #[.pointer (some ⟨A, 0, none⟩), .pointer (some ⟨m.1, 0, none⟩), e.agg] W fun en w' => ∃ v, en = .returned v ∧ R v w') :
    Calls Tryd.prog 76 #[.pointer (some ⟨A, 0, none⟩), e.agg, .pointer (some ⟨p, 0, none⟩), .pointer (some ⟨q, 0, none⟩)] w fun en w' => ∃ v, en = .returned v ∧ R v w' := by
  obtain ⟨W, hW, Hb, hs, Hx⟩ := cells_new w #[.int .i64 e.kind, .int .i64 e.tx, .int .i64 e.thread, .int .i64 e.obj, .int .i64 e.op, .int .i64 e.key, .int .i64 e.val, .int .i64 e.ret] 34
  have HA := Lib.hid (h.keep Hb.out)
  have HX : Hid (∀ V, Below W.heap.size W V → V.heap[w.heap.size]? = some (.cells #[.int .i64 e.kind, .int .i64 e.tx, .int .i64 e.thread, .int .i64 e.obj, .int .i64 e.op, .int .i64 e.key, .int .i64 e.val, .int .i64 e.ret] 34)) := fun V hV => keepB hV Hx.out
  obtain ⟨es, hes⟩ : ∃ es, (ents (recs.map (·.id)) (M.map (·.1)) 0).toArray = es := ⟨_, rfl⟩
  have L : ∀ V : World, V.heap[mb]? = some (.map es M.length) → (Instr.lookup 83 (.map (some mb)) (.int .i64 e.tx) true).run Tryd.prog V = .ok (.tuple #[.pointer (some ⟨m.1, 0, none⟩), .bool true]) V := fun V hV => (map_look under83 e.tx (0 + i) _ hV (by rw [← hes]; exact find_at _ _ 0 0 i e.tx m.1 hnd (by rw [List.getElem?_map, hi]; simp [hid]) (by rw [List.getElem?_map, hm]; rfl))).1
  have HS : Hid (∀ V, Below W.heap.size W V → (V.cell? ⟨w.heap.size, 1, none⟩ = some (.int .i64 e.tx) ∧ V.cell? ⟨A, 3, none⟩ = some (.map (some mb))) ∧ V.heap[mb]? = some (.map es M.length)) := fun V hV => ⟨⟨(row_eight (HX.out V hV)).2.1, (cell_of_row _ _ 3 _ _ _ (HA.out.keep hV).auto).trans rfl⟩, by rw [← hes]; exact (HA.out.keep hV).map⟩
  have HT : Hid (∀ V, Below W.heap.size W V → V.cell? ⟨m.1, 7, none⟩ = some (.int .i64 r.phase) ∧ V.cell? ⟨p, 0, none⟩ = some (.int .i64 x)) := fun V hV => ⟨(cell_of_row _ _ 7 _ _ _ ((HA.out.keep hV).row hi hm)).trans rfl, (cell_of_row _ _ 0 _ _ _ (keepB hV (keepB Hb.out hp))).trans rfl⟩
  have B2 : Hid (Below W.heap.size W W.drew.drew) := stepD (stepD (Below.refl _ _))
  have HK2 := Lib.hid (HK W.drew.drew (stepB Hb.out B2.out))
  have x0 : W.drew.drew.cell? ⟨q, 0, none⟩ = some (fv 72) := (cell_of_row _ _ 0 _ _ _ (keepB B2.out (keepB Hb.out hq))).trans rfl
  obtain ⟨y0, y1, y2, y3, y4, y5, y6, y7⟩ := row_eight (HX.out _ B2.out)
  clear h hi hes Hx hm hid hnd hp hq HK
  go_enter Tryd.func76, Tryd.ntmps76
  go_wp2_with fail
  go_region_held3 (fun w' => (w'.cell? ⟨w.heap.size, 1, none⟩ = some (.int .i64 e.tx) ∧ w'.cell? ⟨A, 3, none⟩ = some (.map (some mb))) ∧ w'.heap[mb]? = some (.map es M.length))
    (first | (with_reducible exact HS.out _ (stepD (Below.refl _ _))))
    (fail)
  go_wp2_with fail
  go_region_held3 (fun w' => w'.cell? ⟨m.1, 7, none⟩ = some (.int .i64 r.phase) ∧ w'.cell? ⟨p, 0, none⟩ = some (.int .i64 x))
    (first | (with_reducible exact HT.out _ (stepD (stepD (Below.refl _ _)))))
    (fail)
  all_goals
    go_wp2_with (first | (go_at_call 72; (with_reducible refine HK2.out.mono ?_); rintro en w5 ⟨v, rfl, K⟩; have K' := Lib.hid K))
    go_ret
    exact ⟨_, rfl, K'.out⟩
end Go.Proofs.YtfjjhjojcgacbaaDoor

/- The automaton's plain step. -/
namespace Go.Proofs.YtfjjhjojcgacbaaDoor
open Go.RowKit Go.Maps Go.WideMaps Go.WideElems Go.ChangeShapes Go.WideShapes
variable {T : TypeId} {er : Nat → Addr}

/-- An automaton. -/
structure St where
  recs : List Rec
  busy : List (Option Nat)
  taken : Nat
/-- The place of a record. -/
def findR (id : Int) : List Rec → Nat → Option Nat
  | [], _ => none
  | r :: rs, i => if r.id = id then some i else findR id rs (i + 1)
theorem findR_some (id : Int) : ∀ (rs : List Rec) (i j : Nat), findR id rs i = some j → ∃ k r, j = i + k ∧ rs[k]? = some r ∧ r.id = id
  | [], _, _, h => by simp [findR] at h
  | r :: rs, i, j, h => by
    unfold findR at h
    split at h
    · injection h with h
      exact ⟨0, r, by omega, rfl, by assumption⟩
    · obtain ⟨k, r', h1, h2, h3⟩ := findR_some id rs (i + 1) j h
      exact ⟨k + 1, r', by omega, by simpa using h2, h3⟩
theorem findR_none (id : Int) : ∀ (rs : List Rec) (i : Nat), findR id rs i = none → ¬ id ∈ rs.map (·.id)
  | [], _, _ => by simp
  | r :: rs, i, h => by
    unfold findR at h
    split at h
    · cases h
    · have := findR_none id rs (i + 1) h
      rename_i g
      rw [List.map_cons, List.mem_cons, not_or]
      exact ⟨fun e => g e.symm, this⟩
/-- What an event does to a record that stands there. -/
def effR (s : St) (e : Ev) (i : Nat) (r : Rec) : Option St :=
  if e.kind = 2 then if r.phase = 1 then some { s with recs := s.recs.set i { r with phase := 2, ds := r.ds ++ [⟨e.obj, e.op, e.key, e.val, 0, 0, (s.taken : Int), -1⟩] } } else none
  else if e.kind = 3 then if r.phase = 2 then (match r.ds.getLast? with
    | some d => if fitsZ d.op e.ret then some { s with recs := s.recs.set i { r with phase := 1, ds := r.ds.dropLast ++ [{ d with ret := e.ret, got := e.val, back := (s.taken : Int) }] } } else none
    | none => none) else none
  else if e.kind = 4 then if r.phase = 1 then some { s with recs := s.recs.set i { r with phase := 4, status := 2, tri := (s.taken : Int) } } else none
  else if e.kind = 5 then if r.phase = 4 then some { s with recs := s.recs.set i { r with phase := 16, status := 3, fin := (s.taken : Int) }, busy := s.busy.set r.thread.toNat none } else none
  else if e.kind = 6 then if r.phase = 16 then none else some { s with recs := s.recs.set i { r with phase := 16, status := 4, fin := (s.taken : Int) }, busy := s.busy.set r.thread.toNat none }
  else if r.phase = 1 then some { s with recs := s.recs.set i { r with phase := 8 } } else none
/-- What an event does. -/
def effZ (s : St) (e : Ev) : Option St :=
  if e.kind = 1 then (match findR e.tx s.recs 0 with
    | some _ => none
    | none => if s.busy.getD e.thread.toNat none = none then some { s with recs := s.recs ++ [⟨e.tx, e.thread, 1, (s.taken : Int), -1, -1, [], 1⟩], busy := s.busy.set e.thread.toNat (some s.recs.length) } else none)
  else match findR e.tx s.recs 0 with
    | none => none
    | some i => match s.recs[i]? with
      | none => none
      | some r => effR s e i r
/-- An event is taken. -/
def stepZ (os : List (Int × Int)) (s : St) (e : Ev) : Option St :=
  if s.taken < 400 ∧ validN e = 0 ∧ calledOk os e = true then (effZ s e).map fun s => { s with taken := s.taken + 1 } else none
def St.zero : St := ⟨[], [none, none, none, none, none, none, none, none], 0⟩
/-- Events are taken one by one. -/
def runZ (os : List (Int × Int)) (s : St) : List Ev → Option St
  | [] => some s
  | e :: es => (stepZ os s e).bind fun s => runZ os s es
/-- What holds of a record. -/
structure RecOk (taken : Nat) (r : Rec) : Prop where
  phase : r.phase = 1 ∨ r.phase = 2 ∨ r.phase = 4 ∨ r.phase = 8 ∨ r.phase = 16
  thread : 0 ≤ r.thread ∧ r.thread < 8
  deeds : r.phase = 2 → r.ds ≠ []
  few : r.ds.length ≤ taken
/-- What holds of an automaton. -/
structure St.Ok (s : St) : Prop where
  ids : (s.recs.map (·.id)).Nodup
  busyL : s.busy.length = 8
  busyV : ∀ j i, s.busy.getD j none = some i → i < s.recs.length
  recs : ∀ r ∈ s.recs, RecOk s.taken r
  few : s.recs.length ≤ s.taken
  taken : s.taken ≤ 400
theorem St.zero_ok : St.zero.Ok := by
  refine ⟨by simp [St.zero], rfl, fun j i h => ?_, fun r h => by simp [St.zero] at h, Nat.le_refl _, by simp [St.zero]⟩
  exfalso
  revert h
  simp only [St.zero]
  rcases j with _ | _ | _ | _ | _ | _ | _ | _ | j <;> simp
theorem RecOk.up {t : Nat} {r : Rec} (h : RecOk t r) : RecOk (t + 1) r := ⟨h.phase, h.thread, h.deeds, Nat.le_succ_of_le h.few⟩
theorem getD_set_none (l : List (Option Nat)) (k j i : Nat) (h : (l.set k none).getD j none = some i) : l.getD j none = some i := by
  rw [List.getD_eq_getElem?_getD, List.getElem?_set] at h
  split at h
  · split at h <;> simp at h
  · rw [List.getD_eq_getElem?_getD]; exact h
/-- A record set where it stands. -/
theorem St.Ok.setR {s : St} (h : s.Ok) {i : Nat} {r r' : Rec} (hi : s.recs[i]? = some r) (hid : r'.id = r.id) (hr : RecOk (s.taken + 1) r') (ht : s.taken < 400) : St.Ok ⟨s.recs.set i r', s.busy, s.taken + 1⟩ := by
  refine ⟨by rw [set_map hi hid]; exact h.ids, h.busyL, fun j k hk => by rw [List.length_set]; exact h.busyV j k hk, fun x hx => ?_, by rw [List.length_set]; exact Nat.le_succ_of_le h.few, ht⟩
  rcases List.mem_or_eq_of_mem_set hx with hx | rfl
  · exact (h.recs x hx).up
  · exact hr
theorem St.Ok.free {s : St} (h : s.Ok) (k : Nat) : St.Ok ⟨s.recs, s.busy.set k none, s.taken⟩ :=
  ⟨h.ids, by rw [List.length_set]; exact h.busyL, fun j i hj => h.busyV j i (getD_set_none _ _ _ _ hj), h.recs, h.few, h.taken⟩
theorem validN_thread {e : Ev} (h : validN e = 0) (hk : e.kind = 1) : 0 ≤ e.thread ∧ e.thread < 8 := by
  have hf : finside 1 e.thread = true := by
    cases hf : finside 1 e.thread with
    | true => rfl
    | false =>
      exfalso
      unfold validN at h
      rw [hk] at h
      have e2 : (partsL 1).foldl (vstep e) (some e) = none := by
        cases h0 : finside 0 e.tx <;> simp [partsL, vstep, whenB, fcell, Ev.at, Ev.put, hf, h0]
      rw [e2] at h
      split at h
      · split at h <;> simp at h
      · simp at h
  unfold finside at hf
  rw [Bool.and_eq_true, decide_eq_true_eq, decide_eq_true_eq] at hf
  obtain ⟨h1, h2⟩ := hf
  have e1 : bndL.getD (2 * 1) 0 = 0 := rfl
  have e2 : bndL.getD (2 * 1 + 1) 0 = 7 := rfl
  rw [e1] at h1
  rw [e2] at h2
  exact ⟨h1, by omega⟩
theorem validN_kind {e : Ev} (h : validN e = 0) : 1 ≤ e.kind ∧ e.kind ≤ 7 := by
  unfold validN at h
  split at h
  · rename_i hk
    unfold isKind at hk
    rw [Bool.and_eq_true, decide_eq_true_eq, decide_eq_true_eq] at hk
    exact hk
  · cases h
theorem nodup_snoc {l : List Int} {x : Int} (h : l.Nodup) (hx : ¬ x ∈ l) : (l ++ [x]).Nodup := by
  rw [List.nodup_append]
  refine ⟨h, by simp, ?_⟩
  intro a ha b hb
  simp at hb
  subst hb
  rintro rfl
  exact hx ha
theorem stepZ_ok {os : List (Int × Int)} {s s' : St} {e : Ev} (h : s.Ok) (hs : stepZ os s e = some s') : s'.Ok := by
  unfold stepZ at hs
  split at hs
  · rename_i hc
    obtain ⟨ht, hv, -⟩ := hc
    obtain ⟨s1, h1, rfl⟩ := Option.map_eq_some_iff.1 hs
    unfold effZ at h1
    split at h1
    · rename_i hk
      split at h1
      · cases h1
      · rename_i hf
        split at h1
        · injection h1 with h1
          subst h1
          have hn := findR_none _ _ _ hf
          have hth := validN_thread hv hk
          refine ⟨?_, ?_, ?_, ?_, ?_, ht⟩
          · rw [List.map_append]
            exact nodup_snoc h.ids hn
          · rw [List.length_set]; exact h.busyL
          · intro j i hj
            simp only [List.length_append, List.length_cons, List.length_nil]
            rw [List.getD_eq_getElem?_getD, List.getElem?_set] at hj
            split at hj
            · split at hj
              · simp at hj; omega
              · simp at hj
            · have := h.busyV j i (by rw [List.getD_eq_getElem?_getD]; exact hj)
              omega
          · intro r hr
            rcases List.mem_append.1 hr with hr | hr
            · exact (h.recs r hr).up
            · simp at hr
              subst hr
              exact ⟨.inl rfl, hth, fun h => by simp at h, Nat.zero_le _⟩
          · have := h.few
            simp only [List.length_append, List.length_cons, List.length_nil]
            omega
        · cases h1
    · split at h1
      · cases h1
      · split at h1
        · cases h1
        · rename_i i hf r hr
          have hm := h.recs r (List.mem_of_getElem? hr)
          unfold effR at h1
          split at h1
          · split at h1
            · injection h1 with h1
              subst h1
              exact h.setR hr rfl ⟨.inr (.inl rfl), hm.thread, fun _ => by simp, by have := hm.few; simp; omega⟩ ht
            · cases h1
          · split at h1
            · split at h1
              · split at h1
                · split at h1
                  · rename_i d hd _
                    injection h1 with h1
                    subst h1
                    exact h.setR hr rfl ⟨.inl rfl, hm.thread, fun _ => by simp, by have := hm.few; simp; omega⟩ ht
                  · cases h1
                · cases h1
              · cases h1
            · split at h1
              · split at h1
                · injection h1 with h1
                  subst h1
                  exact h.setR hr rfl ⟨.inr (.inr (.inl rfl)), hm.thread, fun h => by simp at h, Nat.le_succ_of_le hm.few⟩ ht
                · cases h1
              · split at h1
                · split at h1
                  · injection h1 with h1
                    subst h1
                    exact (h.setR hr (r' := { r with phase := 16, status := 3, fin := (s.taken : Int) }) rfl ⟨.inr (.inr (.inr (.inr rfl))), hm.thread, fun h => by simp at h, Nat.le_succ_of_le hm.few⟩ ht).free r.thread.toNat
                  · cases h1
                · split at h1
                  · split at h1
                    · cases h1
                    · injection h1 with h1
                      subst h1
                      exact (h.setR hr (r' := { r with phase := 16, status := 4, fin := (s.taken : Int) }) rfl ⟨.inr (.inr (.inr (.inr rfl))), hm.thread, fun h => by simp at h, Nat.le_succ_of_le hm.few⟩ ht).free r.thread.toNat
                  · split at h1
                    · injection h1 with h1
                      subst h1
                      exact h.setR hr rfl ⟨.inr (.inr (.inr (.inl rfl))), hm.thread, fun h => by simp at h, Nat.le_succ_of_le hm.few⟩ ht
                    · cases h1
  · cases hs
end Go.Proofs.YtfjjhjojcgacbaaDoor

/- What the effects do, by the plain step. -/
namespace Go.Proofs.YtfjjhjojcgacbaaDoor
open Go.RowKit Go.Maps Go.WideMaps Go.WideElems Go.ChangeShapes Go.WideShapes
variable {T : TypeId} {er : Nat → Addr}

/-- The effects' closures, by kinds: the phases, and the function. -/
def KindIs (k x : Int) (g : Nat) : Prop := (k = 2 ∧ x = 1 ∧ g = 67) ∨ (k = 3 ∧ x = 2 ∧ g = 68) ∨ (k = 4 ∧ x = 1 ∧ g = 69) ∨ (k = 5 ∧ x = 4 ∧ g = 70) ∨ (k = 6 ∧ x = 15 ∧ g = 71) ∨ (k = 7 ∧ x = 1 ∧ g = 72)
theorem EffAt.first {B eb : Nat} {V : World} (h : EffAt B eb V) : ∃ es, V.heap[eb]? = some (.map es 7) ∧ ∀ W : World, W.heap[eb]? = some (.map es 7) → (Instr.lookup 86 (.map (some eb)) (.int .i64 1) false).run Tryd.prog W = .ok (fv 65) W := by
  obtain ⟨p2, q2, p3, q3, p4, q4, p5, q5, p6, q6, p7, q7, hm, -⟩ := h
  exact ⟨_, hm, fun W hW => (map_look under86 1 0 _ hW rfl).2⟩
theorem EffAt.get {B eb : Nat} {V : World} (h : EffAt B eb V) (k : Int) (hk : 2 ≤ k ∧ k ≤ 7) : ∃ es p q x g, V.heap[eb]? = some (.map es 7) ∧ (∀ W : World, W.heap[eb]? = some (.map es 7) → (Instr.lookup 86 (.map (some eb)) (.int .i64 k) false).run Tryd.prog W = .ok (.func (.func 76) #[] #[.pointer (some ⟨p, 0, none⟩), .pointer (some ⟨q, 0, none⟩)]) W) ∧ (V.heap[p]? = some (.cells #[.int .i64 x] 89) ∧ V.heap[q]? = some (.cells #[fv g] 103)) ∧ KindIs k x g := by
  obtain ⟨p2, q2, p3, q3, p4, q4, p5, q5, p6, q6, p7, q7, hm, ⟨⟨a2, b2⟩, c2, d2⟩, ⟨⟨a3, b3⟩, c3, d3⟩, ⟨⟨a4, b4⟩, c4, d4⟩, ⟨⟨a5, b5⟩, c5, d5⟩, ⟨⟨a6, b6⟩, c6, d6⟩, ⟨⟨a7, b7⟩, c7, d7⟩⟩ := h
  have hk' : k = 2 ∨ k = 3 ∨ k = 4 ∨ k = 5 ∨ k = 6 ∨ k = 7 := by omega
  rcases hk' with rfl | rfl | rfl | rfl | rfl | rfl
  · exact ⟨_, p2, q2, 1, 67, hm, fun W hW => (map_look under86 2 1 _ hW rfl).2, ⟨b2, d2⟩, .inl ⟨rfl, rfl, rfl⟩⟩
  · exact ⟨_, p3, q3, 2, 68, hm, fun W hW => (map_look under86 3 2 _ hW rfl).2, ⟨b3, d3⟩, .inr (.inl ⟨rfl, rfl, rfl⟩)⟩
  · exact ⟨_, p4, q4, 1, 69, hm, fun W hW => (map_look under86 4 3 _ hW rfl).2, ⟨b4, d4⟩, .inr (.inr (.inl ⟨rfl, rfl, rfl⟩))⟩
  · exact ⟨_, p5, q5, 4, 70, hm, fun W hW => (map_look under86 5 4 _ hW rfl).2, ⟨b5, d5⟩, .inr (.inr (.inr (.inl ⟨rfl, rfl, rfl⟩)))⟩
  · exact ⟨_, p6, q6, 15, 71, hm, fun W hW => (map_look under86 6 5 _ hW rfl).2, ⟨b6, d6⟩, .inr (.inr (.inr (.inr (.inl ⟨rfl, rfl, rfl⟩))))⟩
  · exact ⟨_, p7, q7, 1, 72, hm, fun W hW => (map_look under86 7 6 _ hW rfl).2, ⟨b7, d7⟩, .inr (.inr (.inr (.inr (.inr ⟨rfl, rfl, rfl⟩))))⟩
/-- What an effect answers, and leaves. -/
def EffIs (T : TypeId) (B A : Nat) (os : List (Int × Int)) (oa : Option Addr) (oc mb eb : Nat) (w : World) (r : Option St) (en : Ending) (w' : World) : Prop := match r with
  | none => Told T false en ∧ Hid (Below B w w')
  | some s => en = .returned .nilIface ∧ ∃ M rv, Hid (AutoAt B A os s.recs s.busy s.taken M oa oc rv mb eb w' ∧ Below B w w')
theorem EffIs.no {B A : Nat} {os : List (Int × Int)} {oa : Option Addr} {oc mb eb : Nat} {w w' : World} {en : Ending} (hB : B ≤ w.heap.size) (h : Told T false en ∧ Hid (Below w.heap.size w w')) : EffIs T B A os oa oc mb eb w none en w' := ⟨h.1, h.2.out.mono hB⟩
theorem bp_some {M : List (Nat × Value)} {busy : List (Option Nat)} {t i : Nat} (h : busy.getD t none = some i) (hi : i < M.length) : ∃ p, bp M busy t = some p := by
  unfold bp
  rw [h, Option.bind_some, List.getElem?_eq_getElem hi]
  exact ⟨_, rfl⟩
theorem bp_no {M : List (Nat × Value)} {busy : List (Option Nat)} {t : Nat} (h : busy.getD t none = none) : bp M busy t = none := by
  unfold bp
  rw [h]
  rfl
theorem eff_begin {B A : Nat} {os : List (Int × Int)} {s : St} {M : List (Nat × Value)} {oa : Option Addr} {oc : Nat} {rv : Value} {mb eb : Nat} (w : World) (h : AutoAt B A os s.recs s.busy s.taken M oa oc rv mb eb w) (hs : s.Ok) (hG : Glob T er w) (e : Ev) (hv : validN e = 0) (hk : e.kind = 1) :
    Calls Tryd.prog 65 #[.pointer (some ⟨A, 0, none⟩), e.agg] w (EffIs T B A os oa oc mb eb w (effZ s e)) := by
  have hB := h.base
  unfold effZ
  rw [if_pos hk]
  obtain ⟨h1, h2⟩ := validN_thread hv hk
  have ht : e.thread = (e.thread.toNat : Int) := by omega
  have ht8 : e.thread.toNat < 8 := by omega
  cases hf : findR e.tx s.recs 0 with
  | some j =>
    obtain ⟨k, r, -, hr, hid⟩ := findR_some _ _ _ _ hf
    have hkl : k < M.length := by rw [← h.len]; exact (List.getElem?_eq_some_iff.1 hr).1
    exact (begin_twice w h hG e hs.ids (by rw [List.getElem?_map, hr]; simp [hid]) (List.getElem?_eq_getElem hkl)).mono fun _ _ H => EffIs.no hB H
  | none =>
    have hn := findR_none _ _ _ hf
    have h1 := h.len
    have h2 := hs.few
    have h3 := hs.taken
    simp only []
    by_cases hp : s.busy.getD e.thread.toNat none = none
    · rw [if_pos hp]
      refine (begin_ok w h hG e hn e.thread.toNat ht ht8 (bp_no hp) (by omega) (by rw [hs.busyL]; exact ht8) (fun j i hj => by have := hs.busyV j i hj; omega)).mono ?_
      rintro en w' ⟨rfl, x, rv', H⟩
      refine ⟨rfl, M ++ [x], rv', ?_⟩
      rw [← ht, ← h1] at H
      exact H
    · rw [if_neg hp]
      obtain ⟨i, hi⟩ := Option.ne_none_iff_exists'.1 hp
      obtain ⟨p, hp'⟩ := bp_some (M := M) hi (by have := hs.busyV _ i hi; omega)
      exact (begin_thread w h hG e hn e.thread.toNat ht ht8 p hp').mono fun _ _ H => EffIs.no hB H
/-- What an answer is, as a value. -/
def EffV (T : TypeId) (B A : Nat) (os : List (Int × Int)) (oa : Option Addr) (oc mb eb : Nat) (w : World) (r : Option St) (v : Value) (w' : World) : Prop := EffIs T B A os oa oc mb eb w r (.returned v) w'
theorem EffIs.some {B A : Nat} {os : List (Int × Int)} {oa : Option Addr} {oc mb eb : Nat} {w W w' : World} {en : Ending} {s : St} {M : List (Nat × Value)} {rv : Value} (hb : Below B w W) (h : en = .returned .nilIface ∧ Hid (AutoAt B A os s.recs s.busy s.taken M oa oc rv mb eb w' ∧ Below B W w')) : ∃ v, en = .returned v ∧ EffV T B A os oa oc mb eb w (some s) v w' :=
  ⟨_, h.1, rfl, M, rv, h.2.out.1, hb.trans h.2.out.2⟩
theorem EffV.is {B A : Nat} {os : List (Int × Int)} {oa : Option Addr} {oc mb eb : Nat} {w w' : World} {en : Ending} {r : Option St} (h : ∃ v, en = .returned v ∧ EffV T B A os oa oc mb eb w r v w') : EffIs T B A os oa oc mb eb w r en w' := by
  obtain ⟨v, rfl, h⟩ := h
  exact h
theorem effR_none {s : St} {e : Ev} {i : Nat} {r : Rec} {x : Int} {g : Nat} (hk : KindIs e.kind x g) (hr : RecOk s.taken r) (hz : (bits BinOp.and IntKind.i64 r.phase x == 0) = true) : effR s e i r = none := by
  unfold effR
  rcases hk with ⟨h, rfl, rfl⟩ | ⟨h, rfl, rfl⟩ | ⟨h, rfl, rfl⟩ | ⟨h, rfl, rfl⟩ | ⟨h, rfl, rfl⟩ | ⟨h, rfl, rfl⟩ <;> rcases hr.phase with hp | hp | hp | hp | hp <;> rw [hp] at hz <;> first | (exfalso; revert hz; decide) | simp [h, hp]
set_option maxHeartbeats 4000000 in
theorem eff_from {B A : Nat} {os : List (Int × Int)} {s : St} {M : List (Nat × Value)} {oa : Option Addr} {oc : Nat} {rv : Value} {mb eb : Nat} (w : World) (h : AutoAt B A os s.recs s.busy s.taken M oa oc rv mb eb w) (hs : s.Ok) (hG : Glob T er w) (e : Ev) {p q : Nat} {x : Int} {g : Nat} (hk : KindIs e.kind x g) (hp : w.heap[p]? = some (.cells #[.int .i64 x] 89)) (hq : w.heap[q]? = some (.cells #[fv g] 103)) :
    Calls Tryd.prog 76 #[.pointer (some ⟨A, 0, none⟩), e.agg, .pointer (some ⟨p, 0, none⟩), .pointer (some ⟨q, 0, none⟩)] w (EffIs T B A os oa oc mb eb w (effZ s e)) := by
  have hB := h.base
  have hk1 : ¬ e.kind = 1 := by rcases hk with h | h | h | h | h | h <;> omega
  unfold effZ
  rw [if_neg hk1]
  cases hf : findR e.tx s.recs 0 with
  | none =>
    exact (from_none w h hG e (findR_none _ _ _ hf) p q).mono fun _ _ H => EffIs.no hB H
  | some j =>
    obtain ⟨k, r, hj, hr, hid⟩ := findR_some _ _ _ _ hf
    rw [Nat.zero_add] at hj
    subst hj
    have hkl : j < M.length := by rw [← h.len]; exact (List.getElem?_eq_some_iff.1 hr).1
    have hm := List.getElem?_eq_getElem hkl
    have hro := hs.recs r (List.mem_of_getElem? hr)
    have h3 := hs.taken
    have h4 := hro.few
    simp only []
    rw [hr]
    simp only []
    cases hz : (bits BinOp.and IntKind.i64 r.phase x == 0) with
    | true =>
      rw [effR_none hk hro hz]
      exact (from_order w h hG e hs.ids hr hid hm p q x _ hp rfl hz).mono fun _ _ H => EffIs.no hB H
    | false =>
      have ht : r.thread = (r.thread.toNat : Int) := by have := hro.thread; omega
      have ht8 : r.thread.toNat < 8 := by have := hro.thread; omega
      rcases hk with ⟨hk, rfl, rfl⟩ | ⟨hk, rfl, rfl⟩ | ⟨hk, rfl, rfl⟩ | ⟨hk, rfl, rfl⟩ | ⟨hk, rfl, rfl⟩ | ⟨hk, rfl, rfl⟩
      · have hph : r.phase = 1 := by
          rcases hro.phase with hp | hp | hp | hp | hp <;> rw [hp] at hz <;> first | exact hp | (exfalso; revert hz; decide)
        have he : effR s e j r = some { s with recs := s.recs.set j { r with phase := 2, ds := r.ds ++ [⟨e.obj, e.op, e.key, e.val, 0, 0, (s.taken : Int), -1⟩] } } := by unfold effR; rw [if_pos hk, if_pos hph]
        rw [he]
        refine (from_67 w h e hs.ids hr hid hm p q 1 _ hp rfl hz hq (R := EffV T B A os oa oc mb eb w _) ?_).mono fun _ _ H => EffV.is H
        intro W hW
        refine (call_ok W (h.keep hW) hr hm (by omega) e).mono ?_
        rintro en w' ⟨rfl, x, H⟩
        exact EffIs.some (M := M.set j (M[j].1, x)) (hW.mono hB) ⟨rfl, H⟩
      · have hph : r.phase = 2 := by
          rcases hro.phase with hp | hp | hp | hp | hp <;> rw [hp] at hz <;> first | exact hp | (exfalso; revert hz; decide)
        have hne := hro.deeds hph
        have hds : r.ds = r.ds.dropLast ++ [r.ds.getLast hne] := (List.dropLast_concat_getLast hne).symm
        have hdl : r.ds.dropLast.length ≤ 100000 := by rw [List.length_dropLast]; omega
        have hgl : r.ds.getLast? = some (r.ds.getLast hne) := List.getLast?_eq_some_getLast hne
        cases hfit : fitsZ (r.ds.getLast hne).op e.ret with
        | false =>
          have he : effR s e j r = none := by
            unfold effR; rw [if_neg (by omega), if_pos hk, if_pos hph, hgl]; simp only []; rw [hfit]; rfl
          rw [he]
          refine (from_68 w h e hs.ids hr hid hm p q 2 _ hp rfl hz hq (R := EffV T B A os oa oc mb eb w none) ?_).mono fun _ _ H => EffV.is H
          intro W hW
          refine (back_bad W (h.keep hW) (hG.below' hW) hr hm _ _ hds hdl e hfit).mono ?_
          rintro en w' ⟨⟨pp, rfl⟩, H⟩
          exact ⟨_, rfl, ⟨pp, rfl⟩, (stepB hW H.out).mono hB⟩
        | true =>
          have he : effR s e j r = some { s with recs := s.recs.set j { r with phase := 1, ds := r.ds.dropLast ++ [{ r.ds.getLast hne with ret := e.ret, got := e.val, back := (s.taken : Int) }] } } := by
            unfold effR; rw [if_neg (by omega), if_pos hk, if_pos hph, hgl]; simp only []; rw [hfit]; rfl
          rw [he]
          refine (from_68 w h e hs.ids hr hid hm p q 2 _ hp rfl hz hq (R := EffV T B A os oa oc mb eb w _) ?_).mono fun _ _ H => EffV.is H
          intro W hW
          refine (back_ok W (h.keep hW) (hG.below' hW) hr hm _ _ hds hdl e hfit).mono ?_
          rintro en w' H
          exact EffIs.some (hW.mono hB) H
      · have hph : r.phase = 1 := by
          rcases hro.phase with hp | hp | hp | hp | hp <;> rw [hp] at hz <;> first | exact hp | (exfalso; revert hz; decide)
        have he : effR s e j r = some { s with recs := s.recs.set j { r with phase := 4, status := 2, tri := (s.taken : Int) } } := by unfold effR; rw [if_neg (by omega), if_neg (by omega), if_pos hk, if_pos hph]
        rw [he]
        refine (from_69 w h e hs.ids hr hid hm p q 1 _ hp rfl hz hq (R := EffV T B A os oa oc mb eb w _) ?_).mono fun _ _ H => EffV.is H
        intro W hW
        refine (try_any W (h.keep hW) hr hm e).mono ?_
        rintro en w' H
        exact EffIs.some (hW.mono hB) H
      · have hph : r.phase = 4 := by
          rcases hro.phase with hp | hp | hp | hp | hp <;> rw [hp] at hz <;> first | exact hp | (exfalso; revert hz; decide)
        have he : effR s e j r = some { s with recs := s.recs.set j { r with phase := 16, status := 3, fin := (s.taken : Int) }, busy := s.busy.set r.thread.toNat none } := by unfold effR; rw [if_neg (by omega), if_neg (by omega), if_neg (by omega), if_pos hk, if_pos hph]
        rw [he]
        refine (from_70 w h e hs.ids hr hid hm p q 4 _ hp rfl hz hq (R := EffV T B A os oa oc mb eb w _) ?_).mono fun _ _ H => EffV.is H
        intro W hW
        refine (commit_any W (h.keep hW) hr hm _ ht ht8 e).mono ?_
        rintro en w' H
        exact EffIs.some (hW.mono hB) H
      · have hph : ¬ r.phase = 16 := by
          intro hp; rw [hp] at hz; revert hz; decide
        have he : effR s e j r = some { s with recs := s.recs.set j { r with phase := 16, status := 4, fin := (s.taken : Int) }, busy := s.busy.set r.thread.toNat none } := by unfold effR; rw [if_neg (by omega), if_neg (by omega), if_neg (by omega), if_neg (by omega), if_pos hk, if_neg hph]
        rw [he]
        refine (from_71 w h e hs.ids hr hid hm p q 15 _ hp rfl hz hq (R := EffV T B A os oa oc mb eb w _) ?_).mono fun _ _ H => EffV.is H
        intro W hW
        refine (abort_any W (h.keep hW) hr hm _ ht ht8 e).mono ?_
        rintro en w' H
        exact EffIs.some (hW.mono hB) H
      · have hph : r.phase = 1 := by
          rcases hro.phase with hp | hp | hp | hp | hp <;> rw [hp] at hz <;> first | exact hp | (exfalso; revert hz; decide)
        have he : effR s e j r = some { s with recs := s.recs.set j { r with phase := 8 } } := by unfold effR; rw [if_neg (by omega), if_neg (by omega), if_neg (by omega), if_neg (by omega), if_neg (by omega), if_pos hph]
        rw [he]
        refine (from_72 w h e hs.ids hr hid hm p q 1 _ hp rfl hz hq (R := EffV T B A os oa oc mb eb w _) ?_).mono fun _ _ H => EffV.is H
        intro W hW
        refine (cancel_any W (h.keep hW) hr hm e).mono ?_
        rintro en w' H
        exact EffIs.some (hW.mono hB) H
end Go.Proofs.YtfjjhjojcgacbaaDoor

/- Feed. -/
namespace Go.Proofs.YtfjjhjojcgacbaaDoor
open Go.RowKit Go.Maps Go.WideMaps Go.WideElems Go.ChangeShapes Go.WideShapes
variable {T : TypeId} {er : Nat → Addr}

set_option maxHeartbeats 4000000 in
set_option maxRecDepth 100000 in
theorem feed_many {B A : Nat} {os : List (Int × Int)} {s : St} {M : List (Nat × Value)} {oa : Option Addr} {oc : Nat} {rv : Value} {mb eb : Nat} (w : World) (h : AutoAt B A os s.recs s.busy s.taken M oa oc rv mb eb w) (hG : Glob T er w) (e : Ev) (ht : 400 ≤ s.taken) :
    Calls Tryd.prog 52 #[.pointer (some ⟨A, 0, none⟩), e.agg] w (EffIs T B A os oa oc mb eb w none) := by
  obtain ⟨W, hW, Hb, hs', Hx⟩ := cells_new w #[.int .i64 e.kind, .int .i64 e.tx, .int .i64 e.thread, .int .i64 e.obj, .int .i64 e.op, .int .i64 e.key, .int .i64 e.val, .int .i64 e.ret] 34
  have HA := Lib.hid (h.keep Hb.out)
  have hB := Lib.hid h.base
  have HX : Hid (∀ V, Below W.heap.size W V → V.heap[w.heap.size]? = some (.cells #[.int .i64 e.kind, .int .i64 e.tx, .int .i64 e.thread, .int .i64 e.obj, .int .i64 e.op, .int .i64 e.key, .int .i64 e.val, .int .i64 e.ret] 34)) := fun V hV => keepB hV Hx.out
  obtain ⟨x0, x1, x2, x3, x4, x5, x6, x7⟩ := row_eight Hx.out
  have c1 : W.cell? ⟨A, 1, none⟩ = some (.int .i64 s.taken) := (cell_of_row _ _ 1 _ _ _ HA.out.auto).trans rfl
  obtain ⟨tk, htk⟩ : ∃ tk, s.taken = tk := ⟨_, rfl⟩
  rw [htk] at c1
  have t2 : (0 : Int) ≤ tk := by omega
  have t1 : (400 : Int) ≤ tk := by omega
  have Hb2 := Lib.hid Hb.out
  have g2 := (hG.below' Hb.out).eMany
  clear h hG Hx hs' htk ht
  go_enter Tryd.func52, Tryd.ntmps52
  go_wp2_with fail
  go_ret
  exact ⟨⟨_, rfl⟩, Hb2.out.mono hB.out⟩

set_option maxHeartbeats 4000000 in
set_option maxRecDepth 100000 in
theorem feed_valid {B A : Nat} {os : List (Int × Int)} {s : St} {M : List (Nat × Value)} {oa : Option Addr} {oc : Nat} {rv : Value} {mb eb : Nat} (w : World) (h : AutoAt B A os s.recs s.busy s.taken M oa oc rv mb eb w) (hG : Glob T er w) (e : Ev) (ht : s.taken < 400) (hv : ¬ validN e = 0) :
    Calls Tryd.prog 52 #[.pointer (some ⟨A, 0, none⟩), e.agg] w (EffIs T B A os oa oc mb eb w none) := by
  obtain ⟨W, hW, Hb, hs', Hx⟩ := cells_new w #[.int .i64 e.kind, .int .i64 e.tx, .int .i64 e.thread, .int .i64 e.obj, .int .i64 e.op, .int .i64 e.key, .int .i64 e.val, .int .i64 e.ret] 34
  have HA := Lib.hid (h.keep Hb.out)
  have hB := Lib.hid h.base
  have HX : Hid (∀ V, Below W.heap.size W V → V.heap[w.heap.size]? = some (.cells #[.int .i64 e.kind, .int .i64 e.tx, .int .i64 e.thread, .int .i64 e.obj, .int .i64 e.op, .int .i64 e.key, .int .i64 e.val, .int .i64 e.ret] 34)) := fun V hV => keepB hV Hx.out
  obtain ⟨x0, x1, x2, x3, x4, x5, x6, x7⟩ := row_eight Hx.out
  have c1 : W.cell? ⟨A, 1, none⟩ = some (.int .i64 s.taken) := (cell_of_row _ _ 1 _ _ _ HA.out.auto).trans rfl
  obtain ⟨tk, htk⟩ : ∃ tk, s.taken = tk := ⟨_, rfl⟩
  rw [htk] at c1
  have t2 : (0 : Int) ≤ tk := by omega
  have t1 : (tk : Int) < 400 := by omega
  have HV := Lib.hid (valid_any (T := T) (er := er) e W (hG.below' Hb.out))
  obtain ⟨v, hv'⟩ := Nat.exists_eq_succ_of_ne_zero hv
  rw [hv'] at HV
  have Hb2 := Lib.hid Hb.out
  clear h hG hv hv' Hx hs' htk ht
  go_enter Tryd.func52, Tryd.ntmps52
  go_wp2_with (first
    | (go_at_call 59; (with_reducible refine HV.out.mono ?_); rintro en w2 ⟨hen, hb2⟩
       obtain rfl : en = .returned (.iface T (.pointer (some (er (v + 1))))) := hen
       have B2 := Lib.hid hb2
       clear hb2))
  go_ret
  exact ⟨⟨_, rfl⟩, (stepB Hb2.out B2.out).mono hB.out⟩

set_option maxHeartbeats 4000000 in
set_option maxRecDepth 100000 in
theorem feed_called {B A : Nat} {os : List (Int × Int)} {s : St} {M : List (Nat × Value)} {oa : Option Addr} {oc : Nat} {rv : Value} {mb eb : Nat} (w : World) (h : AutoAt B A os s.recs s.busy s.taken M oa oc rv mb eb w) (hG : Glob T er w) (e : Ev) (ht : s.taken < 400) (hv : validN e = 0) (hc : calledOk os e = false) :
    Calls Tryd.prog 52 #[.pointer (some ⟨A, 0, none⟩), e.agg] w (EffIs T B A os oa oc mb eb w none) := by
  obtain ⟨W, hW, Hb, hs', Hx⟩ := cells_new w #[.int .i64 e.kind, .int .i64 e.tx, .int .i64 e.thread, .int .i64 e.obj, .int .i64 e.op, .int .i64 e.key, .int .i64 e.val, .int .i64 e.ret] 34
  have HA := Lib.hid (h.keep Hb.out)
  have hB := Lib.hid h.base
  have HX : Hid (∀ V, Below W.heap.size W V → V.heap[w.heap.size]? = some (.cells #[.int .i64 e.kind, .int .i64 e.tx, .int .i64 e.thread, .int .i64 e.obj, .int .i64 e.op, .int .i64 e.key, .int .i64 e.val, .int .i64 e.ret] 34)) := fun V hV => keepB hV Hx.out
  obtain ⟨x0, x1, x2, x3, x4, x5, x6, x7⟩ := row_eight Hx.out
  have c1 : W.cell? ⟨A, 1, none⟩ = some (.int .i64 s.taken) := (cell_of_row _ _ 1 _ _ _ HA.out.auto).trans rfl
  obtain ⟨tk, htk⟩ : ∃ tk, s.taken = tk := ⟨_, rfl⟩
  rw [htk] at c1
  have t2 : (0 : Int) ≤ tk := by omega
  have t1 : (tk : Int) < 400 := by omega
  have HV := Lib.hid (valid_any (T := T) (er := er) e W (hG.below' Hb.out))
  rw [hv] at HV
  have HC := Lib.hid (fun V hV => called_any V (HA.out.keep hV) ((hG.below' Hb.out).below' hV) e (fun hk => (valid_call hv hk).1))
  rw [hc] at HC
  have Hb2 := Lib.hid Hb.out
  clear h hG hv hc Hx hs' htk ht
  go_enter Tryd.func52, Tryd.ntmps52
  go_wp2_with (first
    | (go_at_call 59; (with_reducible refine HV.out.mono ?_); rintro en w2 ⟨hen, hb2⟩
       obtain rfl : en = .returned .nilIface := hen
       have B2 := Lib.hid hb2
       clear hb2
       obtain ⟨y0, y1, y2, y3, y4, y5, y6, y7⟩ := row_eight (HX.out w2 B2.out))
    | (go_at_call 60; (with_reducible refine (HC.out _ B2.out).mono ?_); rintro en w3 ⟨hen, hb3⟩
       obtain ⟨p9, rfl⟩ : ∃ p, en = .returned (.iface T (.pointer (some p))) := hen
       have B3 : Hid (Below W.heap.size W w3) := stepB B2.out hb3.out))
  go_ret
  exact ⟨⟨_, rfl⟩, (stepB Hb2.out B3.out).mono hB.out⟩

set_option maxHeartbeats 4000000 in
set_option maxRecDepth 100000 in
theorem feed_65_no {B A : Nat} {os : List (Int × Int)} {s : St} {M : List (Nat × Value)} {oa : Option Addr} {oc : Nat} {rv : Value} {mb eb : Nat} (w : World) (h : AutoAt B A os s.recs s.busy s.taken M oa oc rv mb eb w) (hG : Glob T er w) (e : Ev) (ht : s.taken < 400) (hv : validN e = 0) (hc : calledOk os e = true) (es : Array MapEntry) (hes : w.heap[eb]? = some (.map es 7)) (hl : ∀ V : World, V.heap[eb]? = some (.map es 7) → (Instr.lookup 86 (.map (some eb)) (.int .i64 e.kind) false).run Tryd.prog V = .ok (fv 65) V)
    (HE : ∀ V, Below w.heap.size w V → Calls Tryd.prog 65 #[.pointer (some ⟨A, 0, none⟩), e.agg] V (EffIs T B A os oa oc mb eb V none)) :
    Calls Tryd.prog 52 #[.pointer (some ⟨A, 0, none⟩), e.agg] w (EffIs T B A os oa oc mb eb w none) := by
  obtain ⟨W, hW, Hb, hs', Hx⟩ := cells_new w #[.int .i64 e.kind, .int .i64 e.tx, .int .i64 e.thread, .int .i64 e.obj, .int .i64 e.op, .int .i64 e.key, .int .i64 e.val, .int .i64 e.ret] 34
  have HA := Lib.hid (h.keep Hb.out)
  have hB := Lib.hid h.base
  have HX : Hid (∀ V, Below W.heap.size W V → V.heap[w.heap.size]? = some (.cells #[.int .i64 e.kind, .int .i64 e.tx, .int .i64 e.thread, .int .i64 e.obj, .int .i64 e.op, .int .i64 e.key, .int .i64 e.val, .int .i64 e.ret] 34)) := fun V hV => keepB hV Hx.out
  obtain ⟨x0, x1, x2, x3, x4, x5, x6, x7⟩ := row_eight Hx.out
  have c1 : W.cell? ⟨A, 1, none⟩ = some (.int .i64 s.taken) := (cell_of_row _ _ 1 _ _ _ HA.out.auto).trans rfl
  obtain ⟨tk, htk⟩ : ∃ tk, s.taken = tk := ⟨_, rfl⟩
  rw [htk] at c1
  have t2 : (0 : Int) ≤ tk := by omega
  have HV := Lib.hid (valid_any (T := T) (er := er) e W (hG.below' Hb.out))
  rw [hv] at HV
  have HC := Lib.hid (fun V hV => called_any V (HA.out.keep hV) ((hG.below' Hb.out).below' hV) e (fun hk => (valid_call hv hk).1))
  rw [hc] at HC
  have HK := Lib.hid HE
  have t1 : (tk : Int) < 400 := by omega
  have HQ : Hid (∀ V, Below W.heap.size W V → V.cell? ⟨A, 12, none⟩ = some (.map (some eb)) ∧ V.heap[eb]? = some (.map es 7)) := fun V hV => ⟨(cell_of_row _ _ 12 _ _ _ (HA.out.keep hV).auto).trans rfl, keepB hV (keepB Hb.out hes)⟩
  have Hl := Lib.hid hl
  have Hb2 := Lib.hid Hb.out
  skip
  clear h hG hv hc hl hes HE Hx hs' htk ht 
  go_enter Tryd.func52, Tryd.ntmps52
  go_wp2_with (first
    | (go_at_call 59; (with_reducible refine HV.out.mono ?_); rintro en w2 ⟨hen, hb2⟩
       obtain rfl : en = .returned .nilIface := hen
       have B2 := Lib.hid hb2
       clear hb2
       obtain ⟨y0, y1, y2, y3, y4, y5, y6, y7⟩ := row_eight (HX.out w2 B2.out))
    | (go_at_call 60; (with_reducible refine (HC.out _ B2.out).mono ?_); rintro en w3 ⟨hen, hb3⟩
       obtain rfl : en = .returned .nilIface := hen
       have B3 : Hid (Below W.heap.size W w3) := stepB B2.out hb3.out
       obtain ⟨z0, z1, z2, z3, z4, z5, z6, z7⟩ := row_eight (HX.out w3 B3.out)
       obtain ⟨q1, q2⟩ := HQ.out w3 B3.out
       have q3 := Hl.out w3.drew (HQ.out w3.drew B3.out.drew).2))
  go_still_tail 9, (by kernel_rfl)
  change wpList _ _ _ _ _ w3.drew
  have B4 : Hid (Below w.heap.size w w3.drew) := (stepB Hb2.out B3.out).drew
  generalize w3.drew = w4 at *
  clear q1 q2 q3 z0 z1 z2 z3 z4 z5 z6 z7 y0 y1 y2 y3 y4 y5 y6 y7 x0 x1 x2 x3 x4 x5 x6 x7 c1
  go_wp2_with (first
    | (go_at_call 65; (with_reducible refine (HK.out _ B4.out).mono ?_); rintro en w5 ⟨⟨p9, rfl⟩, K⟩))
  go_ret
  exact ⟨⟨_, rfl⟩, (B4.out.mono hB.out).trans K.out⟩

set_option maxHeartbeats 4000000 in
set_option maxRecDepth 100000 in
theorem feed_65_ok {B A : Nat} {os : List (Int × Int)} {s : St} {M : List (Nat × Value)} {oa : Option Addr} {oc : Nat} {rv : Value} {mb eb : Nat} (w : World) (h : AutoAt B A os s.recs s.busy s.taken M oa oc rv mb eb w) (hG : Glob T er w) (e : Ev) (ht : s.taken < 400) (hv : validN e = 0) (hc : calledOk os e = true) (es : Array MapEntry) (hes : w.heap[eb]? = some (.map es 7)) (hl : ∀ V : World, V.heap[eb]? = some (.map es 7) → (Instr.lookup 86 (.map (some eb)) (.int .i64 e.kind) false).run Tryd.prog V = .ok (fv 65) V) {s1 : St} (h1 : s1.taken ≤ 400)
    (HE : ∀ V, Below w.heap.size w V → Calls Tryd.prog 65 #[.pointer (some ⟨A, 0, none⟩), e.agg] V (EffIs T B A os oa oc mb eb V (some s1))) :
    Calls Tryd.prog 52 #[.pointer (some ⟨A, 0, none⟩), e.agg] w (EffIs T B A os oa oc mb eb w (some { s1 with taken := s1.taken + 1 })) := by
  obtain ⟨W, hW, Hb, hs', Hx⟩ := cells_new w #[.int .i64 e.kind, .int .i64 e.tx, .int .i64 e.thread, .int .i64 e.obj, .int .i64 e.op, .int .i64 e.key, .int .i64 e.val, .int .i64 e.ret] 34
  have HA := Lib.hid (h.keep Hb.out)
  have hB := Lib.hid h.base
  have HX : Hid (∀ V, Below W.heap.size W V → V.heap[w.heap.size]? = some (.cells #[.int .i64 e.kind, .int .i64 e.tx, .int .i64 e.thread, .int .i64 e.obj, .int .i64 e.op, .int .i64 e.key, .int .i64 e.val, .int .i64 e.ret] 34)) := fun V hV => keepB hV Hx.out
  obtain ⟨x0, x1, x2, x3, x4, x5, x6, x7⟩ := row_eight Hx.out
  have c1 : W.cell? ⟨A, 1, none⟩ = some (.int .i64 s.taken) := (cell_of_row _ _ 1 _ _ _ HA.out.auto).trans rfl
  obtain ⟨tk, htk⟩ : ∃ tk, s.taken = tk := ⟨_, rfl⟩
  rw [htk] at c1
  have t2 : (0 : Int) ≤ tk := by omega
  have HV := Lib.hid (valid_any (T := T) (er := er) e W (hG.below' Hb.out))
  rw [hv] at HV
  have HC := Lib.hid (fun V hV => called_any V (HA.out.keep hV) ((hG.below' Hb.out).below' hV) e (fun hk => (valid_call hv hk).1))
  rw [hc] at HC
  have HK := Lib.hid HE
  have t1 : (tk : Int) < 400 := by omega
  have HQ : Hid (∀ V, Below W.heap.size W V → V.cell? ⟨A, 12, none⟩ = some (.map (some eb)) ∧ V.heap[eb]? = some (.map es 7)) := fun V hV => ⟨(cell_of_row _ _ 12 _ _ _ (HA.out.keep hV).auto).trans rfl, keepB hV (keepB Hb.out hes)⟩
  have Hl := Lib.hid hl
  have Hb2 := Lib.hid Hb.out
  have H1 := Lib.hid h1
  clear h hG hv hc hl hes HE Hx hs' htk ht h1
  go_enter Tryd.func52, Tryd.ntmps52
  go_wp2_with (first
    | (go_at_call 59; (with_reducible refine HV.out.mono ?_); rintro en w2 ⟨hen, hb2⟩
       obtain rfl : en = .returned .nilIface := hen
       have B2 := Lib.hid hb2
       clear hb2
       obtain ⟨y0, y1, y2, y3, y4, y5, y6, y7⟩ := row_eight (HX.out w2 B2.out))
    | (go_at_call 60; (with_reducible refine (HC.out _ B2.out).mono ?_); rintro en w3 ⟨hen, hb3⟩
       obtain rfl : en = .returned .nilIface := hen
       have B3 : Hid (Below W.heap.size W w3) := stepB B2.out hb3.out
       obtain ⟨z0, z1, z2, z3, z4, z5, z6, z7⟩ := row_eight (HX.out w3 B3.out)
       obtain ⟨q1, q2⟩ := HQ.out w3 B3.out
       have q3 := Hl.out w3.drew (HQ.out w3.drew B3.out.drew).2))
  go_still_tail 9, (by kernel_rfl)
  change wpList _ _ _ _ _ w3.drew
  have B4 : Hid (Below w.heap.size w w3.drew) := (stepB Hb2.out B3.out).drew
  generalize w3.drew = w4 at *
  clear q1 q2 q3 z0 z1 z2 z3 z4 z5 z6 z7 y0 y1 y2 y3 y4 y5 y6 y7 x0 x1 x2 x3 x4 x5 x6 x7 c1
  go_wp2_with (first
    | (go_at_call 65; (with_reducible refine (HK.out _ B4.out).mono ?_); rintro en w5 ⟨rfl, M', rv', K⟩
       have d1 : w5.cell? ⟨A, 1, none⟩ = some (.int .i64 s1.taken) := (cell_of_row _ _ 1 _ _ _ K.out.1.auto).trans rfl
       have f1 : w5.frozen? ⟨A, 1, none⟩ = false := frozen_of_row _ A 1 _ 88 K.out.1.auto
       obtain ⟨tj, htj⟩ : ∃ tj, s1.taken = tj := ⟨_, rfl⟩
       rw [htj] at d1
       have t3 : (0 : Int) ≤ tj := by omega
       have t4 : (tj : Int) ≤ 400 := by (have := H1.out; omega)
       have Htj := Lib.hid htj
       clear htj))
  go_ret
  refine ⟨rfl, M', rv', ?_, ?_⟩
  · have := K.out.1.setAuto 1 (.int .i64 ((s1.taken : Int) + 1)) s1.busy (s1.taken + 1) rfl
    rw [Htj.out] at this
    show AutoAt _ _ _ _ _ (s1.taken + 1) _ _ _ _ _ _ _
    rw [Htj.out]
    exact this
  · exact ((B4.out.mono hB.out).trans K.out.2).setCell (p := ⟨A, 1, none⟩) K.out.1.low.1.1 _

set_option maxHeartbeats 4000000 in
set_option maxRecDepth 100000 in
theorem feed_76_no {B A : Nat} {os : List (Int × Int)} {s : St} {M : List (Nat × Value)} {oa : Option Addr} {oc : Nat} {rv : Value} {mb eb : Nat} (w : World) (h : AutoAt B A os s.recs s.busy s.taken M oa oc rv mb eb w) (hG : Glob T er w) (e : Ev) (ht : s.taken < 400) (hv : validN e = 0) (hc : calledOk os e = true) (p q : Nat) (es : Array MapEntry) (hes : w.heap[eb]? = some (.map es 7)) (hl : ∀ V : World, V.heap[eb]? = some (.map es 7) → (Instr.lookup 86 (.map (some eb)) (.int .i64 e.kind) false).run Tryd.prog V = .ok (.func (.func 76) #[] #[.pointer (some ⟨p, 0, none⟩), .pointer (some ⟨q, 0, none⟩)]) V)
    (HE : ∀ V, Below w.heap.size w V → Calls Tryd.prog 76 #[.pointer (some ⟨A, 0, none⟩), e.agg, .pointer (some ⟨p, 0, none⟩), .pointer (some ⟨q, 0, none⟩)] V (EffIs T B A os oa oc mb eb V none)) :
    Calls Tryd.prog 52 #[.pointer (some ⟨A, 0, none⟩), e.agg] w (EffIs T B A os oa oc mb eb w none) := by
  obtain ⟨W, hW, Hb, hs', Hx⟩ := cells_new w #[.int .i64 e.kind, .int .i64 e.tx, .int .i64 e.thread, .int .i64 e.obj, .int .i64 e.op, .int .i64 e.key, .int .i64 e.val, .int .i64 e.ret] 34
  have HA := Lib.hid (h.keep Hb.out)
  have hB := Lib.hid h.base
  have HX : Hid (∀ V, Below W.heap.size W V → V.heap[w.heap.size]? = some (.cells #[.int .i64 e.kind, .int .i64 e.tx, .int .i64 e.thread, .int .i64 e.obj, .int .i64 e.op, .int .i64 e.key, .int .i64 e.val, .int .i64 e.ret] 34)) := fun V hV => keepB hV Hx.out
  obtain ⟨x0, x1, x2, x3, x4, x5, x6, x7⟩ := row_eight Hx.out
  have c1 : W.cell? ⟨A, 1, none⟩ = some (.int .i64 s.taken) := (cell_of_row _ _ 1 _ _ _ HA.out.auto).trans rfl
  obtain ⟨tk, htk⟩ : ∃ tk, s.taken = tk := ⟨_, rfl⟩
  rw [htk] at c1
  have t2 : (0 : Int) ≤ tk := by omega
  have HV := Lib.hid (valid_any (T := T) (er := er) e W (hG.below' Hb.out))
  rw [hv] at HV
  have HC := Lib.hid (fun V hV => called_any V (HA.out.keep hV) ((hG.below' Hb.out).below' hV) e (fun hk => (valid_call hv hk).1))
  rw [hc] at HC
  have HK := Lib.hid HE
  have t1 : (tk : Int) < 400 := by omega
  have HQ : Hid (∀ V, Below W.heap.size W V → V.cell? ⟨A, 12, none⟩ = some (.map (some eb)) ∧ V.heap[eb]? = some (.map es 7)) := fun V hV => ⟨(cell_of_row _ _ 12 _ _ _ (HA.out.keep hV).auto).trans rfl, keepB hV (keepB Hb.out hes)⟩
  have Hl := Lib.hid hl
  have Hb2 := Lib.hid Hb.out
  skip
  clear h hG hv hc hl hes HE Hx hs' htk ht 
  go_enter Tryd.func52, Tryd.ntmps52
  go_wp2_with (first
    | (go_at_call 59; (with_reducible refine HV.out.mono ?_); rintro en w2 ⟨hen, hb2⟩
       obtain rfl : en = .returned .nilIface := hen
       have B2 := Lib.hid hb2
       clear hb2
       obtain ⟨y0, y1, y2, y3, y4, y5, y6, y7⟩ := row_eight (HX.out w2 B2.out))
    | (go_at_call 60; (with_reducible refine (HC.out _ B2.out).mono ?_); rintro en w3 ⟨hen, hb3⟩
       obtain rfl : en = .returned .nilIface := hen
       have B3 : Hid (Below W.heap.size W w3) := stepB B2.out hb3.out
       obtain ⟨z0, z1, z2, z3, z4, z5, z6, z7⟩ := row_eight (HX.out w3 B3.out)
       obtain ⟨q1, q2⟩ := HQ.out w3 B3.out
       have q3 := Hl.out w3.drew (HQ.out w3.drew B3.out.drew).2))
  go_still_tail 9, (by kernel_rfl)
  change wpList _ _ _ _ _ w3.drew
  have B4 : Hid (Below w.heap.size w w3.drew) := (stepB Hb2.out B3.out).drew
  generalize w3.drew = w4 at *
  clear q1 q2 q3 z0 z1 z2 z3 z4 z5 z6 z7 y0 y1 y2 y3 y4 y5 y6 y7 x0 x1 x2 x3 x4 x5 x6 x7 c1
  go_wp2_with (first
    | (go_at_call 76; (with_reducible refine (HK.out _ B4.out).mono ?_); rintro en w5 ⟨⟨p9, rfl⟩, K⟩))
  go_ret
  exact ⟨⟨_, rfl⟩, (B4.out.mono hB.out).trans K.out⟩

set_option maxHeartbeats 4000000 in
set_option maxRecDepth 100000 in
theorem feed_76_ok {B A : Nat} {os : List (Int × Int)} {s : St} {M : List (Nat × Value)} {oa : Option Addr} {oc : Nat} {rv : Value} {mb eb : Nat} (w : World) (h : AutoAt B A os s.recs s.busy s.taken M oa oc rv mb eb w) (hG : Glob T er w) (e : Ev) (ht : s.taken < 400) (hv : validN e = 0) (hc : calledOk os e = true) (p q : Nat) (es : Array MapEntry) (hes : w.heap[eb]? = some (.map es 7)) (hl : ∀ V : World, V.heap[eb]? = some (.map es 7) → (Instr.lookup 86 (.map (some eb)) (.int .i64 e.kind) false).run Tryd.prog V = .ok (.func (.func 76) #[] #[.pointer (some ⟨p, 0, none⟩), .pointer (some ⟨q, 0, none⟩)]) V) {s1 : St} (h1 : s1.taken ≤ 400)
    (HE : ∀ V, Below w.heap.size w V → Calls Tryd.prog 76 #[.pointer (some ⟨A, 0, none⟩), e.agg, .pointer (some ⟨p, 0, none⟩), .pointer (some ⟨q, 0, none⟩)] V (EffIs T B A os oa oc mb eb V (some s1))) :
    Calls Tryd.prog 52 #[.pointer (some ⟨A, 0, none⟩), e.agg] w (EffIs T B A os oa oc mb eb w (some { s1 with taken := s1.taken + 1 })) := by
  obtain ⟨W, hW, Hb, hs', Hx⟩ := cells_new w #[.int .i64 e.kind, .int .i64 e.tx, .int .i64 e.thread, .int .i64 e.obj, .int .i64 e.op, .int .i64 e.key, .int .i64 e.val, .int .i64 e.ret] 34
  have HA := Lib.hid (h.keep Hb.out)
  have hB := Lib.hid h.base
  have HX : Hid (∀ V, Below W.heap.size W V → V.heap[w.heap.size]? = some (.cells #[.int .i64 e.kind, .int .i64 e.tx, .int .i64 e.thread, .int .i64 e.obj, .int .i64 e.op, .int .i64 e.key, .int .i64 e.val, .int .i64 e.ret] 34)) := fun V hV => keepB hV Hx.out
  obtain ⟨x0, x1, x2, x3, x4, x5, x6, x7⟩ := row_eight Hx.out
  have c1 : W.cell? ⟨A, 1, none⟩ = some (.int .i64 s.taken) := (cell_of_row _ _ 1 _ _ _ HA.out.auto).trans rfl
  obtain ⟨tk, htk⟩ : ∃ tk, s.taken = tk := ⟨_, rfl⟩
  rw [htk] at c1
  have t2 : (0 : Int) ≤ tk := by omega
  have HV := Lib.hid (valid_any (T := T) (er := er) e W (hG.below' Hb.out))
  rw [hv] at HV
  have HC := Lib.hid (fun V hV => called_any V (HA.out.keep hV) ((hG.below' Hb.out).below' hV) e (fun hk => (valid_call hv hk).1))
  rw [hc] at HC
  have HK := Lib.hid HE
  have t1 : (tk : Int) < 400 := by omega
  have HQ : Hid (∀ V, Below W.heap.size W V → V.cell? ⟨A, 12, none⟩ = some (.map (some eb)) ∧ V.heap[eb]? = some (.map es 7)) := fun V hV => ⟨(cell_of_row _ _ 12 _ _ _ (HA.out.keep hV).auto).trans rfl, keepB hV (keepB Hb.out hes)⟩
  have Hl := Lib.hid hl
  have Hb2 := Lib.hid Hb.out
  have H1 := Lib.hid h1
  clear h hG hv hc hl hes HE Hx hs' htk ht h1
  go_enter Tryd.func52, Tryd.ntmps52
  go_wp2_with (first
    | (go_at_call 59; (with_reducible refine HV.out.mono ?_); rintro en w2 ⟨hen, hb2⟩
       obtain rfl : en = .returned .nilIface := hen
       have B2 := Lib.hid hb2
       clear hb2
       obtain ⟨y0, y1, y2, y3, y4, y5, y6, y7⟩ := row_eight (HX.out w2 B2.out))
    | (go_at_call 60; (with_reducible refine (HC.out _ B2.out).mono ?_); rintro en w3 ⟨hen, hb3⟩
       obtain rfl : en = .returned .nilIface := hen
       have B3 : Hid (Below W.heap.size W w3) := stepB B2.out hb3.out
       obtain ⟨z0, z1, z2, z3, z4, z5, z6, z7⟩ := row_eight (HX.out w3 B3.out)
       obtain ⟨q1, q2⟩ := HQ.out w3 B3.out
       have q3 := Hl.out w3.drew (HQ.out w3.drew B3.out.drew).2))
  go_still_tail 9, (by kernel_rfl)
  change wpList _ _ _ _ _ w3.drew
  have B4 : Hid (Below w.heap.size w w3.drew) := (stepB Hb2.out B3.out).drew
  generalize w3.drew = w4 at *
  clear q1 q2 q3 z0 z1 z2 z3 z4 z5 z6 z7 y0 y1 y2 y3 y4 y5 y6 y7 x0 x1 x2 x3 x4 x5 x6 x7 c1
  go_wp2_with (first
    | (go_at_call 76; (with_reducible refine (HK.out _ B4.out).mono ?_); rintro en w5 ⟨rfl, M', rv', K⟩
       have d1 : w5.cell? ⟨A, 1, none⟩ = some (.int .i64 s1.taken) := (cell_of_row _ _ 1 _ _ _ K.out.1.auto).trans rfl
       have f1 : w5.frozen? ⟨A, 1, none⟩ = false := frozen_of_row _ A 1 _ 88 K.out.1.auto
       obtain ⟨tj, htj⟩ : ∃ tj, s1.taken = tj := ⟨_, rfl⟩
       rw [htj] at d1
       have t3 : (0 : Int) ≤ tj := by omega
       have t4 : (tj : Int) ≤ 400 := by (have := H1.out; omega)
       have Htj := Lib.hid htj
       clear htj))
  go_ret
  refine ⟨rfl, M', rv', ?_, ?_⟩
  · have := K.out.1.setAuto 1 (.int .i64 ((s1.taken : Int) + 1)) s1.busy (s1.taken + 1) rfl
    rw [Htj.out] at this
    show AutoAt _ _ _ _ _ (s1.taken + 1) _ _ _ _ _ _ _
    rw [Htj.out]
    exact this
  · exact ((B4.out.mono hB.out).trans K.out.2).setCell (p := ⟨A, 1, none⟩) K.out.1.low.1.1 _

theorem feed_any {B A : Nat} {os : List (Int × Int)} {s : St} {M : List (Nat × Value)} {oa : Option Addr} {oc : Nat} {rv : Value} {mb eb : Nat} (w : World) (h : AutoAt B A os s.recs s.busy s.taken M oa oc rv mb eb w) (hs : s.Ok) (hG : Glob T er w) (e : Ev) :
    Calls Tryd.prog 52 #[.pointer (some ⟨A, 0, none⟩), e.agg] w (EffIs T B A os oa oc mb eb w (stepZ os s e)) := by
  by_cases hc : s.taken < 400 ∧ validN e = 0 ∧ calledOk os e = true
  · obtain ⟨ht, hv, hk⟩ := hc
    have hst : stepZ os s e = (effZ s e).map fun s => { s with taken := s.taken + 1 } := by unfold stepZ; rw [if_pos ⟨ht, hv, hk⟩]
    have h1 : ∀ s1, effZ s e = some s1 → s1.taken ≤ 400 := fun s1 h1 => by
      have := (stepZ_ok hs (by rw [hst, h1]; rfl)).taken
      simp only [] at this
      omega
    rw [hst]
    by_cases h65 : e.kind = 1
    · have HE := fun V hV => eff_begin V (h.keep hV) hs (hG.below' hV) e hv h65
      obtain ⟨es, hes, hl⟩ := h.eff.first
      rw [← h65] at hl
      cases he : effZ s e with
      | none => rw [he] at HE; exact feed_65_no w h hG e ht hv hk es hes hl HE
      | some s1 => rw [he] at HE; exact feed_65_ok w h hG e ht hv hk es hes hl (h1 s1 he) HE
    · have hk7 := validN_kind hv
      obtain ⟨es, p, q, x, g, hes, hl, ⟨hp, hq⟩, hki⟩ := h.eff.get e.kind (by omega)
      have HE := fun V hV => eff_from V (h.keep hV) hs (hG.below' hV) e hki (keepB hV hp) (keepB hV hq)
      cases he : effZ s e with
      | none => rw [he] at HE; exact feed_76_no w h hG e ht hv hk p q es hes hl HE
      | some s1 => rw [he] at HE; exact feed_76_ok w h hG e ht hv hk p q es hes hl (h1 s1 he) HE
  · have hst : stepZ os s e = none := by unfold stepZ; rw [if_neg hc]
    rw [hst]
    by_cases ht : s.taken < 400
    · by_cases hv : validN e = 0
      · cases hk : calledOk os e with
        | true => exact absurd ⟨ht, hv, hk⟩ hc
        | false => exact feed_called w h hG e ht hv hk
      · exact feed_valid w h hG e ht hv
    · exact feed_many w h hG e (by omega)
end Go.Proofs.YtfjjhjojcgacbaaDoor

/- All events of a history, one by one; Check. -/
namespace Go.Proofs.YtfjjhjojcgacbaaDoor
open Go.RowKit Go.Maps Go.WideMaps Go.WideElems Go.ChangeShapes Go.WideShapes
variable {T : TypeId} {er : Nat → Addr}

theorem runZ_append (os : List (Int × Int)) : ∀ (l l' : List Ev) (s : St), runZ os s (l ++ l') = (runZ os s l).bind fun s => runZ os s l'
  | [], _, _ => rfl
  | e :: l, l', s => by
    show (stepZ os s e).bind (fun s => runZ os s (l ++ l')) = ((stepZ os s e).bind fun s => runZ os s l).bind _
    cases stepZ os s e with
    | none => rfl
    | some s1 => exact runZ_append os l l' s1
theorem runZ_next {os : List (Int × Int)} {s s1 : St} {es : List Ev} {k : Nat} {x : Ev} (h : runZ os s (es.take k) = some s1) (hx : es[k]? = some x) : runZ os s (es.take (k + 1)) = stepZ os s1 x := by
  rw [List.take_add_one, hx, Option.toList_some, runZ_append, h]
  show (stepZ os s1 x).bind (fun s => some s) = _
  cases stepZ os s1 x <;> rfl
theorem runZ_dead {os : List (Int × Int)} {s : St} {es : List Ev} {k : Nat} (h : runZ os s (es.take k) = none) : runZ os s es = none := by
  have := runZ_append os (es.take k) (es.drop k) s
  rw [List.take_append_drop, h] at this
  exact this
theorem runZ_ok {os : List (Int × Int)} : ∀ (es : List Ev) {s s1 : St}, s.Ok → runZ os s es = some s1 → s1.Ok
  | [], s, s1, h, h1 => by injection h1 with h1; exact h1 ▸ h
  | e :: es, s, s1, h, h1 => by
    obtain ⟨s2, h2, h3⟩ := Option.bind_eq_some_iff.1 (show (stepZ os s e).bind (fun s => runZ os s es) = some s1 from h1)
    exact runZ_ok es (stepZ_ok h h2) h3
/-- What a history's events make of an automaton: none where the history is not well-formed. -/
def tabZ (os : List (Int × Int)) (es : List Ev) : Option St := if hisOk os es = true then runZ os St.zero es else none
theorem AutoAt.down {B C A : Nat} {os : List (Int × Int)} {recs : List Rec} {busy : List (Option Nat)} {taken : Nat} {M : List (Nat × Value)} {oa : Option Addr} {oc : Nat} {rv : Value} {mb eb : Nat} {V : World} (h : AutoAt C A os recs busy taken M oa oc rv mb eb V) (hb : B ≤ C) : AutoAt B A os recs busy taken M oa oc rv mb eb V :=
  ⟨h.auto, ⟨⟨Nat.le_trans hb h.low.1.1, Nat.le_trans hb h.low.1.2⟩, Nat.le_trans hb h.low.2⟩, row_base h.objs hb, row_base h.order hb, h.map, h.eff.base hb, h.len, fun i r m hr hm => ⟨Nat.le_trans hb (h.one i r m hr hm).1, (h.one i r m hr hm).2.1, row_base (h.one i r m hr hm).2.2 hb⟩, h.apart, h.two⟩
theorem AutoAt.zero {B A : Nat} {os : List (Int × Int)} {oa : Option Addr} {oc : Nat} {rv : Value} {mb eb : Nat} {V : World} (h : AutoAt B A os [] [] 0 [] oa oc rv mb eb V) : AutoAt B A os St.zero.recs St.zero.busy St.zero.taken [] oa oc rv mb eb V :=
  ⟨h.auto, h.low, h.objs, h.order, h.map, h.eff, h.len, h.one, h.apart, h.two⟩
/-- What feedAll answers. -/
def FedIs (os : List (Int × Int)) (r : Option St) (w : World) (e : Ending) (w' : World) : Prop := match r with
  | none => NewErr w e w'
  | some s => ∃ A M oa oc rv mb eb, e = .returned (.tuple #[.pointer (some ⟨A, 0, none⟩), .nilIface]) ∧ Hid (s.Ok ∧ AutoAt w.heap.size A os s.recs s.busy s.taken M oa oc rv mb eb w' ∧ Below w.heap.size w w')

/-- An automaton that has taken the first k events. -/
structure FedK (os : List (Int × Int)) (es : List Ev) (B A k : Nat) (s : St) (M : List (Nat × Value)) (oa : Option Addr) (oc : Nat) (rv : Value) (mb eb : Nat) (w2 wr : World) : Prop where
  run : runZ os St.zero (es.take k) = some s
  ok : s.Ok
  auto : AutoAt B A os s.recs s.busy s.taken M oa oc rv mb eb wr
  below : Below B w2 wr

set_option maxHeartbeats 4000000 in
set_option maxRecDepth 100000 in
theorem feedAll_any (a b : Option Addr) (n c m d : Nat) (os : List (Int × Int)) (es : List Ev) (hn : os.length = n) (hm : es.length = m) (w : World) (ho : SlAt w a (obs os)) (he : EvsAt w b es m) (hG : Glob T er w) :
    Calls Tryd.prog 44 #[hv a n c b m d] w (FedIs os (tabZ os es) w) := by
  obtain ⟨W, hW, Hb, hs, Hx⟩ := cells_new w #[.slice a n c, .slice b m d] 25
  have HX : Hid (∀ V, Below W.heap.size W V → V.cell? ⟨w.heap.size, 0, none⟩ = some (.slice a n c) ∧ V.cell? ⟨w.heap.size, 1, none⟩ = some (.slice b m d)) := fun V hV => row_two (keepB hV Hx.out)
  have HV := Lib.hid (valid_his (T := T) (er := er) a b n c m d os es hn hm W (ObAt.of (ho.below Hb.out) hn) (he.below Hb.out) (hG.below' Hb.out))
  have HN := Lib.hid (fun V (hV : Below W.heap.size W V) => new_any (T := T) (er := er) a n c os hn V ((ho.below Hb.out).below hV) ((hG.below' Hb.out).below' hV))
  have He := Lib.hid (he.below Hb.out)
  have HG := Lib.hid (hG.below' Hb.out)
  have Hm := Lib.hid hm
  have Hhn := Lib.hid hn
  obtain ⟨x0, x1⟩ := HX.out W (Below.refl _ _)
  obtain ⟨R, hR⟩ : ∃ R, tabZ os es = R := ⟨_, rfl⟩
  rw [hR]
  cases hk : hisOk os es with
  | false =>
    rw [hk] at HV
    have HF : Hid (R = none) := by show _ = _; rw [← hR]; unfold tabZ; rw [hk]; rfl
    clear ho he hG hR hk hn hm Hx hs HN
    go_enter Tryd.func44, Tryd.ntmps44
    go_wp2_with (first | (go_at_call 50; (with_reducible refine HV.out.mono ?_); rintro e w2 ⟨he, h2⟩
                          obtain ⟨t9, p9, rfl⟩ : ∃ t p, e = .returned (.iface t (.pointer (some p))) := he))
    go_ret2
    rw [HF.out]
    exact ⟨_, _, rfl, stepB Hb.out h2.out⟩
  | true =>
    rw [hk] at HV
    have hk0 : hisOk os [] = true := by
      unfold hisOk at hk ⊢
      simp only [Bool.and_eq_true, decide_eq_true_eq] at hk ⊢
      exact ⟨hk.1, by simp, hk.2.2.1, by simp⟩
    have hm4 : m ≤ 400 := by
      unfold hisOk at hk
      simp only [Bool.and_eq_true, decide_eq_true_eq] at hk
      omega
    have HN2 : Hid (∀ V, Below W.heap.size W V → Calls Tryd.prog 51 #[.slice a n c] V (NewIs n (obs os) V)) := fun V hV => (HN.out V hV).mono fun _ _ h => by rwa [if_pos hk0] at h
    have HR : Hid (runZ os St.zero es = R) := by show _ = _; rw [← hR]; unfold tabZ; rw [hk]; rfl
    clear ho he hG hR hk hn hm Hx hs hk0 HN
    go_enter Tryd.func44, Tryd.ntmps44
    go_wp2_with (first
      | (go_at_call 50; (with_reducible refine HV.out.mono ?_); rintro e w2 ⟨he, h2⟩
         obtain rfl : e = .returned .nilIface := he
         clear x0 x1
         obtain ⟨y0, y1⟩ := HX.out w2 h2.out)
      | (go_at_call 51; (with_reducible refine (HN2.out _ h2.out).mono ?_); rintro e w3 h3
         obtain ⟨A, oa, oc, mb, eb, rfl, K3⟩ := NewIs.auto Hhn.out h3
         clear h3 y0 y1
         obtain ⟨z0, z1⟩ := HX.out w3 (stepB h2.out K3.out.2)))
    clear z0 z1
    have HD : Hid (FedK os es w2.heap.size A 0 St.zero [] oa oc (.slice none 0 0) mb eb w2 w3) := ⟨rfl, St.zero_ok, K3.out.1.zero, K3.out.2⟩
    have HW2 := Lib.hid h2.out
    clear K3 HN2 HV h2
    go_loopw [27] (fun i wr => ∃ (k : Nat) (s : St) (M : List (Nat × Value)) (rv : Value), k ≤ m ∧ i = .int .i64 ((k : Nat) : Int) ∧ Hid (FedK os es w2.heap.size A k s M oa oc rv mb eb w2 wr)) (fun i _ => m - (intOf i).toNat)
    case atStart => exact ⟨0, _, _, _, Nat.zero_le _, rfl, HD.out⟩
    case round =>
      clear HD
      obtain ⟨k, s, M, rv, hk, rfl, HD⟩ := hrel
      by_cases hlt : k < m
      · obtain ⟨b2, o2, y, rfl, hy, hc⟩ := He.out k hlt
        obtain ⟨u0, u1, u2, u3, u4, u5, u6, u7⟩ := hc wr (stepB HW2.out HD.out.below)
        have hltI : (k : Int) < (m : Int) := by omega
        obtain ⟨W4, hW4, Hb4, hs4, Hr⟩ := cells_new wr #[.int .i64 y.kind, .int .i64 y.tx, .int .i64 y.thread, .int .i64 y.obj, .int .i64 y.op, .int .i64 y.key, .int .i64 y.val, .int .i64 y.ret] 34
        obtain ⟨r0, r1, r2, r3, r4, r5, r6, r7⟩ := row_eight Hr.out
        have B4 : Hid (Below w2.heap.size w2 W4) := HD.out.below.trans (Hb4.out.mono HD.out.below.size)
        have HV := Lib.hid (feed_any W4 (HD.out.auto.keep Hb4.out) HD.out.ok (HG.out.below' (stepB HW2.out B4.out)) y)
        have HY : Hid (runZ os St.zero (es.take (k + 1)) = stepZ os s y) := runZ_next HD.out.run hy
        have HOk := Lib.hid HD.out.ok
        have HOk2 : Hid (∀ s1, stepZ os s y = some s1 → s1.Ok) := fun s1 h1 => stepZ_ok HOk.out h1
        cases hv : stepZ os s y with
        | none =>
          rw [hv] at HV HY
          have HF : Hid (R = none) := by show _ = _; rw [← HR.out]; exact runZ_dead HY.out
          clear hy hc hv
          go_wp2_with (first | (go_at_call 52; (with_reducible refine HV.out.mono ?_); rintro e w8 ⟨⟨p, rfl⟩, h8⟩))
          go_ret2
          rw [HF.out]
          exact ⟨_, _, rfl, stepB Hb.out (stepB HW2.out ((B4.out.trans h8.out).alloc (B4.out.trans h8.out).size _))⟩
        | some s1 =>
          rw [hv] at HV HY
          have HO1 : Hid s1.Ok := HOk2.out s1 hv
          clear hy hc hv
          go_wp2_with (first | (go_at_call 52; (with_reducible refine HV.out.mono ?_); rintro e w8 ⟨rfl, M1, rv1, h8⟩))
          go_roundw
          case rel => exact ⟨k + 1, s1, M1, rv1, by omega, by go_num, HY.out, HO1.out, h8.out.1, B4.out.trans h8.out.2⟩
          case measure => simp [intOf]; omega
      · have hkm : k = m := by omega
        have HF : Hid (R = some s) := by show _ = _; rw [← HR.out]; have := HD.out.run; rwa [hkm, List.take_of_length_le (by have := Hm.out; omega)] at this
        clear hkm
        go_wp2_with fail
        go_ret2
        rw [HF.out]
        exact ⟨A, M, oa, oc, rv, mb, eb, rfl, HD.out.ok, HD.out.auto.down (Nat.le_trans Hb.out.size HW2.out.size), stepB Hb.out (stepB HW2.out HD.out.below)⟩

set_option maxHeartbeats 4000000 in
set_option maxRecDepth 100000 in
theorem check_any (a b : Option Addr) (n c m d : Nat) (os : List (Int × Int)) (es : List Ev) (hn : os.length = n) (hm : es.length = m) (w : World) (ho : SlAt w a (obs os)) (he : EvsAt w b es m) (hG : Glob T er w) :
    Calls Tryd.prog 28 #[hv a n c b m d] w fun e w' => ToldA (tabZ os es).isSome e ∧ Hid (Below w.heap.size w w') := by
  obtain ⟨W, hW, Hb, hs, Hx⟩ := cells_new w #[.slice a n c, .slice b m d] 25
  have HV := Lib.hid (feedAll_any (T := T) (er := er) a b n c m d os es hn hm W (ho.below Hb.out) (he.below Hb.out) (hG.below' Hb.out))
  obtain ⟨x0, x1⟩ := row_two Hx.out
  clear ho he hG hn hm hs
  cases hk : tabZ os es with
  | none =>
    rw [hk] at HV
    clear hk
    go_enter Tryd.func28, Tryd.ntmps28
    go_wp2_with (first | (go_at_call 44; (with_reducible refine HV.out.mono ?_); rintro e w2 ⟨t9, p9, rfl, h2⟩))
    go_ret
    exact ⟨⟨_, _, rfl⟩, stepB Hb.out h2.out⟩
  | some s =>
    rw [hk] at HV
    clear hk
    go_enter Tryd.func28, Tryd.ntmps28
    go_wp2_with (first | (go_at_call 44; (with_reducible refine HV.out.mono ?_); rintro e w2 ⟨A, M, oa, oc, rv, mb, eb, rfl, h2⟩))
    go_ret
    exact ⟨rfl, stepB Hb.out h2.out.2.2⟩
end Go.Proofs.YtfjjhjojcgacbaaDoor
