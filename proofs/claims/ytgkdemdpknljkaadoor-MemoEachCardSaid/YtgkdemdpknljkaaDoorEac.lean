/- What holds while the set of the statement on Each is used: by lemmas. -/
import Derived.Test.YtgkdemdpknljkaaDoorEai
import Derived.Test.YtgkdemdpknljkaaDoorSts
import Derived.Test.YtgkdemdpknljkaaDoorLs3
import Derived.Deep.AppendLies
import Derived.Deep.RegionLaw
namespace Go.Proofs.YtgkdemdpknljkaaDoor
open Go.RowKit Go.Maps Go.WideMaps Go.WideElems Go.ChangeShapes Go.WideShapes
attribute [local go_sem] Oper.semAt_some

/-- What holds while the set sb is used: zs are its elements, ms the list beside it (its variable's block is sb + 2); wB is the world in which the variables were made. -/
structure EOpen (wB : World) (sb : Nat) (M : Int) (ms zs : List Int) (lv v mv : Value) (wr : World) : Prop where
  set : SetI 3 76 sb wr sb v mv M (L zs) (I zs)
  ft : ∀ i, foot sb v mv i → i = sb ∨ sb + 3 ≤ i
  row : wr.ownsRow (sb + 3) 3 1 lv ms.length (I ms)
  dis : ∀ b, lv.ownBlock = some b → ¬ foot sb v mv b
  only : Only (fun i => i = sb ∨ i = sb + 2) wB wr
  size : wB.heap.size = sb + 3
  lb : wr.heap[sb + 2]? = some (.cells #[lv] 22 (0, 0))

theorem EOpen.step {wB wr wr' : World} {sb : Nat} {M : Int} {ms zs : List Int} {lv v mv : Value} (h : EOpen wB sb M ms zs lv v mv wr) (ho : Only (fun _ => False) wr wr') : EOpen wB sb M ms zs lv v mv wr' :=
  ⟨h.set.only ho (fun _ _ h => h), h.ft, ownsRow_only h.row ho (fun _ _ h => h), h.dis, h.only.trans ho (fun _ h => h) (fun _ h => h.elim), h.size, by rw [ho.block _ (lt_of_block h.lb) (fun h => h)]; exact h.lb⟩

/-- Add turns the set alone. -/
theorem EOpen.add {wB wr wr' : World} {sb : Nat} {M : Int} {ms zs : List Int} {lv v mv v' mv' : Value} {x : Int} (h : EOpen wB sb M ms zs lv v mv wr) (hp : AddPost 3 76 sb wr sb v mv M (L zs ++ [.int .i64 x]) (I zs ++ [.int .i64 x]) wr' v' mv') : EOpen wB sb M ms (zs ++ [x]) lv v' mv' wr' := by
  have eL : L (zs ++ [x]) = L zs ++ [.int .i64 x] := by simp [L]
  have eI : I (zs ++ [x]) = I zs ++ [.int .i64 x] := by simp [I]
  have hsz := h.only.size
  have hs2 := h.size
  refine ⟨by rw [eL, eI]; exact hp.set, fun i hi => ?_, ownsRow_only h.row hp.only h.dis, fun b hb hf => ?_, ?_, h.size, ?_⟩
  · rcases hp.from' i hi with hf | hf
    · exact h.ft i hf
    · exact .inr (by omega)
  · rcases hp.from' b hf with hf' | hf'
    · exact h.dis b hb hf'
    · have := (h.row.lt b hb).2; omega
  · refine h.only.trans hp.only (fun _ h => h) (fun i hi => ?_)
    rcases h.ft i hi with e | e
    · exact .inl (.inl e)
    · exact .inr (by omega)
  · rw [hp.only.block _ (lt_of_block h.lb) (fun hf => by rcases h.ft _ hf with e | e <;> omega)]
    exact h.lb

/-- A variable's block. -/
theorem EOpen.box {wB wr : World} {sb : Nat} {M : Int} {ms zs : List Int} {lv v mv : Value} (h : EOpen wB sb M ms zs lv v mv wr) {b : Nat} {o : Obj} (hb : wB.heap[b]? = some o) (h1 : b ≠ sb) (h2 : b ≠ sb + 2) : wr.heap[b]? = some o := by
  rw [h.only.block b (by have := (Array.getElem?_eq_some_iff.1 hb).1; exact this) (fun e => e.elim h1 h2)]
  exact hb

theorem EOpen.same {wB wr wr' : World} {sb : Nat} {M : Int} {ms zs ms' zs' : List Int} {lv v mv lv' v' mv' : Value} (h : EOpen wB sb M ms zs lv v mv wr) (h' : EOpen wB sb M ms' zs' lv' v' mv' wr') {b o : Nat} {u : Value} (hb : b < sb ∨ b = sb + 1) (hc : wr.cell? ⟨b, o, none⟩ = some u) : wr'.cell? ⟨b, o, none⟩ = some u := by
  have hs := h.size
  refine (World.cell?_of_block (w := wr) ?_).trans hc
  rw [h'.only.block b (by omega) (by omega), h.only.block b (by omega) (by omega)]

theorem addI_has {wB wr : World} {sb : Nat} {M : Int} {ms zs : List Int} {lv v mv : Value} (h : EOpen wB sb M ms zs lv v mv wr) (x : Int) (hx : (Lit.int .i64 x).wf = true) (hin : (idxOf (L zs) (.int .i64 x)).isSome = true) :
    Calls Tryd.prog 10 #[.pointer (some ⟨sb, 0, none⟩), .int .i64 x] wr fun e w' => e = .returned (.tuple #[.bool false, .nilIface]) ∧ Only (fun _ => False) wr w' ∧ EOpen wB sb M ms zs lv v mv w' := by
  refine (seti_add_has _ sb v mv M _ _ x wr hx h.set hin).mono ?_
  rintro e w' ⟨rfl, ho⟩
  exact ⟨rfl, ho, h.step ho⟩
theorem addI_full {wB wr : World} {sb : Nat} {M : Int} {ms zs : List Int} {lv v mv ev : Value} (h : EOpen wB sb M ms zs lv v mv wr) (x : Int) (hx : (Lit.int .i64 x).wf = true) (hin : (idxOf (L zs) (.int .i64 x)).isSome = false) (hf : (zs.length : Int) = M) (hg : wr.cell? ⟨0, 0, none⟩ = some ev) :
    Calls Tryd.prog 10 #[.pointer (some ⟨sb, 0, none⟩), .int .i64 x] wr fun e w' => e = .returned (.tuple #[.bool false, ev]) ∧ Only (fun _ => False) wr w' ∧ EOpen wB sb M ms zs lv v mv w' := by
  refine (seti_add_full _ sb v mv M _ _ x wr ev hx h.set hin (by simpa using hf) hg (World.block_lt_of_cell? wr _ hg)).mono ?_
  rintro e w' ⟨rfl, ho⟩
  exact ⟨rfl, ho, h.step ho⟩
theorem addI_new {wB wr : World} {sb : Nat} {M : Int} {ms zs : List Int} {lv v mv : Value} (h : EOpen wB sb M ms zs lv v mv wr) (x : Int) (hx : (Lit.int .i64 x).wf = true) (hin : idxOf (L zs) (.int .i64 x) = none) (hf : (zs.length : Int) < M) (hsm : zs.length < 1000000) :
    Calls Tryd.prog 10 #[.pointer (some ⟨sb, 0, none⟩), .int .i64 x] wr fun e w' => e = .returned (.tuple #[.bool true, .nilIface]) ∧ ∃ v' mv', EOpen wB sb M ms (zs ++ [x]) lv v' mv' w' ∧ Only (foot sb v mv) wr w' ∧ RowStays v zs.length wr w' ∧ (∀ b, mv = .map (some b) → mv' = mv) ∧ ∀ i, foot sb v' mv' i → foot sb v mv i ∨ wr.heap.size ≤ i := by
  refine (seti_add_keeps _ sb v mv M _ _ x wr hx h.set (by rw [hin]; rfl) (by simpa using hf) (by simpa using hsm) (by have := h.only.size; have := h.size; omega)).mono ?_
  rintro e w' ⟨rfl, v', mv', hp, hst, hm⟩
  exact ⟨rfl, v', mv', h.add hp, hp.only, by simpa using hst, hm, fun i hi => hp.from' i hi⟩

/-- Add, whichever way it goes; the variables lie as they lay. -/
theorem addI_any {wB wr : World} {sb : Nat} {M : Int} {ms zs : List Int} {lv v mv ev : Value} (h : EOpen wB sb M ms zs lv v mv wr) (x : Int) (hx : (Lit.int .i64 x).wf = true) (hg : wr.cell? ⟨0, 0, none⟩ = some ev) (hsm : zs.length < 1000000) {b o : Nat} {u u2 : Value} (hb : b < sb) (hc : wr.cell? ⟨b, o, none⟩ = some u) (hp : wr.cell? ⟨sb + 1, 0, none⟩ = some u2) :
    Calls Tryd.prog 10 #[.pointer (some ⟨sb, 0, none⟩), .int .i64 x] wr fun e w' => ∃ (fr : Bool) (er : Value), e = .returned (.tuple #[.bool fr, er]) ∧ w'.cell? ⟨b, o, none⟩ = some u ∧ w'.cell? ⟨sb + 1, 0, none⟩ = some u2 ∧ Hid (∃ v' mv', EOpen wB sb M ms (if fr then zs ++ [x] else zs) lv v' mv' w') := by
  have hroom := h.set.room
  simp only [List.length_map] at hroom
  cases hi : idxOf (L zs) (.int .i64 x) with
  | some z =>
    refine (addI_has h x hx (by rw [hi]; rfl)).mono ?_
    rintro e w' ⟨rfl, _, h'⟩
    exact ⟨false, _, rfl, h.same h' (.inl hb) hc, h.same h' (.inr rfl) hp, _, _, h'⟩
  | none =>
    by_cases hf : (zs.length : Int) = M
    · refine (addI_full h x hx (by rw [hi]; rfl) hf hg).mono ?_
      rintro e w' ⟨rfl, _, h'⟩
      exact ⟨false, _, rfl, h.same h' (.inl hb) hc, h.same h' (.inr rfl) hp, _, _, h'⟩
    · refine (addI_new h x hx hi (by omega) hsm).mono ?_
      rintro e w' ⟨rfl, v', mv', h', _⟩
      exact ⟨true, _, rfl, h.same h' (.inl hb) hc, h.same h' (.inr rfl) hp, _, _, h'⟩

theorem EOpen.note {wB w1 w2 : World} {sb : Nat} {M : Int} {ms zs : List Int} {lv v mv lv' : Value} {x : Int} {o : Obj} (h : EOpen wB sb M ms zs lv v mv w1) (hown : w2.ownsRow (sb + 3) 3 1 lv' (ms.length + 1) (I ms ++ [.int .i64 x])) (hg : (w1.alloc o).grownBy w2 lv.ownBlock) (hloc : lv'.ownBlock = lv.ownBlock ∨ lv'.ownBlock = some w1.heap.size ∨ lv'.ownBlock = some (w1.heap.size + 1)) :
    EOpen wB sb M (ms ++ [x]) zs lv' v mv (w2.setCell ⟨sb + 2, 0, none⟩ lv') := by
  have o2 : Only (fun i => lv.ownBlock = some i) w1 w2 := (Only.of_alloc w1 o).trans (Only.of_grown hg) (fun _ (h : False) => h.elim) (fun _ h => .inl h)
  have hsz := h.only.size
  have hs := h.size
  have hl2 : w2.heap[sb + 2]? = some (.cells #[lv] 22 (0, 0)) := by
    rw [o2.block _ (lt_of_block h.lb) (fun e => by have := (h.row.lt _ e).1; omega)]; exact h.lb
  have o3 := Only.of_setCell w2 ⟨sb + 2, 0, none⟩ lv'
  have hfar : ∀ i, foot sb v mv i → ¬ (i = sb + 2) := fun i hi e => by rcases h.ft i hi with k | k <;> omega
  have eI : I (ms ++ [x]) = I ms ++ [.int .i64 x] := by simp [I]
  refine ⟨(h.set.only o2 (fun i hi e => h.dis i e hi)).only o3 (fun i hi e => hfar i hi e), h.ft, ?_, ?_, ?_, hs, ?_⟩
  · rw [eI, List.length_append]
    exact ownsRow_only hown o3 (fun b hb e => by have := (hown.lt b hb).1; have e' : b = sb + 2 := e; omega)
  · intro b hb hf
    rcases hloc with e | e | e
    · exact h.dis b (e ▸ hb) hf
    · rw [e] at hb; cases hb
      have := (h.set.lt _ hf).2; omega
    · rw [e] at hb; cases hb
      have := (h.set.lt _ hf).2; omega
  · refine (h.only.trans o2 (fun _ h => h) (fun i hi => .inr (by have := (h.row.lt i hi).1; omega))).trans o3 (fun _ h => h) (fun i hi => .inl (.inr hi))
  · exact heap_setCell_cells hl2 lv'

theorem EOpen.lbX {wB w1 w2 X : World} {sb : Nat} {M : Int} {ms zs : List Int} {lv v mv : Value} {o : Obj} (h : EOpen wB sb M ms zs lv v mv w1) (hX : X.heap = (w1.alloc o).heap) (hg : X.grownBy w2 lv.ownBlock) : w2.heap[sb + 2]? = some (.cells #[lv] 22 (0, 0)) := by
  have hlt := lt_of_block h.lb
  rw [hg.block (sb + 2) (by rw [hX]; simp; omega) (fun e => by have := (h.row.lt _ e.symm).1; omega), hX, heap_alloc_old _ _ hlt]
  exact h.lb

theorem eq_nilfunc (fn : Fn) (x y : Array Value) (w : World) : (binOp .eql 37 (.func fn x y) .nilFunc).run Tryd.prog w = .ok (.bool false) w := by
  have h : ∀ k, (Op.equalIn (k + 1) 37 (.func fn x y) .nilFunc).run Tryd.prog w = .ok false w := fun k => by
    simp only [Op.equalIn, Sem.run_bind, run_underlying Tryd.underlying37, Result.andThen_ok, Sem.run_pure]
  simp only [binOp]
  simp [Op.equal, Op.maxDepth, h 9999]

set_option maxHeartbeats 400000 in
theorem eachsI (sb : Nat) (w : World) : Calls Tryd.prog 16 #[.pointer (some ⟨sb, 0, none⟩)] w fun e w' => e = .returned (.func (.func 40) #[] #[.pointer (some ⟨w.heap.size, 0, none⟩)]) ∧ w.alloc (.cells #[.pointer (some ⟨sb, 0, none⟩)] 24) = w' := by
  have hmf : ∀ (fn : Fn) (first cap : Array Value) (w : World), (Instr.makeFunc fn first cap).run Tryd.prog w = .ok (.func fn first cap) w := fun _ _ _ _ => rfl
  go_enter Tryd.func16, Tryd.ntmps16
  go_wp2
  go_ret
  exact ⟨rfl, rfl⟩

theorem res4 (tmps : Array Value) (w : World) (rb : Nat) (v : Bool) (hp : tmps.getD 8 undef = .pointer (some ⟨rb, 0, none⟩)) (hg : w.cell? ⟨rb, 0, none⟩ = some (.bool v)) :
    (results Tryd.f4 tmps).run Tryd.prog w = .ok (.bool v) w := by
  have hp' : tmps[8]?.getD undef = .pointer (some ⟨rb, 0, none⟩) := by simpa using hp
  have hu := Tryd.underlying4
  simp [results, hp', asAddr, loadVar, isAgg, underlying, hu, go_sem, hg]

theorem leave4 {R : Ending → World → Prop} {a : Act} {w : World} (rb : Nat) (v : Bool) (hd : a.defers = []) (hp : a.tmps.getD 8 undef = .pointer (some ⟨rb, 0, none⟩)) (hg : w.cell? ⟨rb, 0, none⟩ = some (.bool v)) (hR : R (.returned (.bool v)) w) :
    bodyPostM Fence.wide 10 Tryd.prog Tryd.f4 R .ret a w := by
  show LeavesInM Fence.wide 10 Tryd.prog Tryd.f4 a.tmps R a.defers .returning w
  rw [hd]
  exact ⟨_, res4 a.tmps w rb v hp hg, hR⟩

/-- A mark that a loop over an iterator leaves among the deferred calls. -/
def markD (D : Nat) : Deferred := { target := .collected D, args := #[] }

theorem leavesD4 {R : Ending → World → Prop} {tmps : Array Value} (rb : Nat) (v : Bool) (hp : tmps.getD 8 undef = .pointer (some ⟨rb, 0, none⟩)) : ∀ (Ds : List Nat) (w : World), Ds.Nodup → (∀ D ∈ Ds, w.heap[D]? = some (.deferred (some []))) →
    w.cell? ⟨rb, 0, none⟩ = some (.bool v) → (∀ w', Only (fun i => i ∈ Ds) w w' → R (.returned (.bool v)) w') → LeavesInM Fence.wide 10 Tryd.prog Tryd.f4 tmps R (Ds.map markD) .returning w
  | [], w, _, _, hg, hR => ⟨_, res4 tmps w rb v hp hg, hR w (Only.refl _ _)⟩
  | D :: Ds, w, hn, hk, hg, hR => by
    have hK := hk D (List.mem_cons_self ..)
    have hn' := List.nodup_cons.1 hn
    refine ⟨by simp, .inl ⟨D, _, rfl, run_takeDeferred hK, ?_⟩⟩
    have ho : Only (fun i => i = D) w (w.putObj D (.deferred none)) := (Only.of_grown (grownBy_putObj' w D (.deferred none))).mono (fun i hi => .inl (by cases hi; rfl))
    refine leavesD4 rb v hp Ds _ hn'.2 (fun D' hD' => ?_) ?_ (fun w' h' => hR w' ?_)
    · rw [ho.block D' (lt_of_block (hk D' (List.mem_cons_of_mem _ hD'))) (fun e => hn'.1 (e ▸ hD'))]
      exact hk D' (List.mem_cons_of_mem _ hD')
    · exact cell_kept hg (grownBy_putObj' _ D (.deferred none)) (fun r e => by cases e; exact ⟨_, hK, rfl⟩)
    · exact ho.trans h' (fun i hi => by rw [show i = D from hi]; exact List.mem_cons_self ..) (fun i hi => .inl (List.mem_cons_of_mem _ hi))

theorem leave4D {R : Ending → World → Prop} {a : Act} {w : World} (rb : Nat) (v : Bool) (Ds : List Nat) (hd : a.defers = Ds.map markD) (hp : a.tmps.getD 8 undef = .pointer (some ⟨rb, 0, none⟩)) (hn : Ds.Nodup) (hk : ∀ D ∈ Ds, w.heap[D]? = some (.deferred (some [])))
    (hg : w.cell? ⟨rb, 0, none⟩ = some (.bool v)) (hR : ∀ w', Only (fun i => i ∈ Ds) w w' → R (.returned (.bool v)) w') : bodyPostM Fence.wide 10 Tryd.prog Tryd.f4 R .ret a w := by
  show LeavesInM Fence.wide 10 Tryd.prog Tryd.f4 a.tmps R a.defers .returning w
  rw [hd]
  exact leavesD4 rb v hp Ds w hn hk hg hR

def Settled (M more : Int) (zs : List Int) : Prop := (idxOf (L zs) (.int .i64 more)).isSome = true ∨ (zs.length : Int) = M

theorem EOpen.mapb {wB wr : World} {sb : Nat} {M : Int} {ms zs : List Int} {lv v mv : Value} (h : EOpen wB sb M ms zs lv v mv wr) (hz : zs ≠ []) : ∃ b, mv = .map (some b) := by
  rcases h.set.ix with ⟨_, hf⟩ | ⟨b, D, e, _⟩
  · cases zs with
    | nil => exact absurd rfl hz
    | cons x zs =>
      have := hf (.int .i64 x)
      simp [idxOf, List.findIdx?_cons, WideAt.sameKey_self (isKeyI x)] at this
  · exact ⟨b, e⟩

theorem EOpen.own {wB W W' : World} {sb B : Nat} {M : Int} {ms zs : List Int} {lv v mv : Value} {row : Option Nat} (h : EOpen wB sb M ms zs lv v mv W) (hm : ∀ b, mapBlock mv = some b → b < B) (hwB : wB.heap.size ≤ B) (hg : W.grownBy W' row) (hr : ∀ r, row = some r → B ≤ r ∧ ∃ o : Obj, W.heap[r]? = some o ∧ o.isCells = false) : EOpen wB sb M ms zs lv v mv W' := by
  have ho := Only.of_grown hg
  have nocell : ∀ i t fr cs, W.heap[i]? = some (.cells cs t fr) → ¬ row = some i := fun i t fr cs hc e => by
    obtain ⟨_, o, ho, hoc⟩ := hr i e
    rw [hc] at ho; cases ho; cases hoc
  have norow : ∀ {k : Nat} {base : Nat} {e : TypeId} {size : Nat} {u : Value} {n : Nat} {xs : List Value}, W.ownsRow base e size u n xs → u.ownBlock = some k → ¬ row = some k := fun {k base e size u n xs} ho hb => by
    rcases ho.2 with ⟨e1, _⟩ | ⟨g, cap, cur, e1, _, hg', _⟩
    · rw [e1] at hb; cases hb
    · rw [e1] at hb
      have : g = k := by simpa [Value.ownBlock] using hb
      subst this
      exact nocell _ _ _ _ hg'
  refine ⟨h.set.only ho ?_, h.ft, ownsRow_only h.row ho (fun b hb => norow h.row hb), h.dis, h.only.trans ho (fun _ h => h) (fun i hi => .inr (Nat.le_trans hwB (hr i hi).1)), h.size, ?_⟩
  · rintro i (rfl | hi | hi)
    · exact nocell _ _ _ _ h.set.cells
    · exact norow h.set.row hi
    · intro e
      have h1 := hm i hi
      have h2 := (hr i e).1
      omega
  · rw [ho.block _ (lt_of_block h.lb) (nocell _ _ _ _ h.lb)]
    exact h.lb

/-- The rows as the walks read them. -/
theorem rowI {W : World} {base : Nat} {v : Value} {zs : List Int} (hr : W.ownsRow base 3 1 v zs.length (I zs)) : ∃ a c, v = .slice a zs.length c ∧ ∀ j, j < zs.length → ∃ g, a = some ⟨g, 0, none⟩ ∧ v.ownBlock = some g ∧ W.cell? ⟨g, j, none⟩ = some (.int .i64 (zs[j]?.getD 0)) := by
  rcases hr.2 with ⟨e, h0⟩ | ⟨g, cap, cur, e, hb, hg, _⟩
  · subst e
    exact ⟨none, 0, by rw [h0], fun j hj => by omega⟩
  · subst e
    refine ⟨_, cap, rfl, fun j hj => ⟨g, rfl, rfl, ?_⟩⟩
    have := hr.cells (g := g) rfl j (.int .i64 (zs[j]?.getD 0)) (by simp [hj])
    rwa [addz] at this

/-- A block that is no part of a set: a mark, or the box of a pointer. -/
def Odd (o : Obj) : Prop := (∃ x, o = .deferred x) ∨ ∃ u, o = .cells #[u] 24 (0, 0)

theorem EOpen.notfoot {wB W : World} {sb : Nat} {M : Int} {ms zs : List Int} {lv v mv : Value} (h : EOpen wB sb M ms zs lv v mv W) {k : Nat} {o : Obj} (hk : k ≠ sb) (hko : W.heap[k]? = some o) (ho : Odd o) : ¬ foot sb v mv k := by
  rintro (e | hi | hi)
  · exact hk e
  · rcases h.set.row.2 with ⟨e1, _⟩ | ⟨g, cap, cur, e1, _, hg, _⟩
    · rw [e1] at hi; cases hi
    · rw [e1] at hi
      have : g = k := by simpa [Value.ownBlock] using hi
      subst this
      rw [hko] at hg
      rcases ho with ⟨x, rfl⟩ | ⟨u, rfl⟩ <;> simp at hg
  · rcases h.set.ix with ⟨e1, _⟩ | ⟨b, D, e1, ⟨es, clock, hb, _⟩, _⟩
    · rw [e1] at hi; cases hi
    · rw [e1] at hi; cases hi
      rw [hko] at hb
      rcases ho with ⟨x, rfl⟩ | ⟨u, rfl⟩ <;> cases hb

/-- Between two rounds of the loop over the iterator: what the set holds. -/
def RI (wB : World) (sb : Nat) (M more : Int) (zs : List Int) (lv : Value) (pb B : Nat) (zsS : List Int) (vS : Value) (pre : List Nat) (W : World) : Prop :=
  ∃ zs2 v2 mv2, EOpen wB sb M zs zs2 lv v2 mv2 W ∧ (zs2 = zs ∨ zs2 = zs ++ [more]) ∧ (∀ b, mapBlock mv2 = some b → b < pb) ∧ (∀ i, foot sb v2 mv2 i → i < pb ∨ B ≤ i) ∧ ((pre = [] ∧ zs2 = zsS ∧ v2 = vS ∧ ∀ i, foot sb v2 mv2 i → i < pb) ∨ (pre ≠ [] ∧ Settled M more zs2))

theorem RI.own {wB : World} {sb : Nat} {M more : Int} {zs : List Int} {lv : Value} {pb : Nat} {zsS : List Int} {vS : Value} {B : Nat} (hB : pb ≤ B) (hwB : wB.heap.size ≤ B) : OwnFrom B (RI wB sb M more zs lv pb B zsS vS) := by
  rintro pre W W' row ⟨zs2, v2, mv2, h, h1, h2, h3⟩ hg hr
  exact ⟨zs2, v2, mv2, h.own (fun b hb => Nat.lt_of_lt_of_le (h2 b hb) hB) hwB hg hr, h1, h2, h3⟩

theorem RI.step {wB : World} {sb : Nat} {M more : Int} {zs : List Int} {lv : Value} {pb B : Nat} {zsS : List Int} {vS : Value} {pre : List Nat} {W W' : World} (h : RI wB sb M more zs lv pb B zsS vS pre W) (ho : Only (fun i => pb ≤ i ∧ i < B) W W') (hsb : sb + 3 ≤ pb) (hlv : ∀ b, lv.ownBlock = some b → b < pb) : RI wB sb M more zs lv pb B zsS vS pre W' := by
  obtain ⟨zs2, v2, mv2, h, h1, h2, hf, h3⟩ := h
  have hs := h.size
  refine ⟨zs2, v2, mv2, ⟨h.set.only ho (fun i hi hF => by have := hf i hi; omega), h.ft, ownsRow_only h.row ho (fun b hb hF => by have := hlv b hb; omega), h.dis, h.only.trans ho (fun _ h => h) (fun i hi => .inr (by omega)), h.size, ?_⟩, h1, h2, hf, h3⟩
  rw [ho.block _ (lt_of_block h.lb) (by omega)]
  exact h.lb

theorem keepsFrom_only {F : Nat → Prop} {W W' : World} {B : Nat} (ho : Only F W W') (hF : ∀ i, F i → i < B) : KeepsFrom B W W' :=
  ⟨ho.size, fun k o hk hko _ => (ho.block k (lt_of_block hko) (fun h => by have := hF k h; omega)).trans hko⟩

theorem RI.add {wB : World} {sb : Nat} {M more : Int} {zs : List Int} {lv : Value} {pb : Nat} {zsS : List Int} {vS : Value} {pre : List Nat} {W : World} {ev : Value} {B : Nat} (h : RI wB sb M more zs lv pb B zsS vS pre W) (x : Nat) (hB : pb ≤ B) (hBW : B ≤ W.heap.size) (hne : zsS ≠ []) (hx : (Lit.int .i64 more).wf = true) (hg : W.cell? ⟨0, 0, none⟩ = some ev) (hsm : zs.length < 1000) (hsb : sb + 3 ≤ pb) :
    Calls Tryd.prog 10 #[.pointer (some ⟨sb, 0, none⟩), .int .i64 more] W fun e w' => ∃ (fr : Bool) (er : Value), e = .returned (.tuple #[.bool fr, er]) ∧
      Hid (RI wB sb M more zs lv pb B zsS vS (pre ++ [x]) w' ∧ KeepsFrom B W w' ∧ RowStays vS zsS.length W w' ∧ (∀ k, (k < sb ∨ k = sb + 1 ∨ (pb ≤ k ∧ k < B)) → k < W.heap.size → w'.heap[k]? = W.heap[k]?) ∧ ∀ k o, k ≠ sb → W.heap[k]? = some o → Odd o → w'.heap[k]? = some o) := by
  obtain ⟨zs2, v2, mv2, h, h1, h2, hfp, h3⟩ := h
  have hpe : pre ++ [x] ≠ [] := by simp
  have still : ∀ {w'}, Only (fun _ => False) W w' → EOpen wB sb M zs zs2 lv v2 mv2 w' → Settled M more zs2 → Hid (RI wB sb M more zs lv pb B zsS vS (pre ++ [x]) w' ∧ KeepsFrom B W w' ∧ RowStays vS zsS.length W w' ∧ (∀ k, (k < sb ∨ k = sb + 1 ∨ (pb ≤ k ∧ k < B)) → k < W.heap.size → w'.heap[k]? = W.heap[k]?) ∧ ∀ k o, k ≠ sb → W.heap[k]? = some o → Odd o → w'.heap[k]? = some o) := fun {w'} ho he hs =>
    ⟨⟨zs2, v2, mv2, he, h1, h2, hfp, .inr ⟨hpe, hs⟩⟩, keepsFrom_only ho (fun _ h => h.elim), RowStays.of_only ho (fun _ _ h => h), fun k _ hk => ho.block k hk (fun h => h), fun k o _ hk _ => (ho.block k (lt_of_block hk) (fun h => h)).trans hk⟩
  cases hi : idxOf (L zs2) (.int .i64 more) with
  | some z =>
    refine (addI_has h more hx (by rw [hi]; rfl)).mono ?_
    rintro e w' ⟨rfl, ho, h'⟩
    exact ⟨false, _, rfl, still ho h' (.inl (by rw [hi]; rfl))⟩
  | none =>
    by_cases hf : (zs2.length : Int) = M
    · refine (addI_full h more hx (by rw [hi]; rfl) hf hg).mono ?_
      rintro e w' ⟨rfl, ho, h'⟩
      exact ⟨false, _, rfl, still ho h' (.inr hf)⟩
    · have hroom := h.set.room
      simp only [List.length_map] at hroom
      have hlen : zs2.length ≤ zs.length + 1 := by rcases h1 with e | e <;> rw [e] <;> simp
      refine (addI_new h more hx hi (by omega) (by omega)).mono ?_
      rintro e w' ⟨rfl, v', mv', h', ho, hst, hmv, hnf⟩
      rcases h3 with ⟨hp, hzS, hvS, hft⟩ | ⟨_, hs⟩
      · have hz2 : zs2 = zs := by
          rcases h1 with e | e
          · exact e
          · exfalso
            rw [e] at hi
            have e2 : L (zs ++ [more]) = L zs ++ [.int .i64 more] := by simp [L]
            rw [e2] at hi
            cases hz : idxOf (L zs) (.int .i64 more) with
            | none =>
              rw [idxOf_snoc hz] at hi
              simp [upd, WideAt.sameKey_self (isKeyI more)] at hi
            | some q =>
              simp only [idxOf, Option.map_eq_some_iff, Option.map_eq_none_iff] at hz hi
              obtain ⟨q', hq, _⟩ := hz
              rw [List.findIdx?_append, hq] at hi
              simp at hi
        obtain ⟨b, hb⟩ := h.mapb (by rw [hzS]; exact hne)
        have hmb := hmv b hb
        refine ⟨true, _, rfl, ⟨zs2 ++ [more], v', mv', h', .inr (by rw [hz2]), by rw [hmb]; exact h2, fun i hi => ?_, .inr ⟨hpe, .inl ?_⟩⟩, keepsFrom_only ho (fun i hi => Nat.lt_of_lt_of_le (hft i hi) hB), ?_, ?_, fun k o hk hko ho' => (ho.block k (lt_of_block hko) (h.notfoot hk hko ho')).trans hko⟩
        · rcases hnf i hi with k | k
          · exact .inl (hft i k)
          · exact .inr (by omega)
        · have e2 : L (zs2 ++ [more]) = L zs2 ++ [.int .i64 more] := by simp [L]
          rw [e2, idxOf_snoc hi]
          simp [upd, WideAt.sameKey_self (isKeyI more)]
        · rw [← hvS, ← hzS]; exact hst
        · intro k hk hkl
          refine ho.block k hkl (fun hf => ?_)
          have h5 := h.ft k hf
          have h6 := hft k hf
          omega
      · exfalso
        rcases hs with hs | hs
        · rw [hi] at hs; cases hs
        · exact hf hs

/-- At the head of a round of the outer loop. -/
structure MRel (wB : World) (sb cb pb : Nat) (M more : Int) (zs : List Int) (lv : Value) (Ds : List Nat) (W : World) : Prop where
  ex : ∃ zs2 v2 mv2, EOpen wB sb M zs zs2 lv v2 mv2 W ∧ (zs2 = zs ∨ zs2 = zs ++ [more]) ∧ ∀ i, foot sb v2 mv2 i → i < pb
  cbp : W.heap[cb]? = some (.cells #[.pointer (some ⟨sb, 0, none⟩)] 24 (0, 0))
  cblt : cb < pb
  sbcb : sb + 3 ≤ cb
  lvlt : ∀ b, lv.ownBlock = some b → b < cb
  marks : ∀ D ∈ Ds, W.heap[D]? = some (.deferred (some []))
  nodup : Ds.Nodup
  dge : ∀ D ∈ Ds, sb + 3 ≤ D
end Go.Proofs.YtgkdemdpknljkaaDoor
