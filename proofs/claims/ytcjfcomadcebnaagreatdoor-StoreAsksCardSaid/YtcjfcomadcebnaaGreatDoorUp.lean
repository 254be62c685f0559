/- Laws for the walk of the statement on what stores tell. -/
import Derived.Test.YtcjfcomadcebnaaGreatDoorM10
import Derived.Test.YtcjfcomadcebnaaGreatDoorM11
import Derived.Test.YtcjfcomadcebnaaGreatDoorOh
import Derived.Test.YtcjfcomadcebnaaGreatDoorDw
import Derived.Deep.LoopGhost
namespace Go.Proofs.YtcjfcomadcebnaaGreatDoor
open Go.RowKit Go.Maps Go.WideMaps Go.WideElems Go.ChangeShapes Go.WideShapes
attribute [local go_sem] Oper.semAt_some
variable {er : Nat → Addr}

def calm (Q : Exit → Act → World → Prop) : Exit → Act → World → Prop
  | .panic _, _, _ => False
  | e, a, w => Q e a w
theorem res3q (tmps : Array Value) (w : World) (rb : Nat) (v : Bool) (hp : tmps.getD 10 undef = .pointer (some ⟨rb, 0, none⟩)) (hg : w.cell? ⟨rb, 0, none⟩ = some (.bool v)) :
    (results Tryz.f3 tmps).run Tryz.prog w = .ok (.bool v) w := by
  have hp' : tmps[10]?.getD undef = .pointer (some ⟨rb, 0, none⟩) := by simpa using hp
  have hu := Tryz.underlying4
  simp [results, hp', asAddr, loadVar, isAgg, underlying, hu, go_sem, hg]
def markD (D : Nat) : Deferred := { target := .collected D, args := #[] }
theorem cell_kept1 {w w' : World} {g o : Nat} {v : Value} {row : Option Nat} (h : w.cell? ⟨g, o, none⟩ = some v) (hg : w.grownBy w' row) (hr : ∀ r, row = some r → ∃ x, w.heap[r]? = some x ∧ x.isCells = false) : w'.cell? ⟨g, o, none⟩ = some v := by
  have hlt := World.block_lt_of_cell? w _ h
  refine (World.cell?_of_block (a := ⟨g, o, none⟩) (hg.block g hlt (fun e => ?_))).trans h
  obtain ⟨x, hx, hc⟩ := hr g e.symm
  simp only [World.cell?, hx] at h
  cases x <;> simp_all [Obj.isCells]
theorem leavesD3 {R : Ending → World → Prop} {tmps : Array Value} (B rb : Nat) (v : Bool) (hp : tmps.getD 10 undef = .pointer (some ⟨rb, 0, none⟩)) : ∀ (Ds : List Nat) (w : World), Ds.Nodup → (∀ D ∈ Ds, w.heap[D]? = some (.deferred (some []))) → (∀ D ∈ Ds, B ≤ D) → B ≤ w.heap.size →
    w.cell? ⟨rb, 0, none⟩ = some (.bool v) → (∀ w', Below B w w' → R (.returned (.bool v)) w') → LeavesInM Fence.wide 10 Tryz.prog Tryz.f3 tmps R (Ds.map markD) .returning w
  | [], w, _, _, _, _, hg, hR => ⟨_, res3q tmps w rb v hp hg, hR w (Below.refl _ _)⟩
  | D :: Ds, w, hn, hk, hb, hB, hg, hR => by
    have hK := hk D (List.mem_cons_self ..)
    have hn' := List.nodup_cons.1 hn
    refine ⟨by simp, .inl ⟨D, _, rfl, run_takeDeferred hK, ?_⟩⟩
    have hgr := grownBy_putObj' w D (.deferred none)
    have ho : Below B w (w.putObj D (.deferred none)) := (Below.refl B w).grown hgr hB (fun k e => by cases e; exact hb D (List.mem_cons_self ..))
    refine leavesD3 B rb v hp Ds _ hn'.2 (fun D' hD' => ?_) (fun D' hD' => hb D' (List.mem_cons_of_mem _ hD')) (Nat.le_trans hB ho.size) ?_ (fun w' h' => hR w' (ho.trans h'))
    · have h1 := hk D' (List.mem_cons_of_mem _ hD')
      exact (hgr.block D' (Array.getElem?_eq_some_iff.1 h1).1 (fun e => hn'.1 (by cases e; exact hD'))).trans h1
    · exact cell_kept1 hg hgr (fun r e => by cases e; exact ⟨_, hK, rfl⟩)
theorem leave3D {R : Ending → World → Prop} {a : Act} {w : World} (B rb : Nat) (v : Bool) (Ds : List Nat) (hd : a.defers = Ds.map markD) (hp : a.tmps.getD 10 undef = .pointer (some ⟨rb, 0, none⟩)) (hn : Ds.Nodup) (hk : ∀ D ∈ Ds, w.heap[D]? = some (.deferred (some []))) (hb : ∀ D ∈ Ds, B ≤ D) (hB : B ≤ w.heap.size)
    (hg : w.cell? ⟨rb, 0, none⟩ = some (.bool v)) (hR : ∀ w', Below B w w' → R (.returned (.bool v)) w') : bodyPostM Fence.wide 10 Tryz.prog Tryz.f3 R .ret a w := by
  show LeavesInM Fence.wide 10 Tryz.prog Tryz.f3 a.tmps R a.defers .returning w
  rw [hd]
  exact leavesD3 B rb v hp Ds w hn hk hb hB hg hR
theorem eq_nilfunc3 (fn : Fn) (x y : Array Value) (w : World) : (binOp .eql 44 (.func fn x y) .nilFunc).run Tryz.prog w = .ok (.bool false) w := by
  have hu : Tryz.prog.underlying 44 = _ := Tryz.underlying44
  have h : ∀ k, (Op.equalIn (k + 1) 44 (.func fn x y) .nilFunc).run Tryz.prog w = .ok false w := fun k => by
    simp only [Op.equalIn, Sem.run_bind, run_underlying hu, Result.andThen_ok, Sem.run_pure]
  simp only [binOp]
  simp [Op.equal, Op.maxDepth, h 9999]
theorem one_at {W : World} {B : Nat} {x : Value} {t : TypeId} (h : W.heap[B]? = some (.cells #[x] t)) : W.cell? ⟨B, 0, none⟩ = some x ∧ W.frozen? ⟨B, 0, none⟩ = false := ⟨by simp [World.cell?, h], frozen_of_row _ B 0 _ _ h⟩
/-- A law for a loop over an iterator whose variable is a box: the frame behind the assignment is told by the item and the box. -/
theorem rangeFunc_g {F : Fence} {n : Nat} {P : Program} {α : Type} {g : Operand} {ps : Array Tmp} {assign body : Code} {Q : Exit → Act → World → Prop} {a : Act} {w : World} (hro : F.round = none) (h1 : 1 ≤ n) {gf : Nat} {lb : Array Value} (hg : a.eval g = .func (.func gf) #[] lb) (hFg : F.fn gf)
    (eg : ∀ args w, (callFunc gf args).run P w = .ok (.enter gf args) w) {encs : α → Array Value} {Kp Tr : World → World → Prop} {S Sp : List α → Prop} {N : Nat} {w0 : World} (hseq : SeqC F (n - 1) P gf lb encs Kp Tr S Sp N w0)
    (hTr : ∀ A B, Tr A B → KeepsOthers A B) (hKt : ∀ {A B C : World}, Kp A B → Kp B C → Kp A C) (hKb : ∀ (W : World) (o : Obj), w.heap.size + 1 < W.heap.size → Kp W (W.putObj (w.heap.size + 1) o)) (hb0 : Below w0.heap.size w0 w) (hps : ∀ x, (encs x).size = ps.size)
    (I : List α → World → Prop) (Ix : Code → List α → World → Prop) (hI : OwnFrom w.heap.size I) (hIT : ∀ s A B, I s A → Tr A B → I s B) (hIx : ∀ c, OwnFrom w.heap.size (Ix c)) (h0 : I [] w) {a₁ : α → Nat → Act} (Ax : α → Nat → World → Prop) (hAx : ∀ x hb, OwnFrom w.heap.size (fun (_ : Unit) W => Ax x hb W)) (hKT : ∀ s A B, I s A → Tr A B → Kp A B)
    (hassign : ∀ (l : Nat) (x : α) (W : World) (K : Act → World → Prop), (∀ hb W', Tr W W' → Ax x hb W' → K (a₁ x hb) W') → assign.wpIn (F.inRound l) (n - 1 - 1) P (Exit.then K (fun _ _ _ => False)) { tmps := (ps.zip (encs x)).foldl (fun t (p, v) => t.setIfInBounds p v) a.tmps, defers := [] } W)
    (hbody : ∀ (l : Nat) (pre : List α) (x : α) (hb : Nat) (W : World), I pre W → Ax x hb W → pre.length < N → body.wpIn (F.inRound l) (n - 1 - 1) P (ownPostK Kp I Ix (pre ++ [x]) W) (a₁ x hb) W)
    (hdone : ∀ (D : Nat) (xs : List α) (W : World), w.heap.size ≤ D → S xs → I xs W → W.heap[D]? = some (.deferred (some [])) → Q .normal { a with defers := { target := .collected D, args := #[] } :: a.defers } W)
    (hstop : ∀ (D : Nat) (c : Code) (pre : List α) (W : World), w.heap.size ≤ D → Sp pre → Ix c pre W → W.heap[D]? = some (.deferred (some [])) → c.wpIn F n P Q { a with defers := { target := .collected D, args := #[] } :: a.defers } W) :
    (Code.rangeFunc g ps assign body).wpIn F n P Q a w :=
  rangeFunc_d hro h1 hg hFg eg hseq hTr hKt hKb hb0 hps I Ix hI hIT hIx h0 (fun x a' W => ∃ hb, a' = a₁ x hb ∧ Ax x hb W)
    (fun x a' _ X Y row h hg' hr => by
      obtain ⟨hb, e, hx⟩ := h
      exact ⟨hb, e, hAx x hb () X Y row hx hg' hr⟩) hKT
    (fun l x W K hK => hassign l x W K (fun hb W' hT hx => hK _ W' hT ⟨hb, rfl, hx⟩))
    (fun l pre x a' W hi ⟨hb, e, hx⟩ hl => by subst e; exact hbody l pre x hb W hi hx hl) hdone hstop

end Go.Proofs.YtcjfcomadcebnaaGreatDoor
