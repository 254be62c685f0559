/- A loop over an iterator whose variable is a box made anew each round, and whose items are known by what the iterator has made: a law. -/
import Derived.Test.YtfjjhjojcgacbaaDoorM9
import Derived.RangeFuncNested
import Derived.RangeFuncBound
import Derived.RangeFuncCalls
import Derived.RangeFuncLeaves
import Derived.RangeFuncFrom
import Derived.RangeFuncBox
import Derived.OwnWalkIn
import Derived.TacticsInMore
import Derived.LoopNIn
import Derived.LoopIn
namespace Go.Proofs.YtfjjhjojcgacbaaDoor
open Go.RowKit

theorem own_of_below {β : Type} {n B : Nat} (hB : n ≤ B) {I : β → World → Prop} (hsz : ∀ x W, I x W → n ≤ W.heap.size) (h : ∀ x W W', I x W → Below n W W' → I x W') : OwnFrom B I :=
  fun x W W' _ hs hg hr => h x W W' hs ((Below.refl n W).grown hg (hsz x W hs) (fun k e => Nat.le_trans hB (hr k e).1))
theorem keeps_below {W W' : World} (h : Below W.heap.size W W') : KeepsOthers W W' := ⟨h.size, fun k _ hk _ => (h.block k (Array.getElem?_eq_some_iff.1 hk).1).trans hk⟩

/-- What an iterator hands to a loop; between two rounds it may turn the world by Tr; Ok says of an item what the iterator has made. -/
def SeqE {α : Type} (F : Fence) (n : Nat) (P : Program) (g : Nat) (lb : Array Value) (encs : α → Array Value) (Kp Tr : World → World → Prop) (Ok : List α → α → World → Prop) (S Sp : List α → Prop) (N : Nat) (w : World) : Prop :=
  ∀ (l : Nat) (J Jx : List α → World → Prop) (W : World), Below w.heap.size w W → (∀ s A B, J s A → Tr A B → J s B) →
    (∀ pre x W1, J pre W1 → Ok pre x W1 → pre.length < N → YieldAt F (n - 1) P l (encs x) W1 fun e W' => (e = .returned (.bool true) ∧ J (pre ++ [x]) W' ∧ Kp W1 W') ∨ (e = .returned (.bool false) ∧ Jx (pre ++ [x]) W')) →
    J [] W → CallsIn F n P g (#[.func (.yield l) #[] #[]] ++ lb) W fun e W' => (∃ v, e = .returned v) ∧ ((∃ xs, S xs ∧ J xs W') ∨ (∃ pre, Sp pre ∧ Jx pre W'))

section
variable {F : Fence} {n : Nat} {P : Program}

/-- The record of a loop lies, and the block of its deferred calls. -/
structure RecAt (b : Nat) (r : Loop) (W : World) : Prop where
  loop : W.heap[b + 1]? = some (.loop r)
  defs : W.heap[b]? = some (.deferred (some []))
theorem RecAt.keeps {b : Nat} {r : Loop} {W W' : World} (h : RecAt b r W) (k : KeepsOthers W W') : RecAt b r W' := ⟨k.same _ _ h.loop rfl, k.same _ _ h.defs rfl⟩
theorem RecAt.put {b : Nat} {r r' : Loop} {W : World} (h : RecAt b r W) : RecAt b r' (W.putObj (b + 1) (.loop r')) :=
  ⟨World.putObj_heap_same (Array.getElem?_eq_some_iff.1 h.loop).1, (World.putObj_heap_other (by omega)).trans h.defs⟩

/-- A loop over such an iterator. -/
theorem rangeFunc_e {α : Type} {g : Operand} {ps : Array Tmp} {assign body : Code} {Q : Exit → Act → World → Prop} {a : Act} {w : World} (hro : F.round = none) (h1 : 1 ≤ n) {gf : Nat} {lb : Array Value} (hg : a.eval g = .func (.func gf) #[] lb) (hFg : F.fn gf)
    (eg : ∀ args w, (callFunc gf args).run P w = .ok (.enter gf args) w) {encs : α → Array Value} {Kp Tr : World → World → Prop} {Ok : List α → α → World → Prop} {S Sp : List α → Prop} {N : Nat} {w0 : World} (hseq : SeqE F (n - 1) P gf lb encs Kp Tr Ok S Sp N w0)
    (hTr : ∀ A B, Tr A B → KeepsOthers A B) (hKt : ∀ {A B C : World}, Kp A B → Kp B C → Kp A C) (hKb : ∀ (W : World) (r : Loop) (o : Obj), W.heap[w.heap.size + 1]? = some (.loop r) → Kp W (W.putObj (w.heap.size + 1) o)) (hb0 : Below w0.heap.size w0 w) (hps : ∀ x, (encs x).size = ps.size)
    (I : List α → World → Prop) (Ix : Code → List α → World → Prop) (hI : OwnFrom w.heap.size I) (hIT : ∀ s A B, I s A → Tr A B → I s B) (hIx : ∀ c, OwnFrom w.heap.size (Ix c)) (h0 : I [] w) (Ax : List α → α → Act → World → Prop) (hAx : ∀ pre x a', OwnFrom w.heap.size (fun (_ : Unit) W => Ax pre x a' W)) (hKT : ∀ s A B, I s A → Tr A B → Kp A B)
    (hassign : ∀ (l : Nat) (pre : List α) (x : α) (W : World) (K : Act → World → Prop), Ok pre x W → (∀ a' W', Tr W W' → Ax pre x a' W' → K a' W') → assign.wpIn (F.inRound l) (n - 1 - 1) P (Exit.then K (fun _ _ _ => False)) { tmps := (ps.zip (encs x)).foldl (fun t (p, v) => t.setIfInBounds p v) a.tmps, defers := [] } W)
    (hbody : ∀ (l : Nat) (pre : List α) (x : α) (a' : Act) (W : World), I pre W → Ax pre x a' W → pre.length < N → body.wpIn (F.inRound l) (n - 1 - 1) P (ownPostK Kp I Ix (pre ++ [x]) W) a' W)
    (hdone : ∀ (D : Nat) (xs : List α) (W : World), w.heap.size ≤ D → S xs → I xs W → W.heap[D]? = some (.deferred (some [])) → Q .normal { a with defers := { target := .collected D, args := #[] } :: a.defers } W)
    (hstop : ∀ (D : Nat) (c : Code) (pre : List α) (W : World), w.heap.size ≤ D → Sp pre → Ix c pre W → W.heap[D]? = some (.deferred (some [])) → c.wpIn F n P Q { a with defers := { target := .collected D, args := #[] } :: a.defers } W) :
    (Code.rangeFunc g ps assign body).wpIn F n P Q a w := by
  refine wpIn_rangeFunc fun fn hfn => ?_
  rw [hro]
  obtain ⟨rc, hrc⟩ : ∃ rc : LoopState → Option Code → Loop, rc = fun st pe => { state := st, pending := pe, fn, tmps := a.tmps, params := ps, assign, body, defers := w.heap.size } := ⟨_, rfl⟩
  have hbz : w.heap.size < (w.alloc (.deferred (some []))).heap.size := by simp
  obtain ⟨V, hV⟩ : ∃ V, (w.alloc (.deferred (some []))).alloc (.loop (rc .ready none)) = V := ⟨_, rfl⟩
  have hR0 : RecAt w.heap.size (rc .ready none) V := by
    subst hV
    refine ⟨?_, (Below.heap_alloc _ _ _ hbz).trans (World.alloc_heap_new w _)⟩
    have h := World.alloc_heap_new (w.alloc (.deferred (some []))) (.loop (rc .ready none))
    rwa [World.size_alloc] at h
  have hIV : I [] V := by subst hV; exact hI.alloc _ (hI.alloc _ h0)
  have hbV : Below w0.heap.size w0 V := by subst hV; exact hb0.trans ((((Below.refl _ w).alloc (Nat.le_refl _) _).alloc (Nat.le_of_lt hbz) _).mono hb0.size)
  -- The record is turned: what the caller holds, holds.
  have turn : ∀ {s W r} (r' : Loop), I s W → RecAt w.heap.size r W → I s (W.putObj (w.heap.size + 1) (.loop r')) := fun r' hi hr => hI.putObj _ hi (Nat.le_succ _) hr.loop rfl
  have turnx : ∀ {c s W r} (r' : Loop), Ix c s W → RecAt w.heap.size r W → Ix c s (W.putObj (w.heap.size + 1) (.loop r')) := fun r' hi hr => (hIx _).putObj _ hi (Nat.le_succ _) hr.loop rfl
  refine ⟨w.heap.size + 1, [{ target := .collected w.heap.size, args := #[] }], V, { target := .fn (.func gf) lb, args := #[.func (.yield (w.heap.size + 1)) #[] #[]] }, V, gf, #[.func (.yield (w.heap.size + 1)) #[] #[]] ++ lb, V, ?_, ?_, ?_, ?_, fun _ => h1, ?_⟩
  · subst hV; rw [hrc]; exact run_enterLoop_outer _ _ _ _ _
  · simp only [resolve, hg]
    simp [go_sem]
  · intro f' hf'
    simp [Target.leads] at hf'
    subst hf'
    exact hFg
  · simp [invoke, go_sem, eg]
  refine (hseq (w.heap.size + 1) (fun pre W => I pre W ∧ RecAt w.heap.size (rc .ready none) W) (fun pre W => ∃ c, Ix c pre W ∧ RecAt w.heap.size (rc .done (some c)) W) V hbV (fun s A B h ht => ⟨hIT s A B h.1 ht, h.2.keeps (hTr A B ht)⟩) ?_ ⟨hIV, hR0⟩).mono ?_
  · rintro pre x W ⟨hi, hr⟩ hok hlen
    have hy := run_yield (P := P) (args := encs x) hr.loop (by rw [hrc]; exact hps x)
    rw [hrc] at hy
    refine ⟨fn, _, assign, body, hy, roundIn_of_wpIn hfn (hassign _ pre x W _ hok (fun a' V' hT hax => ?_))⟩
    have hkT := hKT _ _ _ hi hT
    have hoT := hTr _ _ hT
    have hi' := hIT _ _ _ hi hT
    have hr' : RecAt w.heap.size (rc .ready none) V' := hr.keeps hoT
    clear hi hr hy
    refine ⟨_, run_beginRound hr'.loop (by rw [hrc]), ?_⟩
    obtain ⟨bz, hbz'⟩ : ∃ bz, bz = { rc .ready none with state := .busy } := ⟨_, rfl⟩
    rw [← hbz']
    have hr2 : RecAt w.heap.size bz (V'.putObj (w.heap.size + 1) (.loop bz)) := hr'.put
    have hax2 : Ax pre x a' (V'.putObj (w.heap.size + 1) (.loop bz)) := (hAx pre x a').putObj (s := ()) _ hax (Nat.le_succ _) hr'.loop rfl
    have hk2 := hKt hkT (hKb V' _ (.loop bz) hr'.loop)
    refine wpIn_mono (hbody _ pre x _ _ (turn bz hi' hr') hax2 hlen) ?_
    have out : ∀ (jump : Option Code) (W3 : World), KeepsOthers (V'.putObj (w.heap.size + 1) (.loop bz)) W3 → RecAt w.heap.size bz W3 ∧ (Instr.endRound (w.heap.size + 1) jump).run P W3 = .ok (.bool jump.isNone) (W3.putObj (w.heap.size + 1) (.loop (rc (if jump.isNone then .ready else .done) jump))) := fun jump W3 k => by
      have h3 := hr2.keeps k
      refine ⟨h3, ?_⟩
      have h := run_endRound (P := P) jump h3.loop
      rw [hbz', hrc] at h
      rw [hrc]
      exact h
    rintro e a3 W3 hp
    cases e with
    | normal =>
      obtain ⟨k, hkp, hi3⟩ := hp
      obtain ⟨h3, hrun⟩ := out none W3 k
      exact ⟨_, _, hrun, .inl ⟨rfl, ⟨turn _ hi3 h3, h3.put⟩, hKt (hKt hk2 hkp) (hKb _ _ _ h3.loop)⟩⟩
    | ret =>
      obtain ⟨k, hi3⟩ := hp
      obtain ⟨h3, hrun⟩ := out (some .ret) W3 k
      exact ⟨_, _, hrun, .inr ⟨rfl, .ret, turnx _ hi3 h3, h3.put⟩⟩
    | exit id =>
      obtain ⟨k, hi3⟩ := hp
      obtain ⟨h3, hrun⟩ := out (some (.exit id)) W3 k
      exact ⟨_, _, hrun, .inr ⟨rfl, .exit id, turnx _ hi3 h3, h3.put⟩⟩
    | goto t =>
      obtain ⟨k, hi3⟩ := hp
      obtain ⟨h3, hrun⟩ := out (some (.goto t)) W3 k
      exact ⟨_, _, hrun, .inr ⟨rfl, .goto t, turnx _ hi3 h3, h3.put⟩⟩
    | panic ch => exact hp.elim
    | outgrown => exact hp.elim
  · rintro e W2 ⟨⟨v, rfl⟩, (⟨xs, hS, hi, hr⟩ | ⟨pre, hSp, c, hi, hr⟩)⟩
    · have h : (Instr.endLoop (w.heap.size + 1)).run P W2 = .ok none (W2.putObj (w.heap.size + 1) (.loop (rc .exhausted none))) := by
        have h := run_endLoop (P := P) hr.loop (by rw [hrc]; simp)
        rw [hrc] at h; rw [hrc]; exact h
      exact ⟨none, _, h, hdone _ xs _ (Nat.le_refl _) hS (turn _ hi hr) ((World.putObj_heap_other (by omega)).trans hr.defs)⟩
    · have h : (Instr.endLoop (w.heap.size + 1)).run P W2 = .ok (some c) (W2.putObj (w.heap.size + 1) (.loop (rc .exhausted (some c)))) := by
        have h := run_endLoop (P := P) hr.loop (by rw [hrc]; simp)
        rw [hrc] at h; rw [hrc]; exact h
      exact ⟨some c, _, h, hstop _ c pre _ (Nat.le_refl _) hSp (turnx _ hi hr) ((World.putObj_heap_other (by omega)).trans hr.defs)⟩
/-- The same, the frame behind the assignment told by the box that was made. -/
theorem rangeFunc_f {α : Type} {g : Operand} {ps : Array Tmp} {assign body : Code} {Q : Exit → Act → World → Prop} {a : Act} {w : World} (hro : F.round = none) (h1 : 1 ≤ n) {gf : Nat} {lb : Array Value} (hg : a.eval g = .func (.func gf) #[] lb) (hFg : F.fn gf)
    (eg : ∀ args w, (callFunc gf args).run P w = .ok (.enter gf args) w) {encs : α → Array Value} {Kp Tr : World → World → Prop} {Ok : List α → α → World → Prop} {S Sp : List α → Prop} {N : Nat} {w0 : World} (hseq : SeqE F (n - 1) P gf lb encs Kp Tr Ok S Sp N w0)
    (hTr : ∀ A B, Tr A B → KeepsOthers A B) (hKt : ∀ {A B C : World}, Kp A B → Kp B C → Kp A C) (hKb : ∀ (W : World) (r : Loop) (o : Obj), W.heap[w.heap.size + 1]? = some (.loop r) → Kp W (W.putObj (w.heap.size + 1) o)) (hb0 : Below w0.heap.size w0 w) (hps : ∀ x, (encs x).size = ps.size)
    (I : List α → World → Prop) (Ix : Code → List α → World → Prop) (hI : OwnFrom w.heap.size I) (hIT : ∀ s A B, I s A → Tr A B → I s B) (hIx : ∀ c, OwnFrom w.heap.size (Ix c)) (h0 : I [] w) (Bx : List α → α → Nat → World → Prop) (hBx : ∀ pre x b, OwnFrom w.heap.size (fun (_ : Unit) W => Bx pre x b W)) (hKT : ∀ s A B, I s A → Tr A B → Kp A B)
    (FR : List α → α → Nat → Act)
    (hassign : ∀ (l : Nat) (pre : List α) (x : α) (W : World) (K : Act → World → Prop), Ok pre x W → (∀ b W', Tr W W' → Bx pre x b W' → K (FR pre x b) W') → assign.wpIn (F.inRound l) (n - 1 - 1) P (Exit.then K (fun _ _ _ => False)) { tmps := (ps.zip (encs x)).foldl (fun t (p, v) => t.setIfInBounds p v) a.tmps, defers := [] } W)
    (hbody : ∀ (l : Nat) (pre : List α) (x : α) (b : Nat) (W : World), I pre W → Bx pre x b W → pre.length < N → body.wpIn (F.inRound l) (n - 1 - 1) P (ownPostK Kp I Ix (pre ++ [x]) W) (FR pre x b) W)
    (hdone : ∀ (D : Nat) (xs : List α) (W : World), w.heap.size ≤ D → S xs → I xs W → W.heap[D]? = some (.deferred (some [])) → Q .normal { a with defers := { target := .collected D, args := #[] } :: a.defers } W)
    (hstop : ∀ (D : Nat) (c : Code) (pre : List α) (W : World), w.heap.size ≤ D → Sp pre → Ix c pre W → W.heap[D]? = some (.deferred (some [])) → c.wpIn F n P Q { a with defers := { target := .collected D, args := #[] } :: a.defers } W) :
    (Code.rangeFunc g ps assign body).wpIn F n P Q a w :=
  rangeFunc_e hro h1 hg hFg eg hseq hTr hKt hKb hb0 hps I Ix hI hIT hIx h0 (fun pre x a' W => ∃ b, a' = FR pre x b ∧ Bx pre x b W)
    (fun pre x a' s W W' row ⟨b, he, hb⟩ hg hr => ⟨b, he, hBx pre x b s W W' row hb hg hr⟩) hKT
    (fun l pre x W K hok hK => hassign l pre x W K hok fun b W' hT hb => hK _ W' hT ⟨b, rfl, hb⟩)
    (fun l pre x a' W hi ⟨b, he, hb⟩ hlt => by subst he; exact hbody l pre x b W hi hb hlt) hdone hstop
end
end Go.Proofs.YtfjjhjojcgacbaaDoor
