/- Plain words on worlds for the walks over package memo: which blocks a call may have turned, and how a map of one-field structs reads. No program is named. -/
import Derived.WalkKit
import Derived.WalkSpells
import Derived.WalkLawsBesides
import Derived.OneCell
import Derived.Maps.OwnSet
import Derived.Lib.Hide
namespace Go.Proofs.YtgkdemdpknljkaaDoor
open Go.RowKit Go.Maps

/-- w' is w but for the blocks in F and new ones. -/
structure Only (F : Nat → Prop) (w w' : World) : Prop where
  os : w'.os = w.os
  tape : w'.tape = w.tape
  output : w'.output = w.output
  size : w.heap.size ≤ w'.heap.size
  block : ∀ k, k < w.heap.size → ¬ F k → w'.heap[k]? = w.heap[k]?

theorem Only.refl (F : Nat → Prop) (w : World) : Only F w w := ⟨rfl, rfl, rfl, Nat.le_refl _, fun _ _ _ => rfl⟩
theorem Only.trans {F G H : Nat → Prop} {a b c : World} (h : Only F a b) (k : Only G b c) (hF : ∀ i, F i → H i) (hG : ∀ i, G i → H i ∨ a.heap.size ≤ i) : Only H a c :=
  ⟨k.os.trans h.os, k.tape.trans h.tape, k.output.trans h.output, Nat.le_trans h.size k.size, fun i hi hn =>
    (k.block i (Nat.lt_of_lt_of_le hi h.size) (fun g => by rcases hG i g with x | x; exact hn x; omega)).trans (h.block i hi (fun f => hn (hF i f)))⟩
theorem Only.mono {F G : Nat → Prop} {a b : World} (h : Only F a b) (hF : ∀ i, F i → G i ∨ a.heap.size ≤ i) : Only G a b :=
  ⟨h.os, h.tape, h.output, h.size, fun i hi hn => h.block i hi (fun f => by rcases hF i f with x | x; exact hn x; omega)⟩
theorem Only.of_grown {w w' : World} {row : Option Nat} (h : w.grownBy w' row) : Only (fun i => row = some i) w w' :=
  ⟨h.os, h.tape, h.output, h.size, fun k hk hn => h.block k hk (fun e => hn e.symm)⟩
theorem Only.of_alloc (w : World) (o : Obj) : Only (fun _ => False) w (w.alloc o) := ⟨rfl, rfl, rfl, by simp, fun k hk _ => Below.heap_alloc w o k hk⟩
theorem Only.of_setCell (w : World) (a : Addr) (u : Value) : Only (fun i => i = a.block) w (w.setCell a u) :=
  ⟨rfl, rfl, rfl, by simp [World.setCell], fun k _ hn => Below.heap_setCell _ _ _ _ hn⟩
theorem Only.of_drew (w : World) : Only (fun _ => False) w w.drew := ⟨rfl, rfl, rfl, Nat.le_refl _, fun _ _ _ => rfl⟩
theorem Only.of_drewN (w : World) (n : Nat) : Only (fun _ => False) w (w.drewN n) := by
  induction n with
  | zero => exact Only.refl _ _
  | succ n ih => exact Only.trans ih (Only.of_drew _) (fun _ h => h) (fun _ (h : False) => h.elim)
theorem Only.below {F : Nat → Prop} {w w' : World} (h : Only F w w') (hF : ∀ i, F i → w.heap.size ≤ i) : Below w.heap.size w w' :=
  ⟨h.os, h.tape, h.output, h.size, fun k hk => h.block k hk (fun f => by have := hF k f; omega)⟩

/-- How an element of a struct with one int field reads. -/
def heldE (v : Value) : Option (DataW Unit × List MemPlace) :=
  match v with
  | .agg cs => match cs.toList with
    | [.int .i64 a] => some (.lit (.int .i64 a), [])
    | _ => none
  | _ => none
theorem heldE_mk (a : Int) : heldE (.agg #[.int .i64 a]) = some (.lit (.int .i64 a), []) := rfl
theorem heldE_inv {v : Value} {z : DataW Unit × List MemPlace} (h : heldE v = some z) : ∃ a, v = .agg #[.int .i64 a] ∧ z = (.lit (.int .i64 a), []) := by
  unfold heldE at h
  split at h
  · rename_i cs
    split at h
    · rename_i a hc
      cases h
      refine ⟨a, ?_, rfl⟩
      have : cs = #[.int .i64 a] := by rw [← Array.toArray_toList (xs := cs), hc]
      rw [this]
    · cases h
  · cases h

abbrev Zd : DataW Unit := .lit (.int .i64 0)

/-- The block that a map's value leads to. -/
def mapBlock : Value → Option Nat
  | .map r => r
  | _ => none

/-- The value mv is a map with keys of type k that reads as the function f. -/
def IxI (P : Program) (k : TypeId) (w : World) (mv : Value) (n : Nat) (f : Lit → Option Int) : Prop :=
  (mv = .map none ∧ ∀ l, f l = none) ∨
  ∃ b D, mv = .map (some b) ∧ w.ownsMap P k heldE b n D ∧ ∀ l, WideAt.IsKeyLit l → Maps.has D l = (f l).isSome ∧ D.atKey l Zd = .lit (.int .i64 ((f l).getD 0))

/-- f with x at l. -/
def upd (f : Lit → Option Int) (l : Lit) (x : Int) : Lit → Option Int := fun m => if m.sameKey l then some x else f m

theorem IxI.only {P : Program} {k : TypeId} {w w' : World} {mv : Value} {n : Nat} {f : Lit → Option Int} {F : Nat → Prop} (h : IxI P k w mv n f) (ho : Only F w w') (hF : ∀ b, mapBlock mv = some b → ¬ F b) : IxI P k w' mv n f := by
  rcases h with h | ⟨b, D, rfl, hm, hr⟩
  · exact .inl h
  · have hlt := hm.lt
    obtain ⟨es, clock, hb, r⟩ := hm
    exact .inr ⟨b, D, rfl, ⟨es, clock, (ho.block b hlt (hF b rfl)).trans hb, r⟩, hr⟩

theorem IxI.lt {P : Program} {k : TypeId} {w : World} {mv : Value} {n : Nat} {f : Lit → Option Int} (h : IxI P k w mv n f) : ∀ b, mapBlock mv = some b → b < w.heap.size := by
  intro b hb
  rcases h with ⟨rfl, _⟩ | ⟨b', D, rfl, hm, _⟩
  · cases hb
  · cases hb; exact hm.lt

theorem IxI.put {P : Program} {k : TypeId} {w : World} {b n : Nat} {D : DataW Unit} {f : Lit → Option Int} {l : Lit} {x : Int} (hl : WideAt.IsKeyLit l) (hm : w.ownsMap P k heldE b (n + 1) (D.put l (.lit (.int .i64 x)))) (hD : IsMap D)
    (hr : ∀ l, WideAt.IsKeyLit l → Maps.has D l = (f l).isSome ∧ D.atKey l Zd = .lit (.int .i64 ((f l).getD 0))) : IxI P k w (.map (some b)) (n + 1) (upd f l x) := by
  refine .inr ⟨b, _, rfl, hm, fun m hmk => ?_⟩
  by_cases e : m = l
  · subst e
    simp only [upd, WideAt.sameKey_self hl, if_true]
    exact ⟨has_put_same hD hl _, atKey_put_same hD hl _ _⟩
  · simp only [upd, sameKey_ne e, Bool.false_eq_true, if_false]
    rw [has_put_other e, atKey_put_other e]
    exact hr m hmk
end Go.Proofs.YtgkdemdpknljkaaDoor
