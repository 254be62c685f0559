/- Events in memory; who tells of a part; Valid, by a contract. -/
import Derived.Test.YtciajjjigigidaaDoorEp
import Derived.Deep.RegionHeld3
import Derived.Laws.EntriesVeiled
namespace Go.Proofs.YtciajjjigigidaaDoor
open Go.RowKit Go.Maps Go.WideMaps Go.WideElems Go.ChangeShapes Go.WideShapes

/-- An event lies in a block. -/
structure EvAt (w : World) (B : Nat) (e : Ev) : Prop where
  c0 : w.cell? ⟨B, 0, none⟩ = some (.int .i64 e.kind)
  c1 : w.cell? ⟨B, 1, none⟩ = some (.int .i64 e.tx)
  c2 : w.cell? ⟨B, 2, none⟩ = some (.int .i64 e.thread)
  c3 : w.cell? ⟨B, 3, none⟩ = some (.int .i64 e.obj)
  c4 : w.cell? ⟨B, 4, none⟩ = some (.int .i64 e.op)
  c5 : w.cell? ⟨B, 5, none⟩ = some (.int .i64 e.key)
  c6 : w.cell? ⟨B, 6, none⟩ = some (.int .i64 e.val)
  c7 : w.cell? ⟨B, 7, none⟩ = some (.int .i64 e.ret)

theorem EvAt.at {w : World} {B : Nat} {e : Ev} (h : EvAt w B e) : ∀ i, i < 8 → w.cell? ⟨B, i, none⟩ = some (.int .i64 (e.at i)) := fun i hi => by
  rcases i with _ | _ | _ | _ | _ | _ | _ | _ | i
  · exact h.c0
  · exact h.c1
  · exact h.c2
  · exact h.c3
  · exact h.c4
  · exact h.c5
  · exact h.c6
  · exact h.c7
  · omega
theorem EvAt.lt {w : World} {B : Nat} {e : Ev} (h : EvAt w B e) : B < w.heap.size := World.block_lt_of_cell? w _ h.c0
theorem EvAt.below {w w' : World} {B C : Nat} {e : Ev} (h : EvAt w B e) (hb : Below C w w') (hC : B < C) : EvAt w' B e := by
  have k : ∀ i, w'.cell? ⟨B, i, none⟩ = w.cell? ⟨B, i, none⟩ := fun i => hb.cell (p := ⟨B, i, none⟩) hC
  exact ⟨(k 0).trans h.c0, (k 1).trans h.c1, (k 2).trans h.c2, (k 3).trans h.c3, (k 4).trans h.c4, (k 5).trans h.c5, (k 6).trans h.c6, (k 7).trans h.c7⟩
theorem EvAt.below' {w w' : World} {B : Nat} {e : Ev} (h : EvAt w B e) (hb : Below w.heap.size w w') : EvAt w' B e := h.below hb h.lt
theorem evAt_new (w : World) (e : Ev) : EvAt (w.alloc (.cells #[.int .i64 e.kind, .int .i64 e.tx, .int .i64 e.thread, .int .i64 e.obj, .int .i64 e.op, .int .i64 e.key, .int .i64 e.val, .int .i64 e.ret] 33)) w.heap.size e :=
  ⟨by rw [World.cell?_alloc_new]; rfl, by rw [World.cell?_alloc_new]; rfl, by rw [World.cell?_alloc_new]; rfl, by rw [World.cell?_alloc_new]; rfl, by rw [World.cell?_alloc_new]; rfl, by rw [World.cell?_alloc_new]; rfl, by rw [World.cell?_alloc_new]; rfl, by rw [World.cell?_alloc_new]; rfl⟩
theorem PartsAt.below {w w' : World} {P C : Nat} {ps : List (Nat × Nat)} (h : PartsAt w P ps) (hb : Below C w w') (hC : P < C) : PartsAt w' P ps := fun i hi => by
  have k : ∀ i, w'.cell? ⟨P, i, none⟩ = w.cell? ⟨P, i, none⟩ := fun i => hb.cell (p := ⟨P, i, none⟩) hC
  exact ⟨(k _).trans (h i hi).1, (k _).trans (h i hi).2⟩

theorem PartsAt.at_below {w w' : World} {P k : Nat} {ps : List (Nat × Nat)} (h : PartsAt w P ps) (hk : k < ps.length) (hb : Below w.heap.size w w') : w'.cell? ⟨P, k * 2, none⟩ = some (.int .i64 ((ps.getD k (0, 0)).1 : Int)) ∧ w'.cell? ⟨P, k * 2 + 1, none⟩ = some (.func (.func (54 + (ps.getD k (0, 0)).2)) #[] #[]) := by
  have := h.below hb (World.block_lt_of_cell? w _ (h k hk).1) k hk
  rw [Nat.mul_comm] at this
  exact this

/-- What a call leaves that makes memory alone. -/
def Makes (v : Value) (w : World) (e : Ending) (w' : World) : Prop := e = .returned v ∧ Below w.heap.size w w'

theorem always_any (e : Ev) (w : World) : Calls Tryd.prog 54 #[e.agg] w (Makes (.bool true) w) := by
  go_enter Tryd.func54, Tryd.ntmps54
  go_wp2
  go_ret
  exact ⟨rfl, (Below.refl _ _).alloc (Nat.le_refl _) _⟩
theorem ifKeyed_any (e : Ev) (w : World) : Calls Tryd.prog 55 #[e.agg] w (Makes (.bool (keyedZ e.op)) w) := by
  have h := fun w => keyed_any e.op w
  have H := Lib.hid h
  clear h
  go_enter Tryd.func55, Tryd.ntmps55
  go_wp2_with (go_at_call 11; refine (H.out _).mono ?_; rintro e w' ⟨rfl, rfl⟩)
  go_ret
  exact ⟨rfl, (Below.refl _ _).alloc (Nat.le_refl _) _⟩
theorem ifValued_any (e : Ev) (w : World) : Calls Tryd.prog 56 #[e.agg] w (Makes (.bool (valuedZ e.op)) w) := by
  have h := fun w => valued_any e.op w
  have H := Lib.hid h
  clear h
  go_enter Tryd.func56, Tryd.ntmps56
  go_wp2_with (go_at_call 13; refine (H.out _).mono ?_; rintro e w' ⟨rfl, rfl⟩)
  go_ret
  exact ⟨rfl, (Below.refl _ _).alloc (Nat.le_refl _) _⟩
theorem ifRVal_any (e : Ev) (w : World) : Calls Tryd.prog 57 #[e.agg] w (Makes (.bool (e.ret == 3)) w) := by
  go_enter Tryd.func57, Tryd.ntmps57
  go_wp2
  go_ret
  exact ⟨rfl, (Below.refl _ _).alloc (Nat.le_refl _) _⟩

/-- Who tells of a part may be called. -/
structure WhenIs (g : Nat) : Prop where
  eg : ∀ args w, (callFunc (54 + g) args).run Tryd.prog w = .ok (.enter (54 + g) args) w
  ct : ∀ e w, Calls Tryd.prog (54 + g) #[e.agg] w (Makes (.bool (whenB g e)) w)
theorem whenIs {g : Nat} (h : g < 4) : WhenIs g := by
  rcases g with _ | _ | _ | _ | g
  · exact ⟨enters_of Tryd.func54 (by kernel_rfl) rfl, always_any⟩
  · exact ⟨enters_of Tryd.func55 (by kernel_rfl) rfl, ifKeyed_any⟩
  · exact ⟨enters_of Tryd.func56 (by kernel_rfl) rfl, ifValued_any⟩
  · exact ⟨enters_of Tryd.func57 (by kernel_rfl) rfl, ifRVal_any⟩
  · omega

/-- Every part of a kind: the field is one, and so is who tells of it. -/
theorem partsL_lt (k : Int) : ∀ p ∈ partsL k, p.1 < 7 ∧ p.2 < 4 := by
  unfold partsL
  split
  · decide
  split
  · decide
  split
  · decide
  split
  · decide
  · simp

/-- in: where the field lies. -/
theorem in_any (f : Nat) (hf : f < 7) (B : Nat) (w : World) : Calls Tryd.prog 30 #[.int .i64 f, .pointer (some ⟨B, 0, none⟩)] w fun e w' => e = .returned (.pointer (some ⟨B, fcell f, none⟩)) ∧ w = w' := by
  rcases f with _ | _ | _ | _ | _ | _ | _ | f
  iterate 7
    · go_enter Tryd.func30, Tryd.ntmps30
      go_wp2
      go_ret
      exact ⟨rfl, rfl⟩
  · omega
theorem table_any (f : Nat) (hf : f < 7) (w : World) : Calls Tryd.prog 45 #[.int .i64 f] w fun e w' => e = .returned (.int .i64 (ftable f : Nat)) ∧ w = w' := by
  rcases f with _ | _ | _ | _ | _ | _ | _ | f
  iterate 7
    · go_enter Tryd.func45, Tryd.ntmps45
      go_wp2
      go_ret
      exact ⟨rfl, rfl⟩
  · omega
theorem none_any (f : Nat) (hf : f < 7) (n : Int) (w : World) (hW : WordsAt w) : Calls Tryd.prog 29 #[.int .i64 f, .int .i64 n] w fun e w' => e = .returned (.bool (fnone f n)) ∧ w = w' := by
  have ht := Lib.hid (table_any f hf w)
  have hw := Lib.hid (word_any (ftable f : Nat) n w hW)
  obtain ⟨R, hR⟩ : ∃ R, R = fnone f n := ⟨_, rfl⟩
  rw [← hR]
  unfold fnone at hR
  generalize ftable f = t at *
  generalize wordL (t : Int) n = x at *
  have HR := Lib.hid hR
  clear hR hW
  by_cases h0 : t = 0
  · have h1 : ((t : Int) != 0) = false := by simp; omega
    have HR' : Hid (R = false) := by show _ = _; rw [HR.out, h0]; rfl
    clear h0
    go_enter Tryd.func29, Tryd.ntmps29
    go_wp2_with (first | (go_at_call 45; refine ht.out.mono ?_; rintro e w' ⟨rfl, rfl⟩) | (go_at_call 17; refine hw.out.mono ?_; rintro e w' ⟨rfl, rfl⟩))
    go_ret
    exact ⟨by rw [HR'.out]; rfl, rfl⟩
  · have h1 : ((t : Int) != 0) = true := by simp; omega
    have h2 : (t != 0) = true := by simpa using h0
    by_cases hx : x = []
    · have h3 : x.isEmpty = true := by simpa using hx
      have HR' : Hid (R = true) := by show _ = _; rw [HR.out, h2, hx]; rfl
      clear h0 hx h2
      go_enter Tryd.func29, Tryd.ntmps29
      go_wp2_with (first | (go_at_call 45; refine ht.out.mono ?_; rintro e w' ⟨rfl, rfl⟩) | (go_at_call 17; refine hw.out.mono ?_; rintro e w' ⟨rfl, rfl⟩))
      go_ret
      exact ⟨by rw [HR'.out]; rfl, rfl⟩
    · have h3 : x.isEmpty = false := by simpa using hx
      have HR' : Hid (R = false) := by show _ = _; rw [HR.out, h2]; simpa using hx
      clear h0 hx h2
      go_enter Tryd.func29, Tryd.ntmps29
      go_wp2_with (first | (go_at_call 45; refine ht.out.mono ?_; rintro e w' ⟨rfl, rfl⟩) | (go_at_call 17; refine hw.out.mono ?_; rintro e w' ⟨rfl, rfl⟩))
      go_ret
      exact ⟨by rw [HR'.out]; rfl, rfl⟩
theorem inside_any (f : Nat) (hf : f < 7) (n : Int) (w : World) (hW : BoundsAt w) : Calls Tryd.prog 46 #[.int .i64 f, .int .i64 n] w fun e w' => e = .returned (.bool (finside f n)) ∧ w = w' := by
  have c0 : w.cell? ⟨8, f * 2, none⟩ = some (.int .i64 (bndL.getD (2 * f) 0)) := by rw [Nat.mul_comm]; exact hW (2 * f) (by omega)
  have c1 : w.cell? ⟨8, f * 2 + 1, none⟩ = some (.int .i64 (bndL.getD (2 * f + 1) 0)) := by rw [Nat.mul_comm]; exact hW (2 * f + 1) (by omega)
  obtain ⟨R, hR⟩ : ∃ R, R = finside f n := ⟨_, rfl⟩
  rw [← hR]
  unfold finside at hR
  generalize bndL.getD (2 * f) 0 = a at *
  generalize bndL.getD (2 * f + 1) 0 = b at *
  have HR := Lib.hid hR
  clear hR hW
  by_cases h1 : a ≤ n
  · by_cases h2 : n ≤ b
    · have HR' : Hid (R = true) := by show _ = _; rw [HR.out]; simp [h1, h2]
      go_enter Tryd.func46, Tryd.ntmps46
      go_wp2
      go_ret
      exact ⟨by rw [HR'.out]; simp [h1, h2], rfl⟩
    · have HR' : Hid (R = false) := by show _ = _; rw [HR.out]; simp [h2]
      go_enter Tryd.func46, Tryd.ntmps46
      go_wp2
      go_ret
      exact ⟨by rw [HR'.out]; simp [h2], rfl⟩
  · have HR' : Hid (R = false) := by show _ = _; rw [HR.out]; simp [h1]
    go_enter Tryd.func46, Tryd.ntmps46
    go_wp2
    go_ret
    exact ⟨by rw [HR'.out]; simp [h1], rfl⟩
end Go.Proofs.YtciajjjigigidaaDoor
