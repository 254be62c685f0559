/- The calls of a queue of numbers: Len, Put, Take, by contracts. -/
import Derived.Test.YtgkdemdpknljkaaDoorAdds
import Derived.Lib.SliceRun
import Derived.Laws.CopyOwn
namespace Go.Proofs.YtgkdemdpknljkaaDoor
open Go.RowKit Go.Maps Go.WideMaps Go.WideElems Go.ChangeShapes Go.WideShapes

theorem Tryd.under22 : Tryd.prog.underlying 22 = some (.slice 3) := by kernel_rfl
theorem Tryd.info3 : (Tryd.prog.info? 3).map (fun i => (i.zero, i.size, i.bytes)) = some (some (.int .i64 0), 1, 8) := by kernel_rfl

abbrev I (l : List Int) : List Value := l.map (Value.int .i64)

/-- A queue in the block qb: its slice, how many are taken, all that lie in the slice. -/
structure QuI (B : Nat) (w : World) (qb : Nat) (v : Value) (k : Nat) (xs : List Int) : Prop where
  cells : w.heap[qb]? = some (.cells #[v, .int .i64 k] 42 (0, 0))
  row : w.ownsRow B 3 1 v xs.length (I xs)
  le : k ≤ xs.length
  base : B ≤ qb

def qfoot (qb : Nat) (v : Value) : Nat → Prop := fun i => i = qb ∨ v.ownBlock = some i

theorem QuI.only {B : Nat} {w w' : World} {qb : Nat} {v : Value} {k : Nat} {xs : List Int} {F : Nat → Prop} (h : QuI B w qb v k xs) (ho : Only F w w') (hF : ∀ i, qfoot qb v i → ¬ F i) : QuI B w' qb v k xs :=
  ⟨by rw [ho.block qb (lt_of_block h.cells) (hF qb (.inl rfl))]; exact h.cells, ownsRow_only h.row ho (fun b hb => hF b (.inr hb)), h.le, h.base⟩

theorem QuI.lt {B : Nat} {w : World} {qb : Nat} {v : Value} {k : Nat} {xs : List Int} (h : QuI B w qb v k xs) : ∀ i, qfoot qb v i → B ≤ i ∧ i < w.heap.size := by
  rintro i (rfl | hi)
  · exact ⟨h.base, lt_of_block h.cells⟩
  · exact h.row.lt i hi

theorem QuI.apart {B : Nat} {w : World} {qb : Nat} {v : Value} {k : Nat} {xs : List Int} (h : QuI B w qb v k xs) : v.ownBlock ≠ some qb := by
  intro hb
  rcases h.row.2 with ⟨e1, _⟩ | ⟨g, cap, cur, e1, _, hgg, _⟩
  · rw [e1] at hb; cases hb
  · rw [e1] at hb; cases hb
    have := h.cells
    rw [hgg] at this
    simp at this

theorem QuI.cell0 {B : Nat} {w : World} {qb : Nat} {v : Value} {k : Nat} {xs : List Int} (h : QuI B w qb v k xs) : w.cell? ⟨qb, 0, none⟩ = some v := by simp [World.cell?, h.cells]
theorem QuI.cell1 {B : Nat} {w : World} {qb : Nat} {v : Value} {k : Nat} {xs : List Int} (h : QuI B w qb v k xs) : w.cell? ⟨qb, 1, none⟩ = some (.int .i64 k) := by simp [World.cell?, h.cells]
theorem QuI.free {B : Nat} {w : World} {qb : Nat} {v : Value} {k : Nat} {xs : List Int} (h : QuI B w qb v k xs) (o : Nat) : w.frozen? ⟨qb, o, none⟩ = false := by simp [World.frozen?, h.cells]

set_option maxHeartbeats 400000 in
theorem qus_len (B qb : Nat) (v : Value) (k : Nat) (xs : List Int) (w : World) (h : QuI B w qb v k xs) (hsm : xs.length < 1000000) :
    Calls Tryd.prog 20 #[.pointer (some ⟨qb, 0, none⟩)] w fun e w' => e = .returned (.int .i64 ((xs.length : Int) - k)) ∧ ∃ n, w.drewN n = w' := by
  obtain ⟨a, c, rfl⟩ := ownsRow_shape h.row
  have h0 := h.cell0
  have h1 := h.cell1
  have hr := h.le
  clear h
  go_enter Tryd.func20, Tryd.ntmps20
  go_wp2
  go_quiet (fail)
  go_wp2
  go_ret
  exact ⟨rfl, _, rfl⟩

/-- What a call on a queue leaves. -/
structure QuPost (B : Nat) (w : World) (qb : Nat) (v : Value) (w' : World) (v' : Value) (k' : Nat) (xs' : List Int) : Prop where
  q : QuI B w' qb v' k' xs'
  only : Only (qfoot qb v) w w'
  from' : ∀ i, qfoot qb v' i → qfoot qb v i ∨ w.heap.size ≤ i

set_option maxHeartbeats 800000 in
theorem qus_put (B qb : Nat) (v : Value) (k : Nat) (xs : List Int) (x : Int) (w : World) (h : QuI B w qb v k xs) (hsm : xs.length < 1000000) (hB : B ≤ w.heap.size) :
    Calls Tryd.prog 17 #[.pointer (some ⟨qb, 0, none⟩), .int .i64 x] w fun e w' => e = .returned (.tuple #[]) ∧ ∃ v', QuPost B w qb v w' v' k (xs ++ [x]) := by
  have hap := h.apart
  have hrow := h.row
  have hlt := lt_of_block h.cells
  obtain ⟨a0, cp, rfl⟩ := ownsRow_shape hrow
  have c1 := h.cell0
  obtain ⟨i0, hi, hz0, hz1, hz2⟩ := info_parts Tryd.info3
  have Hh := Lib.hid h
  have Hap := Lib.hid hap
  have Hlt := Lib.hid hlt
  clear h hap
  go_enter Tryd.func17, Tryd.ntmps17
  go_wp2_with (first | (at_builtin; refine wpList_append_own_at _ rfl _ _ 22 rfl B 3 i0 (.int .i64 0) 1 8 Tryd.under22 hi hz0 hz1 hz2 rfl (by decide) _ _ _ rfl (hrow.alloc _) ⟨w.heap.size, 0, none⟩ 1 1 [.int .i64 x] rfl rfl (cell_one_new _ _ _) ?c2 ?c3 ?c4 ?c5 ?_))
  case c2 => intro u hu; simp at hu; subst hu; rfl
  case c3 => unfold maxLen; omega
  case c4 => omega
  case c5 => simp; omega
  intro v' w4 hown4 hgrow4 _ hloc
  have o4 : Only (fun i => (Value.slice a0 xs.length cp).ownBlock = some i) w w4 := (Only.of_alloc w _).trans (Only.of_grown hgrow4) (fun _ (h : False) => h.elim) (fun _ h => .inl h)
  have c4 : w4.heap[qb]? = some (.cells #[.slice a0 xs.length cp, .int .i64 k] 42 (0, 0)) := by rw [o4.block qb hlt (fun e => Hap.out e)]; exact Hh.out.cells
  have hpost : QuPost B w qb (.slice a0 xs.length cp) (w4.setCell ⟨qb, 0, none⟩ v') v' k (xs ++ [x]) := by
    have o5 := Only.of_setCell w4 ⟨qb, 0, none⟩ v'
    have hrsb : ∀ b, v'.ownBlock = some b → b ≠ qb := by
      rintro b hb rfl
      rcases hown4.2 with ⟨e1, _⟩ | ⟨g, cap, cur, e1, _, hgg, _⟩
      · rw [e1] at hb; cases hb
      · rw [e1] at hb; cases hb
        rw [c4] at hgg
        simp at hgg
    refine ⟨⟨heap_setCell_cells c4 v', ?_, by have := Hh.out.le; simp; omega, Hh.out.base⟩, ?_, ?_⟩
    · simp only [List.length_append, I, List.map_append]
      exact ownsRow_only hown4 o5 (fun b hb e => hrsb b hb e)
    · exact o4.trans o5 (fun _ h => .inr h) (fun _ h => .inl (.inl h))
    · rintro i (h | h)
      · exact .inl (.inl h)
      · rcases hloc with h' | h'
        · exact .inl (.inr (h' ▸ h))
        · rw [h'] at h; cases h; exact .inr (by simp)
  have Hpost := Lib.hid hpost
  have c40 : w4.cell? ⟨qb, 0, none⟩ = some (.slice a0 xs.length cp) := by simp [World.cell?, c4]
  have f40 : w4.frozen? ⟨qb, 0, none⟩ = false := by simp [World.frozen?, c4]
  obtain ⟨a4, cp4, rfl⟩ := ownsRow_shape hown4
  clear hown4 hgrow4 hloc hpost hrow c1 o4 c4
  go_wp2
  go_end0
  exact ⟨rfl, _, Hpost.out⟩
end Go.Proofs.YtgkdemdpknljkaaDoor
