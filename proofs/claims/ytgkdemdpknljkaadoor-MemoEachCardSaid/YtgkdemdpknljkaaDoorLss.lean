/- The walk of the statement on sets. -/
import Derived.Test.YtgkdemdpknljkaaDoorPlc
import Derived.Test.YtgkdemdpknljkaaDoorFst
namespace Go.Proofs.YtgkdemdpknljkaaDoor
open Go.RowKit Go.Maps Go.WideMaps Go.WideElems Go.ChangeShapes Go.WideShapes

/-- What holds at the head of each round: the set and the list beside it have the same elements. -/
def SRel (w0 : World) (sb : Nat) (M : Int) (j : Nat) (lv : Value) (zs : List Int) (wr : World) : Prop :=
  ∃ v mv, SetI 3 76 w0.heap.size wr sb v mv M (L zs) (I zs) ∧ wr.ownsRow w0.heap.size 3 1 lv zs.length (I zs) ∧ (∀ b, lv.ownBlock = some b → ¬ foot sb v mv b) ∧ Only (fun _ => False) w0 wr ∧ zs.length ≤ j

theorem SRel.only {w0 wr wr' : World} {sb j : Nat} {M : Int} {lv : Value} {zs : List Int} (h : SRel w0 sb M j lv zs wr) (ho : Only (fun _ => False) wr wr') : SRel w0 sb M j lv zs wr' := by
  obtain ⟨v, mv, h1, h2, h3, h4, h5⟩ := h
  exact ⟨v, mv, h1.only ho (fun _ _ h => h), ownsRow_only h2 ho (fun _ _ h => h), h3, h4.trans ho (fun _ h => h) (fun _ h => .inl h), h5⟩
theorem SRel.mono {w0 wr : World} {sb i j : Nat} {M : Int} {lv : Value} {zs : List Int} (h : SRel w0 sb M i lv zs wr) (hij : i ≤ j) : SRel w0 sb M j lv zs wr := by
  obtain ⟨v, mv, h1, h2, h3, h4, h5⟩ := h
  exact ⟨v, mv, h1, h2, h3, h4, Nat.le_trans h5 hij⟩

/-- Whatever call turns the set alone, as Add does, keeps the list beside it. -/
theorem SRel.add {w0 wr w1 w2 : World} {sb j : Nat} {M : Int} {lv lv' v mv v' mv' : Value} {zs : List Int} {x : Int} {o : Obj} (h1 : SetI 3 76 w0.heap.size wr sb v mv M (L zs) (I zs)) (h2 : wr.ownsRow w0.heap.size 3 1 lv zs.length (I zs)) (h3 : ∀ b, lv.ownBlock = some b → ¬ foot sb v mv b) (h4 : Only (fun _ => False) w0 wr) (h5 : zs.length ≤ j)
    (hp : AddPost 3 76 w0.heap.size wr sb v mv M (L zs ++ [.int .i64 x]) (I zs ++ [.int .i64 x]) w1 v' mv') (hown : w2.ownsRow w0.heap.size 3 1 lv' (zs.length + 1) (I zs ++ [.int .i64 x])) (hg : (w1.alloc o).grownBy w2 lv.ownBlock) (hloc : lv'.ownBlock = lv.ownBlock ∨ lv'.ownBlock = some (w1.heap.size + 1)) :
    SRel w0 sb M (j + 1) lv' (zs ++ [x]) w2 := by
  have o2 : Only (fun i => lv.ownBlock = some i) w1 w2 := (Only.of_alloc w1 o).trans (Only.of_grown hg) (fun _ (h : False) => h.elim) (fun _ h => .inl h)
  have hs := hp.only.size
  have hdis : ∀ b, lv.ownBlock = some b → ¬ foot sb v' mv' b := by
    intro b hb hf
    rcases hp.from' b hf with h | h
    · exact h3 b hb h
    · have := (h2.lt b hb).2; omega
  have eL : L (zs ++ [x]) = L zs ++ [.int .i64 x] := by simp [L]
  have eI : I (zs ++ [x]) = I zs ++ [.int .i64 x] := by simp [I]
  refine ⟨v', mv', ?_, ?_, ?_, ?_, by simp; omega⟩
  · rw [eL, eI]; exact hp.set.only o2 (fun i hi e => hdis i e hi)
  · rw [eI]; simpa using hown
  · intro b hb
    rcases hloc with h | h
    · exact hdis b (h ▸ hb)
    · intro hf
      rw [h] at hb; cases hb
      have := (hp.set.lt _ hf).2
      omega
  · exact (h4.trans hp.only (H := fun _ => False) (fun _ h => h) (fun i hi => .inr (h1.lt i hi).1)).trans o2 (fun _ h => h) (fun i hi => .inr (h2.lt i hi).1)

/-- The five questions behind each Add, asked where the relation holds. -/
theorem SRel.place {w0 wr : World} {sb j : Nat} {M : Int} {lv : Value} {zs : List Int} (h : SRel w0 sb M j lv zs wr) (x : Int) (hx : (Lit.int .i64 x).wf = true) :
    Calls Tryd.prog 12 #[.pointer (some ⟨sb, 0, none⟩), .int .i64 x] wr fun e w' => e = .returned (.tuple #[.int .i64 ((idxOf (L zs) (.int .i64 x)).getD 0), .bool (idxOf (L zs) (.int .i64 x)).isSome]) ∧ Hid (SRel w0 sb M j lv zs w') := by
  obtain ⟨v, mv, h1, h2, h3, h4, h5⟩ := id h
  refine (seti_place _ sb v mv M _ _ x wr hx h1).mono ?_
  rintro e w' ⟨rfl, rfl⟩
  exact ⟨rfl, h.only (Only.of_alloc _ _)⟩
theorem SRel.has {w0 wr : World} {sb j : Nat} {M : Int} {lv : Value} {zs : List Int} (h : SRel w0 sb M j lv zs wr) (x : Int) (hx : (Lit.int .i64 x).wf = true) :
    Calls Tryd.prog 15 #[.pointer (some ⟨sb, 0, none⟩), .int .i64 x] wr fun e w' => e = .returned (.bool (idxOf (L zs) (.int .i64 x)).isSome) ∧ Hid (SRel w0 sb M j lv zs w') := by
  obtain ⟨v, mv, h1, h2, h3, h4, h5⟩ := id h
  refine (seti_has _ sb v mv M _ _ x wr hx h1).mono ?_
  rintro e w' ⟨rfl, rfl⟩
  exact ⟨rfl, h.only (Only.of_alloc _ _)⟩
theorem SRel.seek {w0 wr : World} {sb j : Nat} {M : Int} {lv : Value} {zs : List Int} (h : SRel w0 sb M j lv zs wr) (x : Int) (hj : j < 1000000) :
    Calls Tryd.prog 11 #[lv, .int .i64 x] wr fun e w' => e = .returned (.int .i64 ((idxOf (L zs) (.int .i64 x)).getD (-1))) ∧ wr = w' := by
  obtain ⟨v, mv, h1, h2, h3, h4, h5⟩ := h
  exact place_any _ _ lv zs x wr h2 (by omega)
theorem SRel.len {w0 wr : World} {sb j : Nat} {M : Int} {lv : Value} {zs : List Int} (h : SRel w0 sb M j lv zs wr) :
    Calls Tryd.prog 13 #[.pointer (some ⟨sb, 0, none⟩)] wr fun e w' => e = .returned (.int .i64 (zs.length : Int)) ∧ wr = w' := by
  obtain ⟨v, mv, h1, _⟩ := h
  have := seti_len _ sb v mv M _ _ wr h1
  rwa [show (L zs).length = zs.length by simp] at this
theorem SRel.room {w0 wr : World} {sb j : Nat} {M : Int} {lv : Value} {zs : List Int} (h : SRel w0 sb M j lv zs wr) :
    Calls Tryd.prog 14 #[.pointer (some ⟨sb, 0, none⟩)] wr fun e w' => e = .returned (.int .i64 (M - (zs.length : Int))) ∧ Hid (SRel w0 sb M j lv zs w') := by
  obtain ⟨v, mv, h1, _⟩ := id h
  have := seti_room _ sb v mv M _ _ wr h1
  rw [show (L zs).length = zs.length by simp] at this
  refine this.mono ?_
  rintro e w' ⟨rfl, n, rfl⟩
  exact ⟨rfl, h.only (Only.of_drewN _ _)⟩
theorem SRel.fits {w0 wr : World} {sb j : Nat} {M : Int} {lv : Value} {zs : List Int} (h : SRel w0 sb M j lv zs wr) : (zs.length : Int) ≤ M := by
  obtain ⟨v, mv, h1, _⟩ := h
  simpa using h1.room
theorem SRel.shape {w0 wr : World} {sb j : Nat} {M : Int} {lv : Value} {zs : List Int} (h : SRel w0 sb M j lv zs wr) : ∃ a c, lv = .slice a zs.length c := by
  obtain ⟨v, mv, _, h2, _⟩ := h
  exact ownsRow_shape h2

theorem neq_budget (a : Addr) (w : World) : (binOp .neq 27 (.iface 88 (.pointer (some a))) (.iface 88 (.pointer (some a)))).run Tryd.prog w = .ok (.bool false) w := by
  obtain ⟨i, hi, hc⟩ := info_some (P := Tryd.prog) (t := 88) (b := true) (by kernel_rfl)
  obtain ⟨j, hj, _⟩ := info_some (P := Tryd.prog) (t := 105) (b := true) (by kernel_rfl)
  simp only [binOp]
  simp [Op.equal, Op.maxDepth, run_equalIn_iface_ptr_same w 9998 (te := 105) a Tryd.underlying27 Tryd.underlying88 hi hc hj]

set_option maxHeartbeats 400000 in
theorem sets_many (most ask : Int) (a : Option Addr) (n c : Nat) (w : World) (ea : Addr) (hg : w.cell? ⟨0, 0, none⟩ = some (.iface 88 (.pointer (some ea)))) (hn : 300 < n) :
    Calls Tryd.prog 3 #[.int .i64 most, .slice a n c, .int .i64 ask] w fun e w' => e = .returned (.bool true) ∧ Only (fun _ => False) w w' := by
  have Hf := Lib.hid (first_any w ea hg)
  have hn' : (300 : Int) < n := by omega
  clear hg
  go_enter Tryd.func3, Tryd.ntmps3
  go_wp2_with (go_at_call 8; refine Hf.out.mono ?_; rintro e w1 ⟨rfl, ho⟩)
  go_ret
  exact ⟨rfl, ho⟩

set_option maxHeartbeats 400000 in
theorem sets_zero (most ask : Int) (a : Option Addr) (c : Nat) (w : World) (ea : Addr) (hg : w.cell? ⟨0, 0, none⟩ = some (.iface 88 (.pointer (some ea)))) :
    Calls Tryd.prog 3 #[.int .i64 most, .slice a 0 c, .int .i64 ask] w fun e w' => e = .returned (.bool true) ∧ Only (fun _ => False) w w' := by
  have Hf := Lib.hid (first_any w ea hg)
  clear hg
  go_enter Tryd.func3, Tryd.ntmps3
  go_wp2_with (first | (go_at_call 8; refine Hf.out.mono ?_; rintro e w1 ⟨rfl, ho⟩) | (go_at_call 9; refine (newi most _).mono ?_; rintro e w2 ⟨rfl, hw2⟩))
  refine wp_loop_rounds 1 ?_
  rw [rounds_succ]
  go_wp2_with fail
  go_ret
  refine ⟨rfl, ?_⟩
  rw [← hw2]
  exact ho.trans (Only.of_alloc _ _) (fun _ h => h) (fun _ h => .inl h)
end Go.Proofs.YtgkdemdpknljkaaDoor
