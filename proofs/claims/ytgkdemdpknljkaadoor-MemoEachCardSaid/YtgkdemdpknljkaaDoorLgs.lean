/- The calls of a log of texts to numbers: Get, Note, Len, Once, by contracts. -/
import Derived.Test.YtgkdemdpknljkaaDoorQut
namespace Go.Proofs.YtgkdemdpknljkaaDoor
open Go.RowKit Go.Maps Go.WideMaps Go.WideElems Go.ChangeShapes Go.WideShapes

/-- A log in the block lb: how many are noted, its map. -/
structure LogI (k T : TypeId) (B : Nat) (w : World) (lb : Nat) (mv : Value) (n : Nat) (f : Lit → Option Int) : Prop where
  cells : w.heap[lb]? = some (.cells #[.int .i64 n, mv] T (0, 0))
  ix : IxI Tryd.prog k w mv n f
  base : B ≤ lb
  mbase : ∀ b, mapBlock mv = some b → B ≤ b

def lfoot (lb : Nat) (mv : Value) : Nat → Prop := fun i => i = lb ∨ mapBlock mv = some i

theorem LogI.only {k T : TypeId} {B : Nat} {w w' : World} {lb : Nat} {mv : Value} {n : Nat} {f : Lit → Option Int} {F : Nat → Prop} (h : LogI k T B w lb mv n f) (ho : Only F w w') (hF : ∀ i, lfoot lb mv i → ¬ F i) : LogI k T B w' lb mv n f :=
  ⟨by rw [ho.block lb (lt_of_block h.cells) (hF lb (.inl rfl))]; exact h.cells, h.ix.only ho (fun b hb => hF b (.inr hb)), h.base, h.mbase⟩
theorem LogI.lt {k T : TypeId} {B : Nat} {w : World} {lb : Nat} {mv : Value} {n : Nat} {f : Lit → Option Int} (h : LogI k T B w lb mv n f) : ∀ i, lfoot lb mv i → B ≤ i ∧ i < w.heap.size := by
  rintro i (rfl | hi)
  · exact ⟨h.base, lt_of_block h.cells⟩
  · exact ⟨h.mbase i hi, h.ix.lt i hi⟩
theorem LogI.cell0 {k T : TypeId} {B : Nat} {w : World} {lb : Nat} {mv : Value} {n : Nat} {f : Lit → Option Int} (h : LogI k T B w lb mv n f) : w.cell? ⟨lb, 0, none⟩ = some (.int .i64 n) := by simp [World.cell?, h.cells]
theorem LogI.cell1 {k T : TypeId} {B : Nat} {w : World} {lb : Nat} {mv : Value} {n : Nat} {f : Lit → Option Int} (h : LogI k T B w lb mv n f) : w.cell? ⟨lb, 1, none⟩ = some mv := by simp [World.cell?, h.cells]

/-- What Note leaves where the key is new. -/
structure LogPost (k T : TypeId) (B : Nat) (w : World) (lb : Nat) (mv : Value) (w' : World) (mv' : Value) (n' : Nat) (f' : Lit → Option Int) : Prop where
  log : LogI k T B w' lb mv' n' f'
  only : Only (lfoot lb mv) w w'
  from' : ∀ i, lfoot lb mv' i → lfoot lb mv i ∨ w.heap.size ≤ i

theorem LogPost.of_only {k T : TypeId} {B : Nat} {w w1 w' : World} {lb : Nat} {mv mv' : Value} {n' : Nat} {f' : Lit → Option Int} (h : LogPost k T B w1 lb mv w' mv' n' f') (ho : Only (fun _ => False) w w1) : LogPost k T B w lb mv w' mv' n' f' :=
  ⟨h.log, ho.trans h.only (fun _ (h : False) => h.elim) (fun _ h => .inl h), fun i hi => (h.from' i hi).imp id (fun x => Nat.le_trans ho.size x)⟩

set_option maxHeartbeats 400000 in
theorem lgs_get (B lb : Nat) (mv : Value) (n : Nat) (f : Lit → Option Int) (s : ByteArray) (w : World) (hs : s.size ≤ maxLen) (h : LogI 9 71 B w lb mv n f) :
    Calls Tryd.prog 44 #[.pointer (some ⟨lb, 0, none⟩), .string s] w fun e w' => e = .returned (.tuple #[.int .i64 ((f (.string s.data.toList)).getD 0), .bool (f (.string s.data.toList)).isSome]) ∧ w.alloc (.cells #[.int .i64 ((f (.string s.data.toList)).getD 0)] 85) = w' := by
  have hget := ixs_get ⟨lb, 1, none⟩ s w mv n f hs h.cell1 h.ix
  generalize (f (.string s.data.toList)).getD 0 = c at *
  generalize (f (.string s.data.toList)).isSome = b at *
  have Hget := Lib.hid hget
  clear hget
  go_enter Tryd.func44, Tryd.ntmps44
  go_wp2_with (go_at_call 41; refine Hget.out.mono ?_; rintro e w' ⟨rfl, rfl⟩)
  go_ret2
  exact ⟨rfl, rfl⟩

set_option maxHeartbeats 400000 in
theorem lgs_len (B lb : Nat) (mv : Value) (n : Nat) (f : Lit → Option Int) (w : World) (h : LogI 9 71 B w lb mv n f) :
    Calls Tryd.prog 37 #[.pointer (some ⟨lb, 0, none⟩)] w fun e w' => e = .returned (.int .i64 n) ∧ w = w' := by
  have h0 := h.cell0
  clear h
  go_enter Tryd.func37, Tryd.ntmps37
  go_wp2
  go_ret
  exact ⟨rfl, rfl⟩

set_option maxHeartbeats 400000 in
theorem lgs_note_old (B lb : Nat) (mv : Value) (n : Nat) (f : Lit → Option Int) (s : ByteArray) (x : Int) (w : World) (hs : s.size ≤ maxLen) (h : LogI 9 71 B w lb mv n f) (hin : (f (.string s.data.toList)).isSome = true) :
    Calls Tryd.prog 33 #[.pointer (some ⟨lb, 0, none⟩), .string s, .int .i64 x] w fun e w' => e = .returned (.bool false) ∧ Only (fun _ => False) w w' := by
  have hget := lgs_get B lb mv n f s w hs h
  rw [hin] at hget
  generalize (f (.string s.data.toList)).getD 0 = c at *
  have Hget := Lib.hid hget
  clear hget h hin
  go_enter Tryd.func33, Tryd.ntmps33
  go_wp2_with (go_at_call 44; refine Hget.out.mono ?_; rintro e w' ⟨rfl, rfl⟩)
  go_ret
  exact ⟨rfl, Only.of_alloc _ _⟩

theorem logPost_mk {k T : TypeId} {B : Nat} {w w3 : World} {lb : Nat} {mv mv' : Value} {n : Nat} {f f' : Lit → Option Int} {x : Value} (h2 : LogI k T B w lb mv n f) (hp : IxPut k lb 1 #[x, mv] T mv (n + 1) f' w w3 mv') (hB : B ≤ w.heap.size) :
    LogPost k T B w lb mv (w3.setCell ⟨lb, 0, none⟩ (.int .i64 ((n : Int) + 1))) mv' (n + 1) f' := by
  have c3 : w3.heap[lb]? = some (.cells #[x, mv'] T (0, 0)) := hp.cells
  have o5 := Only.of_setCell w3 ⟨lb, 0, none⟩ (.int .i64 ((n : Int) + 1))
  have hmsb : ∀ b, mapBlock mv' = some b → b ≠ lb := by
    rintro b hb rfl
    rcases hp.ix with ⟨e2, _⟩ | ⟨b', D, e2, ⟨es, clock, hb', _⟩, _⟩
    · rw [e2] at hb; cases hb
    · rw [e2] at hb; cases hb
      rw [c3] at hb'; cases hb'
  refine ⟨⟨heap_setCell_cells c3 _, hp.ix.only o5 (fun b hb e => hmsb b hb e), h2.base, fun b hb => ?_⟩, hp.only.trans o5 (fun _ h => h) (fun _ h => .inl (.inl h)), ?_⟩
  · rcases hp.from' b hb with h | h
    · exact h2.mbase b h
    · omega
  · rintro i (h | h)
    · exact .inl (.inl h)
    · rcases hp.from' i h with h' | h'
      · exact .inl (.inr h')
      · exact .inr h'

set_option maxHeartbeats 400000 in
theorem lgs_note_new (B lb : Nat) (mv : Value) (n : Nat) (f : Lit → Option Int) (s : ByteArray) (x : Int) (w : World) (hs : s.size ≤ maxLen) (h : LogI 9 71 B w lb mv n f) (hin : (f (.string s.data.toList)).isSome = false) (hsm : n < 1000000) (hB : B ≤ w.heap.size) :
    Calls Tryd.prog 33 #[.pointer (some ⟨lb, 0, none⟩), .string s, .int .i64 x] w fun e w' => e = .returned (.bool true) ∧ ∃ mv', LogPost 9 71 B w lb mv w' mv' (n + 1) (upd f (.string s.data.toList) x) := by
  have hget := lgs_get B lb mv n f s w hs h
  rw [hin] at hget
  generalize (f (.string s.data.toList)).getD 0 = c at *
  have ho := Only.of_alloc w (.cells #[.int .i64 c] 85)
  have h1 := h.only ho (fun _ _ x => x)
  have hsz : w.heap.size ≤ (w.alloc (.cells #[.int .i64 c] 85)).heap.size := ho.size
  have Hget := Lib.hid hget
  have H1 := Lib.hid h1
  have Ho := Lib.hid ho
  have hBB : Hid (B ≤ (w.alloc (.cells #[.int .i64 c] 85)).heap.size) := Nat.le_trans hB hsz
  clear hget h hin h1 ho hsz
  go_enter Tryd.func33, Tryd.ntmps33
  go_wp2_with (go_at_call 44; refine Hget.out.mono ?_; rintro e w' ⟨rfl, rfl⟩)
  generalize w.alloc (.cells #[.int .i64 c] 85) = w1 at *
  refine (ixs_put lb 1 #[.int .i64 n, mv] 71 s x w1 mv n f hs (by unfold maxLen; omega) H1.out.cells rfl H1.out.ix).mono ?_
  rintro e w3 ⟨rfl, mv', hp⟩
  have hpost := (logPost_mk H1.out hp hBB.out).of_only Ho.out
  have c3 : w3.heap[lb]? = some (.cells #[.int .i64 n, mv'] 71 (0, 0)) := hp.cells
  have c30 : w3.cell? ⟨lb, 0, none⟩ = some (.int .i64 n) := by simp [World.cell?, c3]
  have f30 : w3.frozen? ⟨lb, 0, none⟩ = false := by simp [World.frozen?, c3]
  have Hpost := Lib.hid hpost
  clear hpost hp c3
  go_wp2
  go_ret
  exact ⟨rfl, _, Hpost.out⟩
end Go.Proofs.YtgkdemdpknljkaaDoor
