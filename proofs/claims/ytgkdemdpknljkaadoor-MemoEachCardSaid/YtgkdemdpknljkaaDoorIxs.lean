/- The calls of an index keyed by texts: Get and Put, by contracts. -/
import Derived.Test.YtgkdemdpknljkaaDoorBase
import Derived.Test.YtgkdemdpknljkaaDoorChecked
import Derived.Recover
import Derived.Deep.QuietTactic
import Derived.BigQuiet
import Derived.Outline
namespace Go.Proofs.YtgkdemdpknljkaaDoor
open Go.RowKit Go.Maps Go.WideMaps Go.WideElems Go.ChangeShapes Go.WideShapes

theorem lawS : Keyed Tryd.prog 9 := string_keyed Tryd.underlying9
theorem Tryd.under67 : Tryd.prog.underlying 67 = some (.map 9 85) := by kernel_rfl
theorem zero85 (w : World) : (zeroValue 85).run Tryd.prog w = .ok (.agg #[.int .i64 0]) w := by kernel_rfl

theorem rec47 (w : World) : CallsD Tryd.prog 47 #[] .returning w fun e u' w' => e = .returned (.tuple #[]) ∧ u' = .returning ∧ w' = w := by
  refine callsD_of_wpS Tryd.func47 rfl fun c₀ cs hu => ?_
  apply wpS_region
  simp [wpOpsS, go_sem, recoverD, hu, Tryd.ntmps47, bodyPostS, results, Tryd.results47]
  cases c₀
  simp_all
theorem rec48 (w : World) : CallsD Tryd.prog 48 #[] .returning w fun e u' w' => e = .returned (.tuple #[]) ∧ u' = .returning ∧ w' = w := by
  refine callsD_of_wpS Tryd.func48 rfl fun c₀ cs hu => ?_
  apply wpS_region
  simp [wpOpsS, go_sem, recoverD, hu, Tryd.ntmps48, bodyPostS, results, Tryd.results48]
  cases c₀
  simp_all

set_option maxHeartbeats 400000 in
theorem ixs_get_nil (p : Addr) (s : ByteArray) (w : World) (hs : s.size ≤ maxLen) (hc : w.cell? p = some (.map none)) :
    Calls Tryd.prog 41 #[.pointer (some p), .string s] w fun e w' => e = .returned (.tuple #[.int .i64 0, .bool false]) ∧ w.alloc (.cells #[.int .i64 0] 85) = w' := by
  have hlk : ∀ w, (Instr.lookup 67 (.map none) (.string s) true).run Tryd.prog w = .ok (.tuple #[.agg #[.int .i64 0], .bool false]) w := fun w => Maps.look_nil (w := w) true lawS Tryd.under67 (zero85 w) (keyOf_string_mk Tryd.underlying9 hs)
  go_enter_defers Tryd.func41, Tryd.ntmps41
  go_wp2
  refine leaves_cons (f := 47) (args := #[]) (by simp) (by simp [go_sem]) ?_
  refine (rec47 _).mono ?_
  rintro e u' w'' ⟨rfl, rfl, rfl⟩
  simp [Leaves, settle, results, Tryd.results41, go_sem]

set_option maxHeartbeats 400000 in
theorem ixs_get_own (p : Addr) (s : ByteArray) (w : World) (b n : Nat) (D : DataW Unit) (c : Int) (hs : s.size ≤ maxLen) (hc : w.cell? p = some (.map (some b))) (hown : w.ownsMap Tryd.prog 9 heldE b n D)
    (hat : D.atKey (.string s.data.toList) Zd = .lit (.int .i64 c)) :
    Calls Tryd.prog 41 #[.pointer (some p), .string s] w fun e w' => e = .returned (.tuple #[.int .i64 c, .bool (Maps.has D (.string s.data.toList))]) ∧ w.alloc (.cells #[.int .i64 c] 85) = w' := by
  have hlk : (Instr.lookup 67 (.map (some b)) (.string s) true).run Tryd.prog w = .ok (.tuple #[.agg #[.int .i64 c], .bool (Maps.has D (.string s.data.toList))]) w := by
    obtain ⟨v, ps, hrun, hv⟩ := hown.look_ok lawS Tryd.under67 (zero85 w) (heldE_mk 0) (keyOf_string_mk Tryd.underlying9 hs)
    obtain ⟨a, rfl, ha⟩ := heldE_inv hv
    rw [hat] at ha
    simp at ha
    rw [hrun, ha.1]
  generalize Maps.has D (.string s.data.toList) = bb at *
  clear hat hown
  go_enter_defers Tryd.func41, Tryd.ntmps41
  go_wp2
  refine leaves_cons (f := 47) (args := #[]) (by simp) (by simp [go_sem]) ?_
  refine (rec47 _).mono ?_
  rintro e u' w'' ⟨rfl, rfl, rfl⟩
  simp [Leaves, settle, results, Tryd.results41, go_sem]

theorem isKeyS (s : List UInt8) : WideAt.IsKeyLit (.string s) := by trivial

/-- Get: what the index has at the text, and whether it has it; one block is laid. -/
theorem ixs_get (p : Addr) (s : ByteArray) (w : World) (mv : Value) (n : Nat) (f : Lit → Option Int) (hs : s.size ≤ maxLen) (hc : w.cell? p = some mv) (hi : IxI Tryd.prog 9 w mv n f) :
    Calls Tryd.prog 41 #[.pointer (some p), .string s] w fun e w' => e = .returned (.tuple #[.int .i64 ((f (.string s.data.toList)).getD 0), .bool (f (.string s.data.toList)).isSome]) ∧ w.alloc (.cells #[.int .i64 ((f (.string s.data.toList)).getD 0)] 85) = w' := by
  rcases hi with ⟨rfl, hf⟩ | ⟨b, D, rfl, hown, hr⟩
  · rw [hf]
    exact ixs_get_nil p s w hs hc
  · obtain ⟨h1, h2⟩ := hr _ (isKeyS s.data.toList)
    rw [← h1]
    exact ixs_get_own p s w b n D _ hs hc hown h2

set_option maxHeartbeats 400000 in
theorem ixs_put_own (sb o : Nat) (cs : Array Value) (T : TypeId) (s : ByteArray) (x : Int) (w : World) (b n : Nat) (D : DataW Unit) (hs : s.size ≤ maxLen) (hn : n < maxLen) (hb : w.heap[sb]? = some (.cells cs T (0, 0))) (ho : cs[o]? = some (.map (some b))) (hown : w.ownsMap Tryd.prog 9 heldE b n D) :
    Calls Tryd.prog 42 #[.pointer (some ⟨sb, o, none⟩), .string s, .int .i64 x] w fun e w' => e = .returned (.tuple #[]) ∧ w'.ownsMap Tryd.prog 9 heldE b (n + 1) (D.put (.string s.data.toList) (.lit (.int .i64 x))) ∧ w.grownBy w' (some b) := by
  have hc : w.cell? ⟨sb, o, none⟩ = some (.map (some b)) := by simp [World.cell?, hb, ho]
  have hne := fun w r => run_eql_map_nil (P := Tryd.prog) w 67 9 85 r Tryd.under67
  go_enter_defers Tryd.func42, Tryd.ntmps42
  go_wp2_with (first | (at_mapUpdate; refine wpList_mapUpdate_own _ rfl _ _ _ 67 rfl 9 85 lawS Tryd.under67 _ b n D rfl hown hn _ _ _ rfl rfl (keyOf_string_mk Tryd.underlying9 hs) _ [] (heldE_mk x) ?_; intro w1 hown1 hgrow1))
  refine leaves_cons (f := 48) (args := #[]) (by simp) (by simp [go_sem]) ?_
  refine (rec48 _).mono ?_
  rintro e u' w'' ⟨rfl, rfl, rfl⟩
  exact ⟨_, results_none rfl _ _ _, rfl, hown1, hgrow1⟩

set_option maxHeartbeats 400000 in
theorem ixs_put_nil (sb o : Nat) (cs : Array Value) (T : TypeId) (s : ByteArray) (x : Int) (w : World) (hs : s.size ≤ maxLen) (hb : w.heap[sb]? = some (.cells cs T (0, 0))) (ho : cs[o]? = some (.map none)) :
    Calls Tryd.prog 42 #[.pointer (some ⟨sb, o, none⟩), .string s, .int .i64 x] w fun e w' => e = .returned (.tuple #[]) ∧ w'.ownsMap Tryd.prog 9 heldE w.heap.size 1 ((DataW.map []).put (.string s.data.toList) (.lit (.int .i64 x))) ∧
      ((w.setCell ⟨sb, o, none⟩ (.map (some w.heap.size))).alloc (.map #[] 0)).grownBy w' (some w.heap.size) := by
  have hlt : sb < w.heap.size := lt_of_block hb
  have hol : o < cs.size := (Array.getElem?_eq_some_iff.1 ho).1
  have hc : w.cell? ⟨sb, o, none⟩ = some (.map none) := by simp [World.cell?, hb, ho]
  have hz : w.frozen? ⟨sb, o, none⟩ = false := by simp [World.frozen?, hb]
  have hown : ((w.setCell ⟨sb, o, none⟩ (.map (some w.heap.size))).alloc (.map #[] 0)).ownsMap Tryd.prog 9 (heldE) w.heap.size 0 (.map []) := by
    have := World.ownsMap_made (w.setCell ⟨sb, o, none⟩ (.map (some w.heap.size))) Tryd.prog 9 heldE
    simpa [World.setCell] using this
  have hne := fun w r => run_eql_map_nil (P := Tryd.prog) w 67 9 85 r Tryd.under67
  have hmm := @run_makeMap Tryd.prog
  go_enter_defers Tryd.func42, Tryd.ntmps42
  go_wp2_with (first | (at_mapUpdate; refine wpList_mapUpdate_own _ rfl _ _ _ 67 rfl 9 85 lawS Tryd.under67 _ w.heap.size 0 _ rfl hown (by unfold maxLen; omega) _ _ _ rfl rfl (keyOf_string_mk Tryd.underlying9 hs) _ [] (heldE_mk x) ?_; intro w1 hown1 hgrow1))
  refine leaves_cons (f := 48) (args := #[]) (by simp) (by simp [go_sem]) ?_
  refine (rec48 _).mono ?_
  rintro e u' w'' ⟨rfl, rfl, rfl⟩
  exact ⟨_, results_none rfl _ _ _, rfl, hown1, hgrow1⟩

/-- What Put leaves: the index reads as f with x at l; its cell lies at o in the block sb. -/
structure IxPut (k : TypeId) (sb o : Nat) (cs : Array Value) (T : TypeId) (mv : Value) (n : Nat) (f : Lit → Option Int) (w w' : World) (mv' : Value) : Prop where
  ix : IxI Tryd.prog k w' mv' n f
  cells : w'.heap[sb]? = some (.cells (cs.setIfInBounds o mv') T (0, 0))
  only : Only (fun i => i = sb ∨ mapBlock mv = some i) w w'
  from' : ∀ b, mapBlock mv' = some b → mapBlock mv = some b ∨ w.heap.size ≤ b

theorem set_same {cs : Array Value} {o : Nat} {v : Value} (h : cs[o]? = some v) : cs.setIfInBounds o v = cs := by
  obtain ⟨h1, h2⟩ := Array.getElem?_eq_some_iff.1 h
  apply Array.ext (by simp)
  intro i _ _
  rw [Array.getElem_setIfInBounds]
  split
  · rename_i e; subst e; exact h2.symm
  · rfl

theorem heap_setCell_cells {w : World} {sb o : Nat} {cs : Array Value} {T : TypeId} (hb : w.heap[sb]? = some (.cells cs T (0, 0))) (v : Value) : (w.setCell ⟨sb, o, none⟩ v).heap[sb]? = some (.cells (cs.setIfInBounds o v) T (0, 0)) := by
  have hlt := lt_of_block hb
  have h' : w.heap[sb] = .cells cs T (0, 0) := by simpa [Array.getElem?_eq_getElem hlt] using hb
  show (w.heap.modify sb _)[sb]? = _
  rw [Array.getElem?_eq_getElem (by simpa using hlt), Array.getElem_modify_self, h']
  rfl

theorem ixs_put (sb o : Nat) (cs : Array Value) (T : TypeId) (s : ByteArray) (x : Int) (w : World) (mv : Value) (n : Nat) (f : Lit → Option Int) (hs : s.size ≤ maxLen) (hn : n < maxLen) (hb : w.heap[sb]? = some (.cells cs T (0, 0))) (ho : cs[o]? = some mv) (hi : IxI Tryd.prog 9 w mv n f) :
    Calls Tryd.prog 42 #[.pointer (some ⟨sb, o, none⟩), .string s, .int .i64 x] w fun e w' => e = .returned (.tuple #[]) ∧ ∃ mv', IxPut 9 sb o cs T mv (n + 1) (upd f (.string s.data.toList) x) w w' mv' := by
  have hlt := lt_of_block hb
  rcases hi with ⟨rfl, hf⟩ | ⟨b, D, rfl, hown, hr⟩
  · refine (ixs_put_nil sb o cs T s x w hs hb ho).mono ?_
    rintro e w' ⟨rfl, hown', hg⟩
    refine ⟨rfl, .map (some w.heap.size), ?_, ?_, ?_, ?_⟩
    · refine IxI.put (D := .map []) (isKeyS _) (hown'.mono (by omega)) isMap_empty (fun l _ => ?_)
      rw [hf]
      exact ⟨rfl, rfl⟩
    · rw [hg.block sb (by simp [World.setCell]; omega) (by simp; omega), Below.heap_alloc _ _ _ (by simpa [World.setCell] using hlt)]
      exact heap_setCell_cells hb _
    · have o1 := Only.of_setCell w ⟨sb, o, none⟩ (.map (some w.heap.size))
      have o2 := o1.trans (Only.of_alloc _ (.map #[] 0)) (H := fun i => i = sb) (fun i hi => hi) (fun i (h : False) => h.elim)
      refine o2.trans (Only.of_grown hg) (fun i hi => .inl hi) (fun i hi => .inr (by cases hi; exact Nat.le_refl _))
    · intro b hb'
      cases hb'
      exact .inr (Nat.le_refl _)
  · refine (ixs_put_own sb o cs T s x w b n D hs hn hb ho hown).mono ?_
    rintro e w' ⟨rfl, hown', hg⟩
    have hne : b ≠ sb := by
      rintro rfl
      obtain ⟨es, clock, hb', _⟩ := hown
      rw [hb] at hb'; cases hb'
    refine ⟨rfl, .map (some b), ?_, ?_, ?_, ?_⟩
    · exact IxI.put (isKeyS _) hown' hown.isMap hr
    · rw [hg.block sb hlt (by simp; omega), hb, set_same ho]
    · exact (Only.of_grown hg).mono (fun i hi => .inl (.inr (by cases hi; rfl)))
    · exact fun b' h => .inl h
end Go.Proofs.YtgkdemdpknljkaaDoor
