/- The calls of an index keyed by numbers: Get and Put, by contracts. -/
import Derived.Test.YtgkdemdpknljkaaDoorQus
namespace Go.Proofs.YtgkdemdpknljkaaDoor
open Go.RowKit Go.Maps Go.WideMaps Go.WideElems Go.ChangeShapes Go.WideShapes

theorem lawI : Keyed Tryd.prog 3 := int_keyed Tryd.underlying3
theorem Tryd.under49 : Tryd.prog.underlying 49 = some (.map 3 85) := by kernel_rfl
theorem isKeyI (s : Int) : WideAt.IsKeyLit (.int .i64 s) := by trivial

theorem rec46 (w : World) : CallsD Tryd.prog 46 #[] .returning w fun e u' w' => e = .returned (.tuple #[]) ∧ u' = .returning ∧ w' = w := by
  refine callsD_of_wpS Tryd.func46 rfl fun c₀ cs hu => ?_
  apply wpS_region
  simp [wpOpsS, go_sem, recoverD, hu, Tryd.ntmps46, bodyPostS, results, Tryd.results46]
  cases c₀
  simp_all
theorem rec45 (w : World) : CallsD Tryd.prog 45 #[] .returning w fun e u' w' => e = .returned (.tuple #[]) ∧ u' = .returning ∧ w' = w := by
  refine callsD_of_wpS Tryd.func45 rfl fun c₀ cs hu => ?_
  apply wpS_region
  simp [wpOpsS, go_sem, recoverD, hu, Tryd.ntmps45, bodyPostS, results, Tryd.results45]
  cases c₀
  simp_all

set_option maxHeartbeats 400000 in
theorem ixi_get_nil (p : Addr) (s : Int) (w : World) (hs : (Lit.int .i64 s).wf = true) (hc : w.cell? p = some (.map none)) :
    Calls Tryd.prog 39 #[.pointer (some p), .int .i64 s] w fun e w' => e = .returned (.tuple #[.int .i64 0, .bool false]) ∧ w.alloc (.cells #[.int .i64 0] 85) = w' := by
  have hlk : ∀ w, (Instr.lookup 49 (.map none) (.int .i64 s) true).run Tryd.prog w = .ok (.tuple #[.agg #[.int .i64 0], .bool false]) w := fun w => Maps.look_nil (w := w) true lawI Tryd.under49 (zero85 w) (keyOf_int_mk Tryd.underlying3 hs)
  go_enter_defers Tryd.func39, Tryd.ntmps39
  go_wp2
  refine leaves_cons (f := 46) (args := #[]) (by simp) (by simp [go_sem]) ?_
  refine (rec46 _).mono ?_
  rintro e u' w'' ⟨rfl, rfl, rfl⟩
  simp [Leaves, settle, results, Tryd.results39, go_sem]

set_option maxHeartbeats 400000 in
theorem ixi_get_own (p : Addr) (s : Int) (w : World) (b n : Nat) (D : DataW Unit) (c : Int) (hs : (Lit.int .i64 s).wf = true) (hc : w.cell? p = some (.map (some b))) (hown : w.ownsMap Tryd.prog 3 heldE b n D)
    (hat : D.atKey (.int .i64 s) Zd = .lit (.int .i64 c)) :
    Calls Tryd.prog 39 #[.pointer (some p), .int .i64 s] w fun e w' => e = .returned (.tuple #[.int .i64 c, .bool (Maps.has D (.int .i64 s))]) ∧ w.alloc (.cells #[.int .i64 c] 85) = w' := by
  have hlk : (Instr.lookup 49 (.map (some b)) (.int .i64 s) true).run Tryd.prog w = .ok (.tuple #[.agg #[.int .i64 c], .bool (Maps.has D (.int .i64 s))]) w := by
    obtain ⟨v, ps, hrun, hv⟩ := hown.look_ok lawI Tryd.under49 (zero85 w) (heldE_mk 0) (keyOf_int_mk Tryd.underlying3 hs)
    obtain ⟨a, rfl, ha⟩ := heldE_inv hv
    rw [hat] at ha
    simp at ha
    rw [hrun, ha.1]
  generalize Maps.has D (.int .i64 s) = bb at *
  clear hat hown
  go_enter_defers Tryd.func39, Tryd.ntmps39
  go_wp2
  refine leaves_cons (f := 46) (args := #[]) (by simp) (by simp [go_sem]) ?_
  refine (rec46 _).mono ?_
  rintro e u' w'' ⟨rfl, rfl, rfl⟩
  simp [Leaves, settle, results, Tryd.results39, go_sem]

/-- Get: what the index has at the text, and whether it has it; one block is laid. -/
theorem ixi_get (p : Addr) (s : Int) (w : World) (mv : Value) (n : Nat) (f : Lit → Option Int) (hs : (Lit.int .i64 s).wf = true) (hc : w.cell? p = some mv) (hi : IxI Tryd.prog 3 w mv n f) :
    Calls Tryd.prog 39 #[.pointer (some p), .int .i64 s] w fun e w' => e = .returned (.tuple #[.int .i64 ((f (.int .i64 s)).getD 0), .bool (f (.int .i64 s)).isSome]) ∧ w.alloc (.cells #[.int .i64 ((f (.int .i64 s)).getD 0)] 85) = w' := by
  rcases hi with ⟨rfl, hf⟩ | ⟨b, D, rfl, hown, hr⟩
  · rw [hf]
    exact ixi_get_nil p s w hs hc
  · obtain ⟨h1, h2⟩ := hr _ (isKeyI s)
    rw [← h1]
    exact ixi_get_own p s w b n D _ hs hc hown h2

set_option maxHeartbeats 400000 in
theorem ixi_put_own (sb o : Nat) (cs : Array Value) (T : TypeId) (s : Int) (x : Int) (w : World) (b n : Nat) (D : DataW Unit) (hs : (Lit.int .i64 s).wf = true) (hn : n < maxLen) (hb : w.heap[sb]? = some (.cells cs T (0, 0))) (ho : cs[o]? = some (.map (some b))) (hown : w.ownsMap Tryd.prog 3 heldE b n D) :
    Calls Tryd.prog 38 #[.pointer (some ⟨sb, o, none⟩), .int .i64 s, .int .i64 x] w fun e w' => e = .returned (.tuple #[]) ∧ w'.ownsMap Tryd.prog 3 heldE b (n + 1) (D.put (.int .i64 s) (.lit (.int .i64 x))) ∧ w.grownBy w' (some b) := by
  have hc : w.cell? ⟨sb, o, none⟩ = some (.map (some b)) := by simp [World.cell?, hb, ho]
  have hne := fun w r => run_eql_map_nil (P := Tryd.prog) w 49 3 85 r Tryd.under49
  go_enter_defers Tryd.func38, Tryd.ntmps38
  go_wp2_with (first | (at_mapUpdate; refine wpList_mapUpdate_own _ rfl _ _ _ 49 rfl 3 85 lawI Tryd.under49 _ b n D rfl hown hn _ _ _ rfl rfl (keyOf_int_mk Tryd.underlying3 hs) _ [] (heldE_mk x) ?_; intro w1 hown1 hgrow1))
  refine leaves_cons (f := 45) (args := #[]) (by simp) (by simp [go_sem]) ?_
  refine (rec45 _).mono ?_
  rintro e u' w'' ⟨rfl, rfl, rfl⟩
  exact ⟨_, results_none rfl _ _ _, rfl, hown1, hgrow1⟩

set_option maxHeartbeats 400000 in
theorem ixi_put_nil (sb o : Nat) (cs : Array Value) (T : TypeId) (s : Int) (x : Int) (w : World) (hs : (Lit.int .i64 s).wf = true) (hb : w.heap[sb]? = some (.cells cs T (0, 0))) (ho : cs[o]? = some (.map none)) :
    Calls Tryd.prog 38 #[.pointer (some ⟨sb, o, none⟩), .int .i64 s, .int .i64 x] w fun e w' => e = .returned (.tuple #[]) ∧ w'.ownsMap Tryd.prog 3 heldE w.heap.size 1 ((DataW.map []).put (.int .i64 s) (.lit (.int .i64 x))) ∧
      ((w.setCell ⟨sb, o, none⟩ (.map (some w.heap.size))).alloc (.map #[] 0)).grownBy w' (some w.heap.size) := by
  have hlt : sb < w.heap.size := lt_of_block hb
  have hol : o < cs.size := (Array.getElem?_eq_some_iff.1 ho).1
  have hc : w.cell? ⟨sb, o, none⟩ = some (.map none) := by simp [World.cell?, hb, ho]
  have hz : w.frozen? ⟨sb, o, none⟩ = false := by simp [World.frozen?, hb]
  have hown : ((w.setCell ⟨sb, o, none⟩ (.map (some w.heap.size))).alloc (.map #[] 0)).ownsMap Tryd.prog 3 (heldE) w.heap.size 0 (.map []) := by
    have := World.ownsMap_made (w.setCell ⟨sb, o, none⟩ (.map (some w.heap.size))) Tryd.prog 3 heldE
    simpa [World.setCell] using this
  have hne := fun w r => run_eql_map_nil (P := Tryd.prog) w 49 3 85 r Tryd.under49
  have hmm := @run_makeMap Tryd.prog
  go_enter_defers Tryd.func38, Tryd.ntmps38
  go_wp2_with (first | (at_mapUpdate; refine wpList_mapUpdate_own _ rfl _ _ _ 49 rfl 3 85 lawI Tryd.under49 _ w.heap.size 0 _ rfl hown (by unfold maxLen; omega) _ _ _ rfl rfl (keyOf_int_mk Tryd.underlying3 hs) _ [] (heldE_mk x) ?_; intro w1 hown1 hgrow1))
  refine leaves_cons (f := 45) (args := #[]) (by simp) (by simp [go_sem]) ?_
  refine (rec45 _).mono ?_
  rintro e u' w'' ⟨rfl, rfl, rfl⟩
  exact ⟨_, results_none rfl _ _ _, rfl, hown1, hgrow1⟩

theorem ixi_put (sb o : Nat) (cs : Array Value) (T : TypeId) (s : Int) (x : Int) (w : World) (mv : Value) (n : Nat) (f : Lit → Option Int) (hs : (Lit.int .i64 s).wf = true) (hn : n < maxLen) (hb : w.heap[sb]? = some (.cells cs T (0, 0))) (ho : cs[o]? = some mv) (hi : IxI Tryd.prog 3 w mv n f) :
    Calls Tryd.prog 38 #[.pointer (some ⟨sb, o, none⟩), .int .i64 s, .int .i64 x] w fun e w' => e = .returned (.tuple #[]) ∧ ∃ mv', IxPut 3 sb o cs T mv (n + 1) (upd f (.int .i64 s) x) w w' mv' := by
  have hlt := lt_of_block hb
  rcases hi with ⟨rfl, hf⟩ | ⟨b, D, rfl, hown, hr⟩
  · refine (ixi_put_nil sb o cs T s x w hs hb ho).mono ?_
    rintro e w' ⟨rfl, hown', hg⟩
    refine ⟨rfl, .map (some w.heap.size), ?_, ?_, ?_, ?_⟩
    · refine IxI.put (D := .map []) (isKeyI _) (hown'.mono (by omega)) isMap_empty (fun l _ => ?_)
      rw [hf]
      exact ⟨rfl, rfl⟩
    · rw [hg.block sb (by simp [World.setCell]; omega) (by simp; omega), Below.heap_alloc _ _ _ (by simpa [World.setCell] using hlt)]
      exact heap_setCell_cells hb _
    · have o1 := Only.of_setCell w ⟨sb, o, none⟩ (.map (some w.heap.size))
      have o2 := o1.trans (Only.of_alloc _ (.map #[] 0)) (H := fun i => i = sb) (fun i hi => hi) (fun i (h : False) => h.elim)
      refine o2.trans (Only.of_grown hg) (fun i hi => .inl hi) (fun i hi => .inr (by cases hi; exact Nat.le_refl _))
    · intro b hb'
      cases hb'
      exact .inr (Nat.le_refl _)
  · refine (ixi_put_own sb o cs T s x w b n D hs hn hb ho hown).mono ?_
    rintro e w' ⟨rfl, hown', hg⟩
    have hne : b ≠ sb := by
      rintro rfl
      obtain ⟨es, clock, hb', _⟩ := hown
      rw [hb] at hb'; cases hb'
    refine ⟨rfl, .map (some b), ?_, ?_, ?_, ?_⟩
    · exact IxI.put (isKeyI _) hown' hown.isMap hr
    · rw [hg.block sb hlt (by simp; omega), hb, set_same ho]
    · exact (Only.of_grown hg).mono (fun i hi => .inl (.inr (by cases hi; rfl)))
    · exact fun b' h => .inl h
end Go.Proofs.YtgkdemdpknljkaaDoor
