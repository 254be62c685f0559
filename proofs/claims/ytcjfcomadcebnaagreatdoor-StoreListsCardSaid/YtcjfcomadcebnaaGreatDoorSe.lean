/- The operations of a kind; Do, by a contract. -/
import Derived.Test.YtcjfcomadcebnaaGreatDoorSd
namespace Go.Proofs.YtcjfcomadcebnaaGreatDoor
open Go.RowKit Go.Maps Go.WideMaps Go.WideElems Go.ChangeShapes Go.WideShapes

variable {T : TypeId} {er : Nat → Addr}

theorem under119 : Tryz.prog.underlying 119 = some (.map 3 117) := by kernel_rfl
theorem under3i : Tryz.prog.underlying 3 = some (.int .i64) := by kernel_rfl
theorem check_int (w : World) (b : Bool) (k : Int) : (Instr.checkKey b 10000 3 (.int .i64 k)).run Tryz.prog w = .ok () w := by
  show (Instr.checkKey b (9999 + 1) 3 (.int .i64 k)).run Tryz.prog w = _
  unfold Instr.checkKey
  simp [run_underlying under3i]
theorem find_int (w : World) (es : List MapEntry) (k : Int) (r : Option (Nat × Value)) (h : Instr.findNow (.int .i64) (.int .i64 k) es 0 = some r) : (Instr.findKey 3 (.int .i64 k) es).run Tryz.prog w = .ok r w := by
  unfold Instr.findKey
  simp [run_underlying under3i, h]
/-- A key is laid into a map of whole numbers that has just been made. -/
theorem insert_new (w : World) (es : Array MapEntry) (c : Nat) (k : Int) (v : Value) (h : Instr.findNow (.int .i64) (.int .i64 k) es.toList 0 = some none) :
    (Instr.mapUpdate 119 (.map (some w.heap.size)) (.int .i64 k) v).run Tryz.prog (w.alloc (.map es c)) = .ok () (w.alloc (.map (es.push ⟨.int .i64 k, v, c⟩) (c + 1))) := by
  have hb : (w.alloc (.map es c)).heap[w.heap.size]? = some (.map es c) := Array.getElem?_push_size
  simp [Instr.mapUpdate, run_underlying under119, MapKept.run_getObj_map hb, check_int, find_int _ _ _ _ h, MapKept.run_setObj_map _ hb, Result.andThen]
  simp only [World.alloc, Array.setIfInBounds_def]
  rw [dif_pos (by simp)]
  congr 1
  apply Array.ext'
  simp
theorem lookup_is (W : World) (b : Nat) (es : Array MapEntry) (c : Nat) (k : Int) (i : Nat) (v : Value) (hb : W.heap[b]? = some (.map es c)) (h : Instr.findNow (.int .i64) (.int .i64 k) es.toList 0 = some (some (i, v))) :
    (Instr.lookup 119 (.map (some b)) (.int .i64 k) true).run Tryz.prog W = .ok (.tuple #[v, .bool true]) W := by
  simp [Instr.lookup, run_underlying under119, MapKept.run_getObj_map hb, check_int, find_int _ _ _ _ h, Result.andThen]
theorem lookup_no (W : World) (b : Nat) (es : Array MapEntry) (c : Nat) (k : Int) (hb : W.heap[b]? = some (.map es c)) (h : Instr.findNow (.int .i64) (.int .i64 k) es.toList 0 = some none) :
    (Instr.lookup 119 (.map (some b)) (.int .i64 k) true).run Tryz.prog W = .ok (.tuple #[.nilFunc, .bool false]) W := by
  have hz : ∀ w : World, (zeroValue 117).run Tryz.prog w = .ok .nilFunc w := fun w => by kernel_rfl
  simp [Instr.lookup, run_underlying under119, MapKept.run_getObj_map hb, check_int, find_int _ _ _ _ h, hz, Result.andThen]

/-- A function that stands in a map's entry. -/
abbrev fv (g : Nat) : Value := .func (.func g) #[] #[]
/-- The function of an operation. -/
def opFn (kind op : Int) : Option Nat :=
  if kind = 1 then (if op = 1 then some 81 else if op = 2 then some 82 else none)
  else if kind = 2 then (if op = 4 then some 81 else if op = 3 then some 83 else none)
  else if kind = 3 then (if op = 6 then some 84 else if op = 5 then some 85 else none)
  else if kind = 4 then (if op = 7 then some 86 else if op = 8 then some 87 else if op = 9 then some 88 else none)
  else none
def lookV : Option Nat → Value
  | some g => .tuple #[fv g, .bool true]
  | none => .tuple #[.nilFunc, .bool false]
/-- The entries of a kind. -/
def kes (kind : Int) : Array MapEntry :=
  if kind = 1 then #[⟨.int .i64 1, fv 81, 0⟩, ⟨.int .i64 2, fv 82, 1⟩]
  else if kind = 2 then #[⟨.int .i64 4, fv 81, 0⟩, ⟨.int .i64 3, fv 83, 1⟩]
  else if kind = 3 then #[⟨.int .i64 6, fv 84, 0⟩, ⟨.int .i64 5, fv 85, 1⟩]
  else #[⟨.int .i64 7, fv 86, 0⟩, ⟨.int .i64 8, fv 87, 1⟩, ⟨.int .i64 9, fv 88, 2⟩]
/-- What a call of operations gives. -/
def OpsIs (kind : Int) (w : World) (e : Ending) (w' : World) : Prop := ∃ b, e = .returned (.map (some b)) ∧ Hid (Below w.heap.size w w' ∧ ∃ c, w'.heap[b]? = some (.map (kes kind) c))

set_option maxRecDepth 100000 in
theorem ops_1 (w : World) : Calls Tryz.prog 64 #[.int .i64 1] w (OpsIs 1 w) := by
  have I0 : ∀ w : World, (Instr.mapUpdate 119 (.map (some w.heap.size)) (.int .i64 1) (fv 81)).run Tryz.prog (w.alloc (.map #[] 0)) = .ok () (w.alloc (.map #[⟨.int .i64 1, fv 81, 0⟩] 1)) := fun w => insert_new w #[] 0 1 (fv 81) rfl
  have I1 : ∀ w : World, (Instr.mapUpdate 119 (.map (some w.heap.size)) (.int .i64 2) (fv 82)).run Tryz.prog (w.alloc (.map #[⟨.int .i64 1, fv 81, 0⟩] 1)) = .ok () (w.alloc (.map #[⟨.int .i64 1, fv 81, 0⟩, ⟨.int .i64 2, fv 82, 1⟩] 2)) := fun w => insert_new w #[⟨.int .i64 1, fv 81, 0⟩] 1 2 (fv 82) rfl
  have hmm := @run_makeMap Tryz.prog
  go_enter Tryz.func64, Tryz.ntmps64
  go_wp2
  go_ret
  exact ⟨_, rfl, (Below.refl _ _).alloc (Nat.le_refl _) _, _, Array.getElem?_push_size⟩
theorem ops_2 (w : World) : Calls Tryz.prog 64 #[.int .i64 2] w (OpsIs 2 w) := by
  have I0 : ∀ w : World, (Instr.mapUpdate 119 (.map (some w.heap.size)) (.int .i64 4) (fv 81)).run Tryz.prog (w.alloc (.map #[] 0)) = .ok () (w.alloc (.map #[⟨.int .i64 4, fv 81, 0⟩] 1)) := fun w => insert_new w #[] 0 4 (fv 81) rfl
  have I1 : ∀ w : World, (Instr.mapUpdate 119 (.map (some w.heap.size)) (.int .i64 3) (fv 83)).run Tryz.prog (w.alloc (.map #[⟨.int .i64 4, fv 81, 0⟩] 1)) = .ok () (w.alloc (.map #[⟨.int .i64 4, fv 81, 0⟩, ⟨.int .i64 3, fv 83, 1⟩] 2)) := fun w => insert_new w #[⟨.int .i64 4, fv 81, 0⟩] 1 3 (fv 83) rfl
  have hmm := @run_makeMap Tryz.prog
  go_enter Tryz.func64, Tryz.ntmps64
  go_wp2
  go_ret
  exact ⟨_, rfl, (Below.refl _ _).alloc (Nat.le_refl _) _, _, Array.getElem?_push_size⟩
set_option maxRecDepth 100000 in
theorem ops_3 (w : World) : Calls Tryz.prog 64 #[.int .i64 3] w (OpsIs 3 w) := by
  have I0 : ∀ w : World, (Instr.mapUpdate 119 (.map (some w.heap.size)) (.int .i64 6) (fv 84)).run Tryz.prog (w.alloc (.map #[] 0)) = .ok () (w.alloc (.map #[⟨.int .i64 6, fv 84, 0⟩] 1)) := fun w => insert_new w #[] 0 6 (fv 84) rfl
  have I1 : ∀ w : World, (Instr.mapUpdate 119 (.map (some w.heap.size)) (.int .i64 5) (fv 85)).run Tryz.prog (w.alloc (.map #[⟨.int .i64 6, fv 84, 0⟩] 1)) = .ok () (w.alloc (.map #[⟨.int .i64 6, fv 84, 0⟩, ⟨.int .i64 5, fv 85, 1⟩] 2)) := fun w => insert_new w #[⟨.int .i64 6, fv 84, 0⟩] 1 5 (fv 85) rfl
  have hmm := @run_makeMap Tryz.prog
  go_enter Tryz.func64, Tryz.ntmps64
  go_wp2
  go_ret
  exact ⟨_, rfl, (Below.refl _ _).alloc (Nat.le_refl _) _, _, Array.getElem?_push_size⟩
theorem ops_4 (w : World) : Calls Tryz.prog 64 #[.int .i64 4] w (OpsIs 4 w) := by
  have I0 : ∀ w : World, (Instr.mapUpdate 119 (.map (some w.heap.size)) (.int .i64 7) (fv 86)).run Tryz.prog (w.alloc (.map #[] 0)) = .ok () (w.alloc (.map #[⟨.int .i64 7, fv 86, 0⟩] 1)) := fun w => insert_new w #[] 0 7 (fv 86) rfl
  have I1 : ∀ w : World, (Instr.mapUpdate 119 (.map (some w.heap.size)) (.int .i64 8) (fv 87)).run Tryz.prog (w.alloc (.map #[⟨.int .i64 7, fv 86, 0⟩] 1)) = .ok () (w.alloc (.map #[⟨.int .i64 7, fv 86, 0⟩, ⟨.int .i64 8, fv 87, 1⟩] 2)) := fun w => insert_new w #[⟨.int .i64 7, fv 86, 0⟩] 1 8 (fv 87) rfl
  have I2 : ∀ w : World, (Instr.mapUpdate 119 (.map (some w.heap.size)) (.int .i64 9) (fv 88)).run Tryz.prog (w.alloc (.map #[⟨.int .i64 7, fv 86, 0⟩, ⟨.int .i64 8, fv 87, 1⟩] 2)) = .ok () (w.alloc (.map #[⟨.int .i64 7, fv 86, 0⟩, ⟨.int .i64 8, fv 87, 1⟩, ⟨.int .i64 9, fv 88, 2⟩] 3)) := fun w => insert_new w #[⟨.int .i64 7, fv 86, 0⟩, ⟨.int .i64 8, fv 87, 1⟩] 2 9 (fv 88) rfl
  have hmm := @run_makeMap Tryz.prog
  go_enter Tryz.func64, Tryz.ntmps64
  go_wp2
  go_ret
  exact ⟨_, rfl, (Below.refl _ _).alloc (Nat.le_refl _) _, _, Array.getElem?_push_size⟩
theorem ops_any (kind : Int) (h : 1 ≤ kind ∧ kind ≤ 4) (w : World) : Calls Tryz.prog 64 #[.int .i64 kind] w (OpsIs kind w) := by
  have : kind = 1 ∨ kind = 2 ∨ kind = 3 ∨ kind = 4 := by omega
  rcases this with rfl | rfl | rfl | rfl
  · exact ops_1 w
  · exact ops_2 w
  · exact ops_3 w
  · exact ops_4 w

theorem look_kes (kind op : Int) (h : 1 ≤ kind ∧ kind ≤ 4) (W : World) (b c : Nat) (hb : W.heap[b]? = some (.map (kes kind) c)) : (Instr.lookup 119 (.map (some b)) (.int .i64 op) true).run Tryz.prog W = .ok (lookV (opFn kind op)) W := by
  have hk : kind = 1 ∨ kind = 2 ∨ kind = 3 ∨ kind = 4 := by omega
  have ne : ∀ {a b : Int}, a ≠ b → (a == b) = false := fun h => by simpa using h
  rcases hk with rfl | rfl | rfl | rfl
  · by_cases h0 : op = 1
    · subst h0; exact lookup_is W b _ c 1 0 (fv 81) hb rfl
    by_cases h1 : op = 2
    · subst h1; exact lookup_is W b _ c 2 1 (fv 82) hb rfl
    have e : opFn 1 op = none := by simp [opFn, h0, h1]
    rw [e]
    exact lookup_no W b _ c op hb (by simp [kes, Instr.findNow, Instr.sameNow, ne h0, ne h1])
  · by_cases h0 : op = 4
    · subst h0; exact lookup_is W b _ c 4 0 (fv 81) hb rfl
    by_cases h1 : op = 3
    · subst h1; exact lookup_is W b _ c 3 1 (fv 83) hb rfl
    have e : opFn 2 op = none := by simp [opFn, h0, h1]
    rw [e]
    exact lookup_no W b _ c op hb (by simp [kes, Instr.findNow, Instr.sameNow, ne h0, ne h1])
  · by_cases h0 : op = 6
    · subst h0; exact lookup_is W b _ c 6 0 (fv 84) hb rfl
    by_cases h1 : op = 5
    · subst h1; exact lookup_is W b _ c 5 1 (fv 85) hb rfl
    have e : opFn 3 op = none := by simp [opFn, h0, h1]
    rw [e]
    exact lookup_no W b _ c op hb (by simp [kes, Instr.findNow, Instr.sameNow, ne h0, ne h1])
  · by_cases h0 : op = 7
    · subst h0; exact lookup_is W b _ c 7 0 (fv 86) hb rfl
    by_cases h1 : op = 8
    · subst h1; exact lookup_is W b _ c 8 1 (fv 87) hb rfl
    by_cases h2 : op = 9
    · subst h2; exact lookup_is W b _ c 9 2 (fv 88) hb rfl
    have e : opFn 4 op = none := by simp [opFn, h0, h1, h2]
    rw [e]
    exact lookup_no W b _ c op hb (by simp [kes, Instr.findNow, Instr.sameNow, ne h0, ne h1, ne h2])

theorem res49 (tmps : Array Value) (W : World) (Z : Nat) (k n : Int) (l : List UInt8) (v9 v10 v11 : Value) (h : StAt W Z k n l) (h2 : tmps.getD 8 undef = .pointer (some ⟨Z, 0, none⟩)) (h3 : tmps.getD 9 undef = v9) (h4 : tmps.getD 10 undef = v10) (h5 : tmps.getD 11 undef = v11) : (results Tryz.f49 tmps).run Tryz.prog W = .ok (.tuple #[stv k n l, v9, v10, v11]) W := by
  have hl := load_st h
  clear h
  have h2' : tmps[8]?.getD undef = .pointer (some ⟨Z, 0, none⟩) := by simpa using h2
  have h3' : tmps[9]?.getD undef = v9 := by simpa using h3
  have h4' : tmps[10]?.getD undef = v10 := by simpa using h4
  have h5' : tmps[11]?.getD undef = v11 := by simpa using h5
  simp [results, Tryz.results49, h2', h3', h4', h5', asAddr, hl]
/-- An error. -/
abbrev errE (T : TypeId) (er : Nat → Addr) (n : Nat) : Value := .iface T (.pointer (some (er n)))
/-- What Do answers. -/
def DoIs (k n : Int) (L : List UInt8) (op key val : Int) (v : Value) (w : World) : Prop :=
  Calls Tryz.prog 49 #[stv k n L, .int .i64 op, .int .i64 key, .int .i64 val] w fun e w' => e = .returned v ∧ Hid (Below w.heap.size w w')

set_option maxRecDepth 100000 in
set_option maxHeartbeats 1000000 in
theorem do_noop (k n : Int) (hk : 1 ≤ k ∧ k ≤ 4) (L : List UInt8) (op key val : Int) (hop : opFn k op = none) (w : World) (hG : Glob T er w) : DoIs k n L op key val (.tuple #[stv 0 0 [], .int .i64 0, .int .i64 0, errE T er 0]) w := by
  have HG := Lib.hid hG
  clear hG
  have Ho := Lib.hid (fun W => ops_any k hk W)
  have Hlk := Lib.hid (fun W b c (hb : W.heap[b]? = some (.map (kes k) c)) => look_kes k op hk W b c hb)
  rw [hop] at Hlk
  clear hop hk
  have hB := boxes_new w k n L
  generalize hW : (w.alloc (.cells #[.int .i64 k, .int .i64 n, tv L] 34)).alloc (.cells #[.int .i64 0, .int .i64 0, .string ⟨#[]⟩] 34) = W at hB
  have HB := Lib.hid hB
  obtain ⟨c0, c1, c2, fr⟩ := hB.box
  obtain ⟨d0, d1, d2, fz⟩ := hB.out
  clear hB
  have HGW := Lib.hid (HG.out.below' HB.out.below)
  go_enter Tryz.func49, Tryz.ntmps49
  go_wp2_with (first
    | (go_at_call 64; refine (Ho.out _).mono ?_; rintro e w1 ⟨b, rfl, hb1⟩; have H2 : Hid (Boxes w w1 k n L) := ⟨HB.out.below.trans (hb1.out.1.mono HB.out.below.size), HB.out.box.below' hb1.out.1, HB.out.out.below' hb1.out.1⟩; obtain ⟨cc, hcc⟩ := hb1.out.2; have hl := Hlk.out w1 b cc hcc; simp only [lookV] at hl; have e0 := (HGW.out.below' hb1.out.1).eOp; clear hb1 hcc c0 c1 c2 fr d0 d1 d2 fz; obtain ⟨c0, c1, c2, fr⟩ := H2.out.box; obtain ⟨d0, d1, d2, fz⟩ := H2.out.out))
  refine wp_region_held_drew (S := (fun w' => w'.cell? ⟨2, 0, none⟩ = some (.iface T (.pointer (some (er 0)))))) (by kernel_rfl) e0 (fun hHeld => ?_)
  refine held_take 0 (some 27) ?_ rfl rfl (by kernel_rfl) (by kernel_rfl) (by kernel_rfl) (fun _ _ _ h => h) (by kernel_rfl) ?_ (by assumption) ?_
  rotate_left
  · intro w hSw; (try dsimp only at hSw); go_simp <;> (try with_reducible rfl)
  simp only [Act.put, List.setIfInBounds_toArray, List.set_cons_zero, List.set_cons_succ]
  refine held_take 1 (some 28) ?_ rfl rfl (by kernel_rfl) (by kernel_rfl) (by kernel_rfl) (fun _ _ _ h => h) (by kernel_rfl) ?_ (by assumption) ?_
  rotate_left
  · intro w hSw; (try dsimp only at hSw); go_simp <;> (try with_reducible rfl)
  simp only [Act.put, List.setIfInBounds_toArray, List.set_cons_zero, List.set_cons_succ]
  refine wpAnyH_ready (rs := [2]) (by kernel_rfl) (by simp) (AllReadyH.cons rfl (fun K hK => ?_) AllReadyH.nil)
  go_simp
  refine hK.out _ _ ?_ (fun hHeld => ?_)
  · (try dsimp only); exact (World.cell?_drew ..).trans ((setSt_far w1 (w.heap.size + 1) 0 0 [] 2 0 (by have := HG.out.size; omega)).trans e0)
  clear hK K
  try simp only [Act.put, List.setIfInBounds_toArray, List.set_cons_zero, List.set_cons_succ]
  refine held_take 3 (some 9) ?_ rfl rfl (by kernel_rfl) (by kernel_rfl) (by kernel_rfl) (fun _ _ _ h => h) (by kernel_rfl) ?_ (by assumption) ?_
  rotate_left
  · intro w hSw; (try dsimp only at hSw); go_simp <;> (try with_reducible rfl)
  simp only [Act.put, List.setIfInBounds_toArray, List.set_cons_zero, List.set_cons_succ]
  refine held_take 4 (some 10) ?_ rfl rfl (by kernel_rfl) (by kernel_rfl) (by kernel_rfl) (fun _ _ _ h => h) (by kernel_rfl) ?_ (by assumption) ?_
  rotate_left
  · intro w hSw; (try dsimp only at hSw); go_simp <;> (try with_reducible rfl)
  simp only [Act.put, List.setIfInBounds_toArray, List.set_cons_zero, List.set_cons_succ]
  refine held_take 5 (some 11) ?_ rfl rfl (by kernel_rfl) (by kernel_rfl) (by kernel_rfl) (fun _ _ _ h => h) (by kernel_rfl) ?_ (by assumption) ?_
  rotate_left
  · intro w hSw; (try dsimp only at hSw); go_simp <;> (try with_reducible rfl)
  simp only [Act.put, List.setIfInBounds_toArray, List.set_cons_zero, List.set_cons_succ]
  refine wpAnyH_done (by kernel_rfl) ?_ _
  go_wp2
  exact bodyPost_ret (res49 _ _ (w.heap.size + 1) 0 0 [] _ _ _ H2.out.out.set.drew rfl rfl rfl rfl) rfl ⟨rfl, below_drew (setSt_below H2.out.below (by omega) _ _ _)⟩
end Go.Proofs.YtcjfcomadcebnaaGreatDoor
