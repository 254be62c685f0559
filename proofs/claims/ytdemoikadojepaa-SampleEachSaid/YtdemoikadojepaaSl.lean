/- Get of the program and of the document, by contracts. -/
import Derived.Test.YtdemoikadojepaaSk
import Derived.Laws.ResultCell
namespace Go.Proofs.Ytdemoikadojepaa
open Go.RowKit Go.Maps Go.WideMaps Go.WideElems Go.ChangeShapes Go.WideShapes

abbrev staleT : ByteArray := ⟨#[115, 116, 97, 108, 101]⟩
abbrev tornT : ByteArray := ⟨#[116, 111, 114, 110]⟩
abbrev earlyT : ByteArray := ⟨#[101, 97, 114, 108, 121]⟩
abbrev plainT : ByteArray := ⟨#[112, 108, 97, 105, 110]⟩

theorem results_row_tmp {P : Program} {fn : Func} {p u : Tmp} {ty : TypeId} (h : fn.results = #[.cell p ty, .tmp u]) (tmps : Array Value) (w : World) (g : Nat) (t : TypeId) (cs : Array Value) (fr : Nat × Nat) (d : TypeDesc)
    (hp : tmps.getD p undef = .pointer (some ⟨g, 0, none⟩)) (hg : w.heap[g]? = some (.cells cs t fr))
    (hu : P.underlying ty = some d) (hd : (match d with | .struct _ | .array _ _ => true | _ => false) = true) (hi : (P.info? ty).map (·.size) = some cs.size) :
    (results fn tmps).run P w = .ok (.tuple #[.agg cs, tmps.getD u undef]) w := by
  rw [results_cell_tmp h, hp]
  simp [asAddr, run_loadVar_row w g t ty cs fr d hg hu hd hi, Result.andThen]
theorem under56 : Try.prog.underlying 56 = some (.map 9 54) := by kernel_rfl
theorem under9s : Try.prog.underlying 9 = some .string := by kernel_rfl
theorem check_str (w : World) (b : Bool) (k : ByteArray) : (Instr.checkKey b 10000 9 (.string k)).run Try.prog w = .ok () w := by
  show (Instr.checkKey b (9999 + 1) 9 (.string k)).run Try.prog w = _
  unfold Instr.checkKey
  simp [run_underlying under9s]
theorem find_str (w : World) (es : List MapEntry) (k : ByteArray) (r : Option (Nat × Value)) (h : Instr.findNow .string (.string k) es 0 = some r) : (Instr.findKey 9 (.string k) es).run Try.prog w = .ok r w := by
  unfold Instr.findKey
  simp [run_underlying under9s, h]
/-- A text is laid as key into a map that has just been made. -/
theorem insert_new (w : World) (es : Array MapEntry) (c : Nat) (k : ByteArray) (v : Value) (h : Instr.findNow .string (.string k) es.toList 0 = some none) :
    (Instr.mapUpdate 56 (.map (some w.heap.size)) (.string k) v).run Try.prog (w.alloc (.map es c)) = .ok () (w.alloc (.map (es.push ⟨.string k, v, c⟩) (c + 1))) := by
  have hb : (w.alloc (.map es c)).heap[w.heap.size]? = some (.map es c) := Array.getElem?_push_size
  simp [Instr.mapUpdate, run_underlying under56, MapKept.run_getObj_map hb, check_str, find_str _ _ _ _ h, MapKept.run_setObj_map _ hb, Result.andThen]
  simp only [World.alloc, Array.setIfInBounds_def]
  rw [dif_pos (by simp)]
  congr 1
  apply Array.ext'
  simp
theorem lookup_is (W : World) (b : Nat) (es : Array MapEntry) (c : Nat) (k : ByteArray) (i : Nat) (v : Value) (hb : W.heap[b]? = some (.map es c)) (h : Instr.findNow .string (.string k) es.toList 0 = some (some (i, v))) :
    (Instr.lookup 56 (.map (some b)) (.string k) true).run Try.prog W = .ok (.tuple #[v, .bool true]) W := by
  simp [Instr.lookup, run_underlying under56, MapKept.run_getObj_map hb, check_str, find_str _ _ _ _ h, Result.andThen]
theorem lookup_no (W : World) (b : Nat) (es : Array MapEntry) (c : Nat) (k : ByteArray) (hb : W.heap[b]? = some (.map es c)) (h : Instr.findNow .string (.string k) es.toList 0 = some none) :
    (Instr.lookup 56 (.map (some b)) (.string k) true).run Try.prog W = .ok (.tuple #[.nilFunc, .bool false]) W := by
  have hz : ∀ w : World, (zeroValue 54).run Try.prog w = .ok .nilFunc w := fun w => by kernel_rfl
  simp [Instr.lookup, run_underlying under56, MapKept.run_getObj_map hb, check_str, find_str _ _ _ _ h, hz, Result.andThen]
/-- A function that stands in a map's entry. -/
abbrev fv (g : Nat) : Value := .func (.func g) #[] #[]
def mes : Array MapEntry := #[⟨.string staleT, fv 42, 0⟩, ⟨.string tornT, fv 43, 1⟩, ⟨.string earlyT, fv 44, 2⟩, ⟨.string plainT, fv 45, 3⟩]

set_option maxHeartbeats 1000000 in
theorem makers_any (w : World) : Calls Try.prog 21 #[] w fun e w' => ∃ b, e = .returned (.map (some b)) ∧ Hid (Below w.heap.size w w' ∧ ∃ c, w'.heap[b]? = some (.map mes c)) := by
  have I0 : ∀ w : World, (Instr.mapUpdate 56 (.map (some w.heap.size)) (.string staleT) (fv 42)).run Try.prog (w.alloc (.map #[] 0)) = .ok () (w.alloc (.map #[⟨.string staleT, fv 42, 0⟩] 1)) := fun w => insert_new w #[] 0 staleT (fv 42) rfl
  have I1 : ∀ w : World, (Instr.mapUpdate 56 (.map (some w.heap.size)) (.string tornT) (fv 43)).run Try.prog (w.alloc (.map #[⟨.string staleT, fv 42, 0⟩] 1)) = .ok () (w.alloc (.map #[⟨.string staleT, fv 42, 0⟩, ⟨.string tornT, fv 43, 1⟩] 2)) := fun w => insert_new w #[⟨.string staleT, fv 42, 0⟩] 1 tornT (fv 43) rfl
  have I2 : ∀ w : World, (Instr.mapUpdate 56 (.map (some w.heap.size)) (.string earlyT) (fv 44)).run Try.prog (w.alloc (.map #[⟨.string staleT, fv 42, 0⟩, ⟨.string tornT, fv 43, 1⟩] 2)) = .ok () (w.alloc (.map #[⟨.string staleT, fv 42, 0⟩, ⟨.string tornT, fv 43, 1⟩, ⟨.string earlyT, fv 44, 2⟩] 3)) := fun w => insert_new w #[⟨.string staleT, fv 42, 0⟩, ⟨.string tornT, fv 43, 1⟩] 2 earlyT (fv 44) rfl
  have I3 : ∀ w : World, (Instr.mapUpdate 56 (.map (some w.heap.size)) (.string plainT) (fv 45)).run Try.prog (w.alloc (.map #[⟨.string staleT, fv 42, 0⟩, ⟨.string tornT, fv 43, 1⟩, ⟨.string earlyT, fv 44, 2⟩] 3)) = .ok () (w.alloc (.map #[⟨.string staleT, fv 42, 0⟩, ⟨.string tornT, fv 43, 1⟩, ⟨.string earlyT, fv 44, 2⟩, ⟨.string plainT, fv 45, 3⟩] 4)) := fun w => insert_new w #[⟨.string staleT, fv 42, 0⟩, ⟨.string tornT, fv 43, 1⟩, ⟨.string earlyT, fv 44, 2⟩] 3 plainT (fv 45) rfl
  have hmm := @run_makeMap Try.prog
  go_enter Try.func21, Try.ntmps21
  go_wp2
  go_ret
  exact ⟨_, rfl, (Below.refl _ _).alloc (Nat.le_refl _) _, _, Array.getElem?_push_size⟩

/-- What a name names. -/
inductive Named : ByteArray → Nat → Nat → List Int → List Int → Bool → Prop
  | stale : Named staleT 1 10 staleO staleE true
  | torn : Named tornT 2 14 tornO tornE true
  | early : Named earlyT 1 10 earlyO earlyE true
  | plain : Named plainT 4 25 plainO plainE true
  | none (s : ByteArray) : s ≠ staleT → s ≠ tornT → s ≠ earlyT → s ≠ plainT → Named s 0 0 [] [] false
theorem named_ex (s : ByteArray) : ∃ no n O F b, Named s no n O F b := by
  by_cases h0 : s = staleT
  · subst h0; exact ⟨_, _, _, _, _, .stale⟩
  by_cases h1 : s = tornT
  · subst h1; exact ⟨_, _, _, _, _, .torn⟩
  by_cases h2 : s = earlyT
  · subst h2; exact ⟨_, _, _, _, _, .early⟩
  by_cases h3 : s = plainT
  · subst h3; exact ⟨_, _, _, _, _, .plain⟩
  exact ⟨_, _, _, _, _, .none s h0 h1 h2 h3⟩
/-- What a call gives that answers a history, and whether there is one. -/
def GetRes (no n : Nat) (O F : List Int) (b : Bool) (w : World) (e : Ending) (w' : World) : Prop :=
  ∃ vo v, e = .returned (.tuple #[.agg #[vo, v], .bool b]) ∧ Hid (HistAt w.heap.size vo v no n O F w' ∧ Below w.heap.size w w')
theorem hist_nil (w : World) : HistAt w.heap.size (.slice none 0 0) (.slice none 0 0) 0 0 [] [] w := ⟨Nat.le_refl _, World.ownsRow_nil _ _ _ _, World.ownsRow_nil _ _ _ _, fun k hk => by simp [Value.ownBlock] at hk⟩
/-- A history that was made, laid into the result's box. -/
theorem get_end {r no n : Nat} {O F : List Int} {vo v : Value} {w w1 w3 : World} (hr : w.heap.size ≤ r) (hrl : r < w1.heap.size) (h1 : Below w.heap.size w w1) (h : HistAt w1.heap.size vo v no n O F w3) (h3 : Below w1.heap.size w1 w3) :
    HistAt w.heap.size vo v no n O F ((w3.setCell ⟨r, 0, none⟩ vo).setCell ⟨r, 1, none⟩ v) ∧ Below w.heap.size w ((w3.setCell ⟨r, 0, none⟩ vo).setCell ⟨r, 1, none⟩ v) := by
  have hb := ((h1.trans (h3.mono h1.size)).setCell (p := ⟨r, 0, none⟩) hr vo).setCell (p := ⟨r, 1, none⟩) hr v
  exact ⟨⟨hb.size, row_base (ownsRow_setCell_below (ownsRow_setCell_below h.obj hrl _) hrl _) h1.size, row_base (ownsRow_setCell_below (ownsRow_setCell_below h.evs hrl _) hrl _) h1.size, h.apart⟩, hb⟩

set_option maxHeartbeats 1000000 in
theorem get_stale (w : World) : Calls Try.prog 7 #[.string staleT] w (GetRes 1 10 staleO staleE true w) := by
  obtain ⟨W1, hW1, Hb1, hs1, Hr1⟩ := cells_new w #[.slice none 0 0, .slice none 0 0] 26
  go_enter Try.func7, Try.ntmps7
  go_wp2_with (first
    | (go_at_call 21; refine (makers_any W1).mono ?_; rintro e w2 ⟨b, rfl, h2⟩
       obtain ⟨c, hc⟩ := h2.out.2
       have L := lookup_is w2 b mes c staleT 0 (fv 42) hc rfl
       have Hb2 : Hid (Below W1.heap.size W1 w2) := h2.out.1
       clear h2 hc)
    | (go_at_call 42; refine (stale_any _).mono ?_; rintro e w3 ⟨vo, v, rfl, h3⟩
       obtain ⟨ao, co, rfl, -, -⟩ := row_sl h3.out.1.obj
       obtain ⟨a6, c6, rfl, -, -⟩ := row_sl h3.out.1.evs
       have HR := Lib.hid (((Hb2.out.trans (h3.out.2.mono Hb2.out.size)).block w.heap.size hs1.out).trans Hr1.out)
       obtain ⟨⟨r0, r1⟩, r2, r3⟩ := pair_facts HR.out (.slice ao 1 co)))
  have Hend := Lib.hid (get_end (Nat.le_refl _) (Nat.lt_of_lt_of_le hs1.out Hb2.out.size) (Hb1.out.trans (Hb2.out.mono Hb1.out.size)) h3.out.1 h3.out.2)
  refine bodyPost_ret (results_row_tmp rfl _ _ w.heap.size 26 #[.slice ao 1 co, .slice a6 10 c6] (0, 0) _ rfl (set_pair HR.out) Try.underlying26 rfl (by kernel_rfl)) rfl ?_
  exact ⟨_, _, rfl, Hend.out⟩

set_option maxHeartbeats 1000000 in
theorem dget_stale (w : World) : Calls Try.prog 8 #[.string staleT] w (GetRes 1 10 staleO staleE true w) := by
  obtain ⟨W1, hW1, Hb1, hs1, Hr1⟩ := cells_new w #[.slice none 0 0, .slice none 0 0] 26
  go_enter Try.func8, Try.ntmps8
  go_wp2_with (first
    | (go_at_call 22; refine (dstale_any _).mono ?_; rintro e w3 ⟨vo, v, rfl, h3⟩
       obtain ⟨ao, co, rfl, -, -⟩ := row_sl h3.out.1.obj
       obtain ⟨a6, c6, rfl, -, -⟩ := row_sl h3.out.1.evs
       have HR := Lib.hid ((h3.out.2.block w.heap.size hs1.out).trans Hr1.out)
       obtain ⟨⟨r0, r1⟩, r2, r3⟩ := pair_facts HR.out (.slice ao 1 co)))
  have Hend := Lib.hid (get_end (Nat.le_refl _) hs1.out Hb1.out h3.out.1 h3.out.2)
  refine bodyPost_ret (results_row_tmp rfl _ _ w.heap.size 26 #[.slice ao 1 co, .slice a6 10 c6] (0, 0) _ rfl (set_pair HR.out) Try.underlying26 rfl (by kernel_rfl)) rfl ?_
  exact ⟨_, _, rfl, Hend.out⟩

set_option maxHeartbeats 1000000 in
theorem get_torn (w : World) : Calls Try.prog 7 #[.string tornT] w (GetRes 2 14 tornO tornE true w) := by
  obtain ⟨W1, hW1, Hb1, hs1, Hr1⟩ := cells_new w #[.slice none 0 0, .slice none 0 0] 26
  go_enter Try.func7, Try.ntmps7
  go_wp2_with (first
    | (go_at_call 21; refine (makers_any W1).mono ?_; rintro e w2 ⟨b, rfl, h2⟩
       obtain ⟨c, hc⟩ := h2.out.2
       have L := lookup_is w2 b mes c tornT 1 (fv 43) hc rfl
       have Hb2 : Hid (Below W1.heap.size W1 w2) := h2.out.1
       clear h2 hc)
    | (go_at_call 43; refine (torn_any _).mono ?_; rintro e w3 ⟨vo, v, rfl, h3⟩
       obtain ⟨ao, co, rfl, -, -⟩ := row_sl h3.out.1.obj
       obtain ⟨a6, c6, rfl, -, -⟩ := row_sl h3.out.1.evs
       have HR := Lib.hid (((Hb2.out.trans (h3.out.2.mono Hb2.out.size)).block w.heap.size hs1.out).trans Hr1.out)
       obtain ⟨⟨r0, r1⟩, r2, r3⟩ := pair_facts HR.out (.slice ao 2 co)))
  have Hend := Lib.hid (get_end (Nat.le_refl _) (Nat.lt_of_lt_of_le hs1.out Hb2.out.size) (Hb1.out.trans (Hb2.out.mono Hb1.out.size)) h3.out.1 h3.out.2)
  refine bodyPost_ret (results_row_tmp rfl _ _ w.heap.size 26 #[.slice ao 2 co, .slice a6 14 c6] (0, 0) _ rfl (set_pair HR.out) Try.underlying26 rfl (by kernel_rfl)) rfl ?_
  exact ⟨_, _, rfl, Hend.out⟩

set_option maxHeartbeats 1000000 in
theorem dget_torn (w : World) : Calls Try.prog 8 #[.string tornT] w (GetRes 2 14 tornO tornE true w) := by
  obtain ⟨W1, hW1, Hb1, hs1, Hr1⟩ := cells_new w #[.slice none 0 0, .slice none 0 0] 26
  go_enter Try.func8, Try.ntmps8
  go_wp2_with (first
    | (go_at_call 23; refine (dtorn_any _).mono ?_; rintro e w3 ⟨vo, v, rfl, h3⟩
       obtain ⟨ao, co, rfl, -, -⟩ := row_sl h3.out.1.obj
       obtain ⟨a6, c6, rfl, -, -⟩ := row_sl h3.out.1.evs
       have HR := Lib.hid ((h3.out.2.block w.heap.size hs1.out).trans Hr1.out)
       obtain ⟨⟨r0, r1⟩, r2, r3⟩ := pair_facts HR.out (.slice ao 2 co)))
  have Hend := Lib.hid (get_end (Nat.le_refl _) hs1.out Hb1.out h3.out.1 h3.out.2)
  refine bodyPost_ret (results_row_tmp rfl _ _ w.heap.size 26 #[.slice ao 2 co, .slice a6 14 c6] (0, 0) _ rfl (set_pair HR.out) Try.underlying26 rfl (by kernel_rfl)) rfl ?_
  exact ⟨_, _, rfl, Hend.out⟩

set_option maxHeartbeats 1000000 in
theorem get_early (w : World) : Calls Try.prog 7 #[.string earlyT] w (GetRes 1 10 earlyO earlyE true w) := by
  obtain ⟨W1, hW1, Hb1, hs1, Hr1⟩ := cells_new w #[.slice none 0 0, .slice none 0 0] 26
  go_enter Try.func7, Try.ntmps7
  go_wp2_with (first
    | (go_at_call 21; refine (makers_any W1).mono ?_; rintro e w2 ⟨b, rfl, h2⟩
       obtain ⟨c, hc⟩ := h2.out.2
       have L := lookup_is w2 b mes c earlyT 2 (fv 44) hc rfl
       have Hb2 : Hid (Below W1.heap.size W1 w2) := h2.out.1
       clear h2 hc)
    | (go_at_call 44; refine (early_any _).mono ?_; rintro e w3 ⟨vo, v, rfl, h3⟩
       obtain ⟨ao, co, rfl, -, -⟩ := row_sl h3.out.1.obj
       obtain ⟨a6, c6, rfl, -, -⟩ := row_sl h3.out.1.evs
       have HR := Lib.hid (((Hb2.out.trans (h3.out.2.mono Hb2.out.size)).block w.heap.size hs1.out).trans Hr1.out)
       obtain ⟨⟨r0, r1⟩, r2, r3⟩ := pair_facts HR.out (.slice ao 1 co)))
  have Hend := Lib.hid (get_end (Nat.le_refl _) (Nat.lt_of_lt_of_le hs1.out Hb2.out.size) (Hb1.out.trans (Hb2.out.mono Hb1.out.size)) h3.out.1 h3.out.2)
  refine bodyPost_ret (results_row_tmp rfl _ _ w.heap.size 26 #[.slice ao 1 co, .slice a6 10 c6] (0, 0) _ rfl (set_pair HR.out) Try.underlying26 rfl (by kernel_rfl)) rfl ?_
  exact ⟨_, _, rfl, Hend.out⟩

set_option maxHeartbeats 1000000 in
theorem dget_early (w : World) : Calls Try.prog 8 #[.string earlyT] w (GetRes 1 10 earlyO earlyE true w) := by
  obtain ⟨W1, hW1, Hb1, hs1, Hr1⟩ := cells_new w #[.slice none 0 0, .slice none 0 0] 26
  go_enter Try.func8, Try.ntmps8
  go_wp2_with (first
    | (go_at_call 24; refine (dearly_any _).mono ?_; rintro e w3 ⟨vo, v, rfl, h3⟩
       obtain ⟨ao, co, rfl, -, -⟩ := row_sl h3.out.1.obj
       obtain ⟨a6, c6, rfl, -, -⟩ := row_sl h3.out.1.evs
       have HR := Lib.hid ((h3.out.2.block w.heap.size hs1.out).trans Hr1.out)
       obtain ⟨⟨r0, r1⟩, r2, r3⟩ := pair_facts HR.out (.slice ao 1 co)))
  have Hend := Lib.hid (get_end (Nat.le_refl _) hs1.out Hb1.out h3.out.1 h3.out.2)
  refine bodyPost_ret (results_row_tmp rfl _ _ w.heap.size 26 #[.slice ao 1 co, .slice a6 10 c6] (0, 0) _ rfl (set_pair HR.out) Try.underlying26 rfl (by kernel_rfl)) rfl ?_
  exact ⟨_, _, rfl, Hend.out⟩

set_option maxHeartbeats 1000000 in
theorem get_plain (w : World) : Calls Try.prog 7 #[.string plainT] w (GetRes 4 25 plainO plainE true w) := by
  obtain ⟨W1, hW1, Hb1, hs1, Hr1⟩ := cells_new w #[.slice none 0 0, .slice none 0 0] 26
  go_enter Try.func7, Try.ntmps7
  go_wp2_with (first
    | (go_at_call 21; refine (makers_any W1).mono ?_; rintro e w2 ⟨b, rfl, h2⟩
       obtain ⟨c, hc⟩ := h2.out.2
       have L := lookup_is w2 b mes c plainT 3 (fv 45) hc rfl
       have Hb2 : Hid (Below W1.heap.size W1 w2) := h2.out.1
       clear h2 hc)
    | (go_at_call 45; refine (plain_any _).mono ?_; rintro e w3 ⟨vo, v, rfl, h3⟩
       obtain ⟨ao, co, rfl, -, -⟩ := row_sl h3.out.1.obj
       obtain ⟨a6, c6, rfl, -, -⟩ := row_sl h3.out.1.evs
       have HR := Lib.hid (((Hb2.out.trans (h3.out.2.mono Hb2.out.size)).block w.heap.size hs1.out).trans Hr1.out)
       obtain ⟨⟨r0, r1⟩, r2, r3⟩ := pair_facts HR.out (.slice ao 4 co)))
  have Hend := Lib.hid (get_end (Nat.le_refl _) (Nat.lt_of_lt_of_le hs1.out Hb2.out.size) (Hb1.out.trans (Hb2.out.mono Hb1.out.size)) h3.out.1 h3.out.2)
  refine bodyPost_ret (results_row_tmp rfl _ _ w.heap.size 26 #[.slice ao 4 co, .slice a6 25 c6] (0, 0) _ rfl (set_pair HR.out) Try.underlying26 rfl (by kernel_rfl)) rfl ?_
  exact ⟨_, _, rfl, Hend.out⟩

set_option maxHeartbeats 1000000 in
theorem dget_plain (w : World) : Calls Try.prog 8 #[.string plainT] w (GetRes 4 25 plainO plainE true w) := by
  obtain ⟨W1, hW1, Hb1, hs1, Hr1⟩ := cells_new w #[.slice none 0 0, .slice none 0 0] 26
  go_enter Try.func8, Try.ntmps8
  go_wp2_with (first
    | (go_at_call 25; refine (dplain_any _).mono ?_; rintro e w3 ⟨vo, v, rfl, h3⟩
       obtain ⟨ao, co, rfl, -, -⟩ := row_sl h3.out.1.obj
       obtain ⟨a6, c6, rfl, -, -⟩ := row_sl h3.out.1.evs
       have HR := Lib.hid ((h3.out.2.block w.heap.size hs1.out).trans Hr1.out)
       obtain ⟨⟨r0, r1⟩, r2, r3⟩ := pair_facts HR.out (.slice ao 4 co)))
  have Hend := Lib.hid (get_end (Nat.le_refl _) hs1.out Hb1.out h3.out.1 h3.out.2)
  refine bodyPost_ret (results_row_tmp rfl _ _ w.heap.size 26 #[.slice ao 4 co, .slice a6 25 c6] (0, 0) _ rfl (set_pair HR.out) Try.underlying26 rfl (by kernel_rfl)) rfl ?_
  exact ⟨_, _, rfl, Hend.out⟩
end Go.Proofs.Ytdemoikadojepaa
