/- Valid, by a contract. -/
import Derived.Test.YtciajjjigigidaaDoorEy
namespace Go.Proofs.YtciajjjigigidaaDoor
open Go.RowKit Go.Maps Go.WideMaps Go.WideElems Go.ChangeShapes Go.WideShapes

variable {T : TypeId} {er : Nat → Addr}

/-- The i-th part. -/
abbrev pth (ps : List (Nat × Nat)) (i : Nat) : Nat × Nat := ps.getD i (0, 0)
theorem pth_lt {k : Int} {i : Nat} (h : i < (partsL k).length) : (pth (partsL k) i).1 < 7 ∧ (pth (partsL k) i).2 < 4 := by
  unfold pth
  have e : (partsL k).getD i (0, 0) = (partsL k)[i] := by simp [h]
  rw [e]
  exact partsL_lt k _ (List.getElem_mem h)

/-- The cells of a part's box. -/
theorem box_cells (w : World) (f : Nat) (v : Value) : (w.alloc (.cells #[.int .i64 f, v] 64)).cell? ⟨w.heap.size, 0, none⟩ = some (.int .i64 f) ∧ (w.alloc (.cells #[.int .i64 f, v] 64)).cell? ⟨w.heap.size, 1, none⟩ = some v := by
  rw [World.cell?_alloc_new, World.cell?_alloc_new]
  exact ⟨rfl, rfl⟩

/-- The cells that a round reads: of the part, of the event, of the field. -/
theorem rd_of {W : World} {Q B c : Nat} {e : Ev} {f : Nat} {v : Value} (hb : W.cell? ⟨Q, 0, none⟩ = some (.int .i64 f) ∧ W.cell? ⟨Q, 1, none⟩ = some v) (he : EvAt W B e) (hc : c < 8) :
    W.cell? ⟨Q, 0, none⟩ = some (.int .i64 f) ∧ W.cell? ⟨Q, 1, none⟩ = some v ∧ W.cell? ⟨B, 0, none⟩ = some (.int .i64 e.kind) ∧ W.cell? ⟨B, 1, none⟩ = some (.int .i64 e.tx) ∧ W.cell? ⟨B, 2, none⟩ = some (.int .i64 e.thread) ∧ W.cell? ⟨B, 3, none⟩ = some (.int .i64 e.obj) ∧ W.cell? ⟨B, 4, none⟩ = some (.int .i64 e.op) ∧ W.cell? ⟨B, 5, none⟩ = some (.int .i64 e.key) ∧ W.cell? ⟨B, 6, none⟩ = some (.int .i64 e.val) ∧ W.cell? ⟨B, 7, none⟩ = some (.int .i64 e.ret) ∧ W.cell? ⟨B, c, none⟩ = some (.int .i64 (e.at c)) :=
  ⟨hb.1, hb.2, he.c0, he.c1, he.c2, he.c3, he.c4, he.c5, he.c6, he.c7, he.at c hc⟩
theorem EvAt.drew {w : World} {B : Nat} {e : Ev} (h : EvAt w B e) : EvAt w.drew B e := ⟨h.c0, h.c1, h.c2, h.c3, h.c4, h.c5, h.c6, h.c7⟩
theorem box_below {W w2 : World} {Q : Nat} {a b : Value} (h : W.cell? ⟨Q, 0, none⟩ = some a ∧ W.cell? ⟨Q, 1, none⟩ = some b) (hb : Below W.heap.size W w2) : w2.cell? ⟨Q, 0, none⟩ = some a ∧ w2.cell? ⟨Q, 1, none⟩ = some b := by
  have hQ : Q < W.heap.size := World.block_lt_of_cell? W _ h.1
  exact ⟨(hb.cell (p := ⟨Q, 0, none⟩) hQ).trans h.1, (hb.cell (p := ⟨Q, 1, none⟩) hQ).trans h.2⟩
theorem below_drew {B : Nat} {a w : World} (h : Below B a w) : Below B a w.drew := ⟨h.os, h.tape, h.output, h.size, h.block⟩
theorem Glob.drew {w : World} (h : Glob T er w) : Glob T er w.drew := ⟨h.size, h.eNumber, h.eCode, h.eWords, h.eWord, h.eEvent, h.eObject, h.maxLen, h.eSyntax, h.eRange, h.tab, h.words, h.bounds⟩
theorem fcell_lt (f : Nat) : fcell f < 8 := by unfold fcell; split <;> decide


theorem partsL_len (k : Int) : (partsL k).length ≤ 5 := by
  unfold partsL
  split
  · decide
  split
  · decide
  split
  · decide
  split
  · decide
  · decide

/-- An error, by its number; 0: none. -/
def errV (T : TypeId) (er : Nat → Addr) : Nat → Value
  | 0 => .nilIface
  | k => .iface T (.pointer (some (er k)))

theorem take_step {α β : Type} (g : β → α → β) (b : β) {l : List α} {k : Nat} {x : α} (h : l[k]? = some x) : (l.take (k + 1)).foldl g b = g ((l.take k).foldl g b) x := by
  have hk := (List.getElem?_eq_some_iff.1 h)
  obtain ⟨hk, rfl⟩ := hk
  rw [List.take_succ_eq_append_getElem hk, List.foldl_append]
  rfl
theorem any_take_step {α : Type} (g : α → Bool) {l : List α} {k : Nat} {x : α} (h : l[k]? = some x) : (l.take (k + 1)).any g = ((l.take k).any g || g x) := by
  obtain ⟨hk, rfl⟩ := (List.getElem?_eq_some_iff.1 h)
  rw [List.take_succ_eq_append_getElem hk, List.any_append]
  simp
theorem any_of_at {α : Type} (g : α → Bool) {l : List α} {k : Nat} {x : α} (h : l[k]? = some x) (hx : g x = true) : l.any g = true := List.any_eq_true.2 ⟨x, List.mem_of_getElem? h, hx⟩
theorem fold_none (e : Ev) : ∀ l : List (Nat × Nat), l.foldl (vstep e) none = none
  | [] => rfl
  | _ :: l => by rw [List.foldl_cons]; exact fold_none e l
theorem fold_dead (e : Ev) (b : Option Ev) {l : List (Nat × Nat)} {k : Nat} (h : (l.take k).foldl (vstep e) b = none) : l.foldl (vstep e) b = none := by
  rw [← List.take_append_drop k l, List.foldl_append, h, fold_none]
theorem at_get {k : Int} {i : Nat} (h : i < (partsL k).length) : (partsL k)[i]? = some (pth (partsL k) i) := by simp [pth, h]

theorem valid_no (e : Ev) (hk : isKind e.kind = false) (w : World) (hG : Glob T er w) :
    Calls Tryd.prog 31 #[e.agg] w (Makes (errV T er (validN e)) w) := by
  have h' : e.kind < 1 ∨ 7 < e.kind := by unfold isKind at hk; simp at hk; omega
  have Hp := Lib.hid (fun w => partsOf_no e.kind h' w)
  have hal : Below w.heap.size w (w.alloc (.cells #[.int .i64 e.kind, .int .i64 e.tx, .int .i64 e.thread, .int .i64 e.obj, .int .i64 e.op, .int .i64 e.key, .int .i64 e.val, .int .i64 e.ret] 33)) := (Below.refl _ _).alloc (Nat.le_refl _) _
  have Hal := Lib.hid hal
  have HG := Lib.hid hG
  have hv : validN e = 3 := by unfold validN; rw [hk]; rfl
  rw [hv]
  clear hk h' hal hG hv
  go_enter Tryd.func31, Tryd.ntmps31
  go_wp2_with (go_at_call 28; refine (Hp.out _).mono ?_; rintro e1 w1 ⟨rfl, h1⟩; have hb1 := Hal.out.trans (h1.mono Hal.out.size); have c1 := (HG.out.below' hb1).eCode; have Hb1 := Lib.hid hb1; clear hb1 h1)
  go_ret
  exact ⟨rfl, Hb1.out⟩

section
variable {P : Program} {md : Region.Mode} {ops : Array Oper} {Q : Exit → Act → World → Prop} {S : World → Prop} {fuel : Nat} {listed : Array Bool} {a : Act} {w : World}
/-- An operation that is passed over. -/
theorem held_skip (i : Nat) (d : Option Tmp) {oi : Oper} (hi : ops[i]? = some oi) (hd : oi.dst = d) (hs : Region.noSelect ops = true) (hf : Region.free md ops listed i = true) (hr : (Region.ready md ops listed).contains i = true)
    (hQ : ∀ c a w, Q (.panic c) (a.put d undef) w → Q (.panic c) a w) (hw : Region.wanted oi (yielded ops a.tmps) = false) (hS : S w)
    (h : wpAnyH P md ops Q S fuel (listed.setIfInBounds i true) (a.put d undef) w) : wpAnyH P md ops Q S (fuel + 1) listed a w := by
  subst hd
  exact wpAnyH_take hi hs hf hr hQ (Or.inr ⟨hw, rfl⟩) hS h
/-- An operation that yields in every world that meets S. -/
theorem held_take (i : Nat) (d : Option Tmp) (v : Value) {oi : Oper} (hi : ops[i]? = some oi) (hd : oi.dst = d) (hs : Region.noSelect ops = true) (hf : Region.free md ops listed i = true) (hr : (Region.ready md ops listed).contains i = true)
    (hQ : ∀ c a w, Q (.panic c) (a.put d v) w → Q (.panic c) a w) (hw : Region.wanted oi (yielded ops a.tmps) = true) (hy : ∀ w, S w → (execOp a.eval oi).run P w = .ok (.value v) w) (hS : S w)
    (h : wpAnyH P md ops Q S fuel (listed.setIfInBounds i true) (a.put d v) w) : wpAnyH P md ops Q S (fuel + 1) listed a w := by
  subst hd
  exact wpAnyH_take hi hs hf hr hQ (Or.inl ⟨hw, hy⟩) hS h
end

theorem ev_base {r : Ev} {k : Int} (h0 : r.kind = k) (h1 : r.tx = 0) (h2 : r.thread = 0) (h3 : r.obj = 0) (h4 : r.op = 0) (h5 : r.key = 0) (h6 : r.val = 0) (h7 : r.ret = 0) : r = ⟨k, 0, 0, 0, 0, 0, 0, 0⟩ := by
  cases r
  simp_all

/-- An event lies in a block that may be written. -/
structure EvOwn (w : World) (B : Nat) (e : Ev) : Prop where
  ev : EvAt w B e
  free : ∀ i, w.frozen? ⟨B, i, none⟩ = false
theorem EvOwn.below {w w' : World} {B C : Nat} {e : Ev} (h : EvOwn w B e) (hb : Below C w w') (hC : B < C) : EvOwn w' B e :=
  ⟨h.ev.below hb hC, fun i => (hb.frozen (p := ⟨B, i, none⟩) hC).trans (h.free i)⟩
theorem EvOwn.below' {w w' : World} {B : Nat} {e : Ev} (h : EvOwn w B e) (hb : Below w.heap.size w w') : EvOwn w' B e := h.below hb h.ev.lt
theorem EvOwn.drew {w : World} {B : Nat} {e : Ev} (h : EvOwn w B e) : EvOwn w.drew B e := ⟨h.ev.drew, h.free⟩
theorem evOwn_new (w : World) (e : Ev) : EvOwn (w.alloc (.cells #[.int .i64 e.kind, .int .i64 e.tx, .int .i64 e.thread, .int .i64 e.obj, .int .i64 e.op, .int .i64 e.key, .int .i64 e.val, .int .i64 e.ret] 33)) w.heap.size e :=
  ⟨evAt_new w e, fun i => World.frozen?_alloc_new ..⟩
theorem EvOwn.set {w : World} {B c : Nat} {e : Ev} (h : EvOwn w B e) (hc : c < 8) (n : Int) : EvOwn (w.setCell ⟨B, c, none⟩ (.int .i64 n)) B (e.put c n) := by
  refine ⟨?_, fun i => (World.frozen?_setCell ..).trans (h.free i)⟩
  have same : (w.setCell ⟨B, c, none⟩ (.int .i64 n)).cell? ⟨B, c, none⟩ = some (.int .i64 n) := World.cell?_setCell_same _ _ _ (h.ev.at c hc)
  have other : ∀ i, i ≠ c → (w.setCell ⟨B, c, none⟩ (.int .i64 n)).cell? ⟨B, i, none⟩ = w.cell? ⟨B, i, none⟩ := fun i hi => World.cell?_setCell_other _ _ _ _ (by intro h; injection h with _ h2; exact hi h2.symm)
  rcases c with _ | _ | _ | _ | _ | _ | _ | _ | c
  · exact ⟨same, (other 1 (by decide)).trans h.ev.c1, (other 2 (by decide)).trans h.ev.c2, (other 3 (by decide)).trans h.ev.c3, (other 4 (by decide)).trans h.ev.c4, (other 5 (by decide)).trans h.ev.c5, (other 6 (by decide)).trans h.ev.c6, (other 7 (by decide)).trans h.ev.c7⟩
  · exact ⟨(other 0 (by decide)).trans h.ev.c0, same, (other 2 (by decide)).trans h.ev.c2, (other 3 (by decide)).trans h.ev.c3, (other 4 (by decide)).trans h.ev.c4, (other 5 (by decide)).trans h.ev.c5, (other 6 (by decide)).trans h.ev.c6, (other 7 (by decide)).trans h.ev.c7⟩
  · exact ⟨(other 0 (by decide)).trans h.ev.c0, (other 1 (by decide)).trans h.ev.c1, same, (other 3 (by decide)).trans h.ev.c3, (other 4 (by decide)).trans h.ev.c4, (other 5 (by decide)).trans h.ev.c5, (other 6 (by decide)).trans h.ev.c6, (other 7 (by decide)).trans h.ev.c7⟩
  · exact ⟨(other 0 (by decide)).trans h.ev.c0, (other 1 (by decide)).trans h.ev.c1, (other 2 (by decide)).trans h.ev.c2, same, (other 4 (by decide)).trans h.ev.c4, (other 5 (by decide)).trans h.ev.c5, (other 6 (by decide)).trans h.ev.c6, (other 7 (by decide)).trans h.ev.c7⟩
  · exact ⟨(other 0 (by decide)).trans h.ev.c0, (other 1 (by decide)).trans h.ev.c1, (other 2 (by decide)).trans h.ev.c2, (other 3 (by decide)).trans h.ev.c3, same, (other 5 (by decide)).trans h.ev.c5, (other 6 (by decide)).trans h.ev.c6, (other 7 (by decide)).trans h.ev.c7⟩
  · exact ⟨(other 0 (by decide)).trans h.ev.c0, (other 1 (by decide)).trans h.ev.c1, (other 2 (by decide)).trans h.ev.c2, (other 3 (by decide)).trans h.ev.c3, (other 4 (by decide)).trans h.ev.c4, same, (other 6 (by decide)).trans h.ev.c6, (other 7 (by decide)).trans h.ev.c7⟩
  · exact ⟨(other 0 (by decide)).trans h.ev.c0, (other 1 (by decide)).trans h.ev.c1, (other 2 (by decide)).trans h.ev.c2, (other 3 (by decide)).trans h.ev.c3, (other 4 (by decide)).trans h.ev.c4, (other 5 (by decide)).trans h.ev.c5, same, (other 7 (by decide)).trans h.ev.c7⟩
  · exact ⟨(other 0 (by decide)).trans h.ev.c0, (other 1 (by decide)).trans h.ev.c1, (other 2 (by decide)).trans h.ev.c2, (other 3 (by decide)).trans h.ev.c3, (other 4 (by decide)).trans h.ev.c4, (other 5 (by decide)).trans h.ev.c5, (other 6 (by decide)).trans h.ev.c6, same⟩
  · omega

/-- What holds of a round of the first loop, at its part. -/
structure Rd1 (w1 wr : World) (P B : Nat) (ps : List (Nat × Nat)) (k f g : Nat) (e : Ev) (W : World) (Q : Nat) : Prop where
  box : W.cell? ⟨Q, 0, none⟩ = some (.int .i64 f) ∧ W.cell? ⟨Q, 1, none⟩ = some (.func (.func (54 + g)) #[] #[])
  ev : EvAt W B e
  below : Below w1.heap.size w1 W
  lt : Q < W.heap.size

set_option maxRecDepth 100000 in
set_option maxHeartbeats 4000000 in
theorem valid_is (e : Ev) (hk : isKind e.kind = true) (w : World) (hG : Glob T er w) :
    Calls Tryd.prog 31 #[e.agg] w (Makes (errV T er (validN e)) w) := by
  have Hp := Lib.hid (fun w => partsOf_any e.kind hk w)
  have hal : Below w.heap.size w (w.alloc (.cells #[.int .i64 e.kind, .int .i64 e.tx, .int .i64 e.thread, .int .i64 e.obj, .int .i64 e.op, .int .i64 e.key, .int .i64 e.val, .int .i64 e.ret] 33)) := (Below.refl _ _).alloc (Nat.le_refl _) _
  have hev := evAt_new w e
  have Hev := Lib.hid hev
  have Hal := Lib.hid hal
  have HG := Lib.hid hG
  obtain ⟨R, hR⟩ : ∃ R, R = errV T er (validN e) := ⟨_, rfl⟩
  rw [← hR]
  have HR : Hid (((partsL e.kind).any (codeBad e) = true → R = errV T er 3) ∧ ((partsL e.kind).any (codeBad e) = false → R = errV T er (match (partsL e.kind).foldl (vstep e) (some e) with | none => 6 | some r => if r = ⟨e.kind, 0, 0, 0, 0, 0, 0, 0⟩ then 0 else 6))) := by
    refine ⟨fun h => ?_, fun h => ?_⟩
    · rw [hR]; unfold validN; rw [hk, h]; rfl
    · rw [hR]; unfold validN; rw [hk, h]; rfl
  have hpl5 : (partsL e.kind).length ≤ 5 := partsL_len _
  have Hat := Lib.hid (fun i (h : i < (partsL e.kind).length) => And.intro (pth_lt h) (at_get h))
  clear hk hev hal hG hR
  go_enter Tryd.func31, Tryd.ntmps31
  go_wp2_with (go_at_call 28; refine (Hp.out _).mono ?_; rintro e1 w1 ⟨P, rfl, hP0, hP1, hP2⟩)
  have hs0 := Hal.out.size
  have hw1 : Hid (Glob T er w1 ∧ EvAt w1 w.heap.size e ∧ PartsAt w1 P (partsL e.kind) ∧ w.heap.size < w1.heap.size ∧ Below w.heap.size w w1) := by
    have hb := Hal.out.trans (hP2.mono hs0)
    have hev := Hev.out.below' hP2
    exact ⟨HG.out.below' hb, hev, hP1, hev.lt, hb⟩
  clear hP0 hP1 hP2 Hp hs0
  generalize hps : partsL e.kind = ps at *
  clear hps
  go_loopw [22] (fun i wr => ∃ k : Nat, k ≤ ps.length ∧ i = .int .i64 k ∧ Hid (Below w1.heap.size w1 wr ∧ (ps.take k).any (codeBad e) = false)) (fun i _ => ps.length - (intOf i).toNat)
  case atStart => exact ⟨0, Nat.zero_le _, rfl, Below.refl _ _, rfl⟩
  case round =>
    obtain ⟨k, hk, rfl, Hr⟩ := hrel
    by_cases hlt : k < ps.length
    · have hlt7 := (Hat.out k hlt).1
      have hpt := hw1.out.2.2.1.at_below hlt Hr.out.1
      obtain ⟨c0, c1⟩ := hpt
      obtain ⟨f, hf⟩ : ∃ f, (pth ps k).1 = f := ⟨_, rfl⟩
      obtain ⟨g, hg⟩ : ∃ g, (pth ps k).2 = g := ⟨_, rfl⟩
      change wr.cell? _ = some (.int .i64 ((pth ps k).1 : Nat)) at c0
      change wr.cell? _ = some (.func (.func (54 + (pth ps k).2)) #[] #[]) at c1
      rw [hf] at c0 hlt7
      rw [hg] at c1 hlt7
      have hxk : ps[k]? = some (f, g) := by rw [(Hat.out k hlt).2, ← hf, ← hg]
      have Hxk := Lib.hid hxk
      have hwn := whenIs hlt7.2
      have hsz := Hr.out.1.size
      have hR1 : Rd1 w1 wr P w.heap.size ps k f g e (wr.alloc (.cells #[.int .i64 f, .func (.func (54 + g)) #[] #[]] 64)) wr.heap.size := by
        have hboxb : Below wr.heap.size wr (wr.alloc (.cells #[.int .i64 f, .func (.func (54 + g)) #[] #[]] 64)) := (Below.refl _ _).alloc (Nat.le_refl _) _
        exact ⟨box_cells wr f _, (hw1.out.2.1.below' Hr.out.1).below' hboxb, Hr.out.1.trans (hboxb.mono hsz), by simp⟩
      have HR1 := Lib.hid hR1
      have Heg := Lib.hid hwn.eg
      have Hct := Lib.hid hwn.ct
      have Hlt7 := Lib.hid hlt7
      have hgl : Hid (Glob T er (wr.alloc (.cells #[.int .i64 f, .func (.func (54 + g)) #[] #[]] 64))) := hw1.out.1.below' HR1.out.below
      clear hf hg hwn hsz hR1 hlt7 hxk
      go_wp2
      generalize wr.alloc (.cells #[.int .i64 f, .func (.func (54 + g)) #[] #[]] 64) = W at *
      generalize wr.heap.size = Q at *
      have Hrd := Lib.hid (rd_of (c := fcell f) HR1.out.box HR1.out.ev (fcell_lt f))
      by_cases hwb : whenB g e = true
      · have hct : ∀ W, Calls Tryd.prog (54 + g) #[e.agg] W (Makes (.bool true) W) := fun W => by rw [← hwb]; exact Hct.out e W
        have HCt := Lib.hid hct
        have hin := fun W => in_any f Hlt7.out.1 w.heap.size W
        have Hin := Lib.hid hin
        obtain ⟨q0, q1, d0, d1, d2, d3, d4, d5, d6, d7, dc⟩ := Hrd.out
        have eg := Heg.out
        have hcb : codeBad e (f, g) = fnone f (e.at (fcell f)) := by unfold codeBad; rw [hwb]; rfl
        have hno := fun (W1 : World) (hW1 : WordsAt W1) => none_any f Hlt7.out.1 (e.at (fcell f)) W1 hW1
        rw [← hcb] at hno
        have Hno := Lib.hid hno
        obtain ⟨x, hx⟩ : ∃ x, e.at (fcell f) = x := ⟨_, rfl⟩
        obtain ⟨c, hc⟩ : ∃ c, fcell f = c := ⟨_, rfl⟩
        have Hx := Lib.hid (show e.at c = x by rw [← hc]; exact hx)
        rw [hx] at hno dc
        rw [hc] at dc
        have Hno := Lib.hid hno
        have Hc := Lib.hid hc
        have Hin : Hid (∀ W, Calls Tryd.prog 30 #[.int .i64 f, .pointer (some ⟨w.heap.size, 0, none⟩)] W fun e w' => e = .returned (.pointer (some ⟨w.heap.size, c, none⟩)) ∧ W = w') := by rw [← hc]; exact hin
        have Hrd : Hid ((fun w' => w'.cell? ⟨Q, 0, none⟩ = some (.int .i64 f) ∧ w'.cell? ⟨Q, 1, none⟩ = some (.func (.func (54 + g)) #[] #[]) ∧ w'.cell? ⟨w.heap.size, 0, none⟩ = some (.int .i64 e.kind) ∧ w'.cell? ⟨w.heap.size, 1, none⟩ = some (.int .i64 e.tx) ∧ w'.cell? ⟨w.heap.size, 2, none⟩ = some (.int .i64 e.thread) ∧ w'.cell? ⟨w.heap.size, 3, none⟩ = some (.int .i64 e.obj) ∧ w'.cell? ⟨w.heap.size, 4, none⟩ = some (.int .i64 e.op) ∧ w'.cell? ⟨w.heap.size, 5, none⟩ = some (.int .i64 e.key) ∧ w'.cell? ⟨w.heap.size, 6, none⟩ = some (.int .i64 e.val) ∧ w'.cell? ⟨w.heap.size, 7, none⟩ = some (.int .i64 e.ret) ∧ w'.cell? ⟨w.heap.size, c, none⟩ = some (.int .i64 x)) W) := ⟨q0, q1, d0, d1, d2, d3, d4, d5, d6, d7, dc⟩
        clear hct hwb hcb hno hin hx hc
        by_cases hcd : codeBad e (f, g) = true
        · have Hno' : Hid (∀ W1, WordsAt W1 → Calls Tryd.prog 29 #[.int .i64 f, .int .i64 x] W1 fun e w' => e = .returned (.bool true) ∧ W1 = w') := fun W1 h => by rw [← hcd]; exact Hno.out W1 h
          have HRR : Hid (R = errV T er 3) := HR.out.1 (any_of_at _ Hxk.out hcd)
          clear hcd
          refine wp_region_held_drew (S := (fun w' => w'.cell? ⟨Q, 0, none⟩ = some (.int .i64 f) ∧ w'.cell? ⟨Q, 1, none⟩ = some (.func (.func (54 + g)) #[] #[]) ∧ w'.cell? ⟨w.heap.size, 0, none⟩ = some (.int .i64 e.kind) ∧ w'.cell? ⟨w.heap.size, 1, none⟩ = some (.int .i64 e.tx) ∧ w'.cell? ⟨w.heap.size, 2, none⟩ = some (.int .i64 e.thread) ∧ w'.cell? ⟨w.heap.size, 3, none⟩ = some (.int .i64 e.obj) ∧ w'.cell? ⟨w.heap.size, 4, none⟩ = some (.int .i64 e.op) ∧ w'.cell? ⟨w.heap.size, 5, none⟩ = some (.int .i64 e.key) ∧ w'.cell? ⟨w.heap.size, 6, none⟩ = some (.int .i64 e.val) ∧ w'.cell? ⟨w.heap.size, 7, none⟩ = some (.int .i64 e.ret) ∧ w'.cell? ⟨w.heap.size, c, none⟩ = some (.int .i64 x))) (by kernel_rfl) Hrd.out (fun hHeld => ?_)
          refine held_take 0 (some 26) ?_ rfl rfl (by kernel_rfl) (by kernel_rfl) (by kernel_rfl) (fun _ _ _ h => h) (by kernel_rfl) ?_ (by assumption) ?_
          rotate_left
          · intro w hSw; (try dsimp only at hSw); go_simp <;> (try with_reducible rfl)
          simp only [Act.put, List.setIfInBounds_toArray, List.set_cons_zero, List.set_cons_succ]
          refine held_take 1 (some 27) ?_ rfl rfl (by kernel_rfl) (by kernel_rfl) (by kernel_rfl) (fun _ _ _ h => h) (by kernel_rfl) ?_ (by assumption) ?_
          rotate_left
          · intro w hSw; (try dsimp only at hSw); go_simp <;> (try with_reducible rfl)
          simp only [Act.put, List.setIfInBounds_toArray, List.set_cons_zero, List.set_cons_succ]
          refine held_take 2 (some 28) ?_ rfl rfl (by kernel_rfl) (by kernel_rfl) (by kernel_rfl) (fun _ _ _ h => h) (by kernel_rfl) ?_ (by assumption) ?_
          rotate_left
          · intro w hSw; (try dsimp only at hSw); go_simp <;> (try with_reducible rfl)
          simp only [Act.put, List.setIfInBounds_toArray, List.set_cons_zero, List.set_cons_succ]
          refine wpAnyH_ready (rs := [3]) (by kernel_rfl) (by simp) (AllReadyH.cons rfl (fun K hK => ?_) AllReadyH.nil)
          go_simp
          (refine (HCt.out _).mono ?_; rintro e2 w2 ⟨rfl, hb2⟩)
          go_wp2_with fail
          refine hK.out _ _ (by have := (rd_of (box_below (W := W.drew) HR1.out.box hb2) (HR1.out.ev.drew.below' hb2) (fcell_lt f)); rw [Hc.out, Hx.out] at this; exact this) (fun hHeld => ?_)
          clear hK K
          try simp only [Act.put, List.setIfInBounds_toArray, List.set_cons_zero, List.set_cons_succ]
          have hg2 : Hid (Glob T er w2) := hgl.out.drew.below' hb2
          refine held_take 4 (some 30) ?_ rfl rfl (by kernel_rfl) (by kernel_rfl) (by kernel_rfl) (fun _ _ _ h => h) (by kernel_rfl) ?_ (by assumption) ?_
          rotate_left
          · intro w hSw; (try dsimp only at hSw); go_simp <;> (try with_reducible rfl)
          simp only [Act.put, List.setIfInBounds_toArray, List.set_cons_zero, List.set_cons_succ]
          refine held_take 5 (some 31) ?_ rfl rfl (by kernel_rfl) (by kernel_rfl) (by kernel_rfl) (fun _ _ _ h => h) (by kernel_rfl) ?_ (by assumption) ?_
          rotate_left
          · intro w hSw; (try dsimp only at hSw); go_simp <;> (try with_reducible rfl)
          simp only [Act.put, List.setIfInBounds_toArray, List.set_cons_zero, List.set_cons_succ]
          refine held_take 6 (some 32) ?_ rfl rfl (by kernel_rfl) (by kernel_rfl) (by kernel_rfl) (fun _ _ _ h => h) (by kernel_rfl) ?_ (by assumption) ?_
          rotate_left
          · intro w hSw; (try dsimp only at hSw); go_simp <;> (try with_reducible rfl)
          simp only [Act.put, List.setIfInBounds_toArray, List.set_cons_zero, List.set_cons_succ]
          refine held_take 7 (some 33) ?_ rfl rfl (by kernel_rfl) (by kernel_rfl) (by kernel_rfl) (fun _ _ _ h => h) (by kernel_rfl) ?_ (by assumption) ?_
          rotate_left
          · intro w hSw; (try dsimp only at hSw); go_simp <;> (try with_reducible rfl)
          simp only [Act.put, List.setIfInBounds_toArray, List.set_cons_zero, List.set_cons_succ]
          refine held_take 8 (some 34) ?_ rfl rfl (by kernel_rfl) (by kernel_rfl) (by kernel_rfl) (fun _ _ _ h => h) (by kernel_rfl) ?_ (by assumption) ?_
          rotate_left
          · intro w hSw; (try dsimp only at hSw); go_simp <;> (try with_reducible rfl)
          simp only [Act.put, List.setIfInBounds_toArray, List.set_cons_zero, List.set_cons_succ]
          refine wpAnyH_ready (rs := [9]) (by kernel_rfl) (by simp) (AllReadyH.cons rfl (fun K hK => ?_) AllReadyH.nil)
          go_simp
          (go_at_call 30; refine (Hin.out _).mono ?_; rintro e3 w3 ⟨rfl, rfl⟩)
          go_wp2_with fail
          refine hK.out _ _ hHeld (fun hHeld => ?_)
          clear hK K
          try simp only [Act.put, List.setIfInBounds_toArray, List.set_cons_zero, List.set_cons_succ]
          refine held_take 10 (some 36) ?_ rfl rfl (by kernel_rfl) (by kernel_rfl) (by kernel_rfl) (fun _ _ _ h => h) (by kernel_rfl) ?_ (by assumption) ?_
          rotate_left
          · intro w hSw; (try dsimp only at hSw); go_simp <;> (try with_reducible rfl)
          simp only [Act.put, List.setIfInBounds_toArray, List.set_cons_zero, List.set_cons_succ]
          refine held_take 11 (some 37) ?_ rfl rfl (by kernel_rfl) (by kernel_rfl) (by kernel_rfl) (fun _ _ _ h => h) (by kernel_rfl) ?_ (by assumption) ?_
          rotate_left
          · intro w hSw; (try dsimp only at hSw); go_simp <;> (try with_reducible rfl)
          simp only [Act.put, List.setIfInBounds_toArray, List.set_cons_zero, List.set_cons_succ]
          refine wpAnyH_ready (rs := [12]) (by kernel_rfl) (by simp) (AllReadyH.cons rfl (fun K hK => ?_) AllReadyH.nil)
          go_simp
          (go_at_call 29; refine (Hno'.out _ hg2.out.words).mono ?_; rintro e3 w3 ⟨rfl, rfl⟩)
          go_wp2_with fail
          refine hK.out _ _ hHeld (fun hHeld => ?_)
          clear hK K
          try simp only [Act.put, List.setIfInBounds_toArray, List.set_cons_zero, List.set_cons_succ]
          refine held_take 13 (some 39) ?_ rfl rfl (by kernel_rfl) (by kernel_rfl) (by kernel_rfl) (fun _ _ _ h => h) (by kernel_rfl) ?_ (by assumption) ?_
          rotate_left
          · intro w hSw; (try dsimp only at hSw); go_simp <;> (try with_reducible rfl)
          simp only [Act.put, List.setIfInBounds_toArray, List.set_cons_zero, List.set_cons_succ]
          refine wpAnyH_done (by kernel_rfl) ?_ _
          have c1 := hg2.out.eCode
          have Hfin : Hid (Below w.heap.size w w2) := hw1.out.2.2.2.2.trans (((below_drew HR1.out.below).trans (hb2.mono HR1.out.below.size)).mono hw1.out.2.2.2.2.size)
          clear hb2
          go_wp2
          go_ret
          exact ⟨by rw [HRR.out]; rfl, Hfin.out⟩
        · have hcd' : codeBad e (f, g) = false := by simpa using hcd
          have Hno' : Hid (∀ W1, WordsAt W1 → Calls Tryd.prog 29 #[.int .i64 f, .int .i64 x] W1 fun e w' => e = .returned (.bool false) ∧ W1 = w') := fun W1 h => by rw [← hcd']; exact Hno.out W1 h
          have Hcd := Lib.hid hcd'
          clear hcd hcd'
          refine wp_region_held_drew (S := (fun w' => w'.cell? ⟨Q, 0, none⟩ = some (.int .i64 f) ∧ w'.cell? ⟨Q, 1, none⟩ = some (.func (.func (54 + g)) #[] #[]) ∧ w'.cell? ⟨w.heap.size, 0, none⟩ = some (.int .i64 e.kind) ∧ w'.cell? ⟨w.heap.size, 1, none⟩ = some (.int .i64 e.tx) ∧ w'.cell? ⟨w.heap.size, 2, none⟩ = some (.int .i64 e.thread) ∧ w'.cell? ⟨w.heap.size, 3, none⟩ = some (.int .i64 e.obj) ∧ w'.cell? ⟨w.heap.size, 4, none⟩ = some (.int .i64 e.op) ∧ w'.cell? ⟨w.heap.size, 5, none⟩ = some (.int .i64 e.key) ∧ w'.cell? ⟨w.heap.size, 6, none⟩ = some (.int .i64 e.val) ∧ w'.cell? ⟨w.heap.size, 7, none⟩ = some (.int .i64 e.ret) ∧ w'.cell? ⟨w.heap.size, c, none⟩ = some (.int .i64 x))) (by kernel_rfl) Hrd.out (fun hHeld => ?_)
          refine held_take 0 (some 26) ?_ rfl rfl (by kernel_rfl) (by kernel_rfl) (by kernel_rfl) (fun _ _ _ h => h) (by kernel_rfl) ?_ (by assumption) ?_
          rotate_left
          · intro w hSw; (try dsimp only at hSw); go_simp <;> (try with_reducible rfl)
          simp only [Act.put, List.setIfInBounds_toArray, List.set_cons_zero, List.set_cons_succ]
          refine held_take 1 (some 27) ?_ rfl rfl (by kernel_rfl) (by kernel_rfl) (by kernel_rfl) (fun _ _ _ h => h) (by kernel_rfl) ?_ (by assumption) ?_
          rotate_left
          · intro w hSw; (try dsimp only at hSw); go_simp <;> (try with_reducible rfl)
          simp only [Act.put, List.setIfInBounds_toArray, List.set_cons_zero, List.set_cons_succ]
          refine held_take 2 (some 28) ?_ rfl rfl (by kernel_rfl) (by kernel_rfl) (by kernel_rfl) (fun _ _ _ h => h) (by kernel_rfl) ?_ (by assumption) ?_
          rotate_left
          · intro w hSw; (try dsimp only at hSw); go_simp <;> (try with_reducible rfl)
          simp only [Act.put, List.setIfInBounds_toArray, List.set_cons_zero, List.set_cons_succ]
          refine wpAnyH_ready (rs := [3]) (by kernel_rfl) (by simp) (AllReadyH.cons rfl (fun K hK => ?_) AllReadyH.nil)
          go_simp
          (refine (HCt.out _).mono ?_; rintro e2 w2 ⟨rfl, hb2⟩)
          go_wp2_with fail
          refine hK.out _ _ (by have := (rd_of (box_below (W := W.drew) HR1.out.box hb2) (HR1.out.ev.drew.below' hb2) (fcell_lt f)); rw [Hc.out, Hx.out] at this; exact this) (fun hHeld => ?_)
          clear hK K
          try simp only [Act.put, List.setIfInBounds_toArray, List.set_cons_zero, List.set_cons_succ]
          have hg2 : Hid (Glob T er w2) := hgl.out.drew.below' hb2
          refine held_take 4 (some 30) ?_ rfl rfl (by kernel_rfl) (by kernel_rfl) (by kernel_rfl) (fun _ _ _ h => h) (by kernel_rfl) ?_ (by assumption) ?_
          rotate_left
          · intro w hSw; (try dsimp only at hSw); go_simp <;> (try with_reducible rfl)
          simp only [Act.put, List.setIfInBounds_toArray, List.set_cons_zero, List.set_cons_succ]
          refine held_take 5 (some 31) ?_ rfl rfl (by kernel_rfl) (by kernel_rfl) (by kernel_rfl) (fun _ _ _ h => h) (by kernel_rfl) ?_ (by assumption) ?_
          rotate_left
          · intro w hSw; (try dsimp only at hSw); go_simp <;> (try with_reducible rfl)
          simp only [Act.put, List.setIfInBounds_toArray, List.set_cons_zero, List.set_cons_succ]
          refine held_take 6 (some 32) ?_ rfl rfl (by kernel_rfl) (by kernel_rfl) (by kernel_rfl) (fun _ _ _ h => h) (by kernel_rfl) ?_ (by assumption) ?_
          rotate_left
          · intro w hSw; (try dsimp only at hSw); go_simp <;> (try with_reducible rfl)
          simp only [Act.put, List.setIfInBounds_toArray, List.set_cons_zero, List.set_cons_succ]
          refine held_take 7 (some 33) ?_ rfl rfl (by kernel_rfl) (by kernel_rfl) (by kernel_rfl) (fun _ _ _ h => h) (by kernel_rfl) ?_ (by assumption) ?_
          rotate_left
          · intro w hSw; (try dsimp only at hSw); go_simp <;> (try with_reducible rfl)
          simp only [Act.put, List.setIfInBounds_toArray, List.set_cons_zero, List.set_cons_succ]
          refine held_take 8 (some 34) ?_ rfl rfl (by kernel_rfl) (by kernel_rfl) (by kernel_rfl) (fun _ _ _ h => h) (by kernel_rfl) ?_ (by assumption) ?_
          rotate_left
          · intro w hSw; (try dsimp only at hSw); go_simp <;> (try with_reducible rfl)
          simp only [Act.put, List.setIfInBounds_toArray, List.set_cons_zero, List.set_cons_succ]
          refine wpAnyH_ready (rs := [9]) (by kernel_rfl) (by simp) (AllReadyH.cons rfl (fun K hK => ?_) AllReadyH.nil)
          go_simp
          (go_at_call 30; refine (Hin.out _).mono ?_; rintro e3 w3 ⟨rfl, rfl⟩)
          go_wp2_with fail
          refine hK.out _ _ hHeld (fun hHeld => ?_)
          clear hK K
          try simp only [Act.put, List.setIfInBounds_toArray, List.set_cons_zero, List.set_cons_succ]
          refine held_take 10 (some 36) ?_ rfl rfl (by kernel_rfl) (by kernel_rfl) (by kernel_rfl) (fun _ _ _ h => h) (by kernel_rfl) ?_ (by assumption) ?_
          rotate_left
          · intro w hSw; (try dsimp only at hSw); go_simp <;> (try with_reducible rfl)
          simp only [Act.put, List.setIfInBounds_toArray, List.set_cons_zero, List.set_cons_succ]
          refine held_take 11 (some 37) ?_ rfl rfl (by kernel_rfl) (by kernel_rfl) (by kernel_rfl) (fun _ _ _ h => h) (by kernel_rfl) ?_ (by assumption) ?_
          rotate_left
          · intro w hSw; (try dsimp only at hSw); go_simp <;> (try with_reducible rfl)
          simp only [Act.put, List.setIfInBounds_toArray, List.set_cons_zero, List.set_cons_succ]
          refine wpAnyH_ready (rs := [12]) (by kernel_rfl) (by simp) (AllReadyH.cons rfl (fun K hK => ?_) AllReadyH.nil)
          go_simp
          (go_at_call 29; refine (Hno'.out _ hg2.out.words).mono ?_; rintro e3 w3 ⟨rfl, rfl⟩)
          go_wp2_with fail
          refine hK.out _ _ hHeld (fun hHeld => ?_)
          clear hK K
          try simp only [Act.put, List.setIfInBounds_toArray, List.set_cons_zero, List.set_cons_succ]
          refine held_take 13 (some 39) ?_ rfl rfl (by kernel_rfl) (by kernel_rfl) (by kernel_rfl) (fun _ _ _ h => h) (by kernel_rfl) ?_ (by assumption) ?_
          rotate_left
          · intro w hSw; (try dsimp only at hSw); go_simp <;> (try with_reducible rfl)
          simp only [Act.put, List.setIfInBounds_toArray, List.set_cons_zero, List.set_cons_succ]
          refine wpAnyH_done (by kernel_rfl) ?_ _
          have hnew : Below w1.heap.size w1 w2 ∧ (ps.take (k + 1)).any (codeBad e) = false := by
            refine ⟨(below_drew HR1.out.below).trans (hb2.mono HR1.out.below.size), ?_⟩
            rw [any_take_step _ Hxk.out, Hr.out.2, Hcd.out]; rfl
          have Hnew := Lib.hid hnew
          clear hnew hb2
          go_wp2
          go_roundw
          case rel => exact ⟨k + 1, by omega, by go_num, Hnew.out⟩
          case measure => simp [intOf]; omega
      · have hwb' : whenB g e = false := by simpa using hwb
        have hct : ∀ W, Calls Tryd.prog (54 + g) #[e.agg] W (Makes (.bool false) W) := fun W => by rw [← hwb']; exact Hct.out e W
        have HCt := Lib.hid hct
        have Hcb : Hid (codeBad e (f, g) = false) := by show _ = _; unfold codeBad; rw [hwb']; rfl
        obtain ⟨q0, q1, d0, d1, d2, d3, d4, d5, d6, d7, dc⟩ := Hrd.out
        have eg := Heg.out
        clear hct hwb hwb' dc
        refine wp_region_held_drew (S := (fun w' => w'.cell? ⟨Q, 0, none⟩ = some (.int .i64 f) ∧ w'.cell? ⟨Q, 1, none⟩ = some (.func (.func (54 + g)) #[] #[]) ∧ w'.cell? ⟨w.heap.size, 0, none⟩ = some (.int .i64 e.kind) ∧ w'.cell? ⟨w.heap.size, 1, none⟩ = some (.int .i64 e.tx) ∧ w'.cell? ⟨w.heap.size, 2, none⟩ = some (.int .i64 e.thread) ∧ w'.cell? ⟨w.heap.size, 3, none⟩ = some (.int .i64 e.obj) ∧ w'.cell? ⟨w.heap.size, 4, none⟩ = some (.int .i64 e.op) ∧ w'.cell? ⟨w.heap.size, 5, none⟩ = some (.int .i64 e.key) ∧ w'.cell? ⟨w.heap.size, 6, none⟩ = some (.int .i64 e.val) ∧ w'.cell? ⟨w.heap.size, 7, none⟩ = some (.int .i64 e.ret) ∧ w'.cell? ⟨w.heap.size, fcell f, none⟩ = some (.int .i64 (e.at (fcell f))))) (by kernel_rfl) Hrd.out (fun hHeld => ?_)
        refine held_take 0 (some 26) ?_ rfl rfl (by kernel_rfl) (by kernel_rfl) (by kernel_rfl) (fun _ _ _ h => h) (by kernel_rfl) ?_ (by assumption) ?_
        rotate_left
        · intro w hSw; (try dsimp only at hSw); go_simp <;> (try with_reducible rfl)
        simp only [Act.put, List.setIfInBounds_toArray, List.set_cons_zero, List.set_cons_succ]
        refine held_take 1 (some 27) ?_ rfl rfl (by kernel_rfl) (by kernel_rfl) (by kernel_rfl) (fun _ _ _ h => h) (by kernel_rfl) ?_ (by assumption) ?_
        rotate_left
        · intro w hSw; (try dsimp only at hSw); go_simp <;> (try with_reducible rfl)
        simp only [Act.put, List.setIfInBounds_toArray, List.set_cons_zero, List.set_cons_succ]
        refine held_take 2 (some 28) ?_ rfl rfl (by kernel_rfl) (by kernel_rfl) (by kernel_rfl) (fun _ _ _ h => h) (by kernel_rfl) ?_ (by assumption) ?_
        rotate_left
        · intro w hSw; (try dsimp only at hSw); go_simp <;> (try with_reducible rfl)
        simp only [Act.put, List.setIfInBounds_toArray, List.set_cons_zero, List.set_cons_succ]
        refine wpAnyH_ready (rs := [3]) (by kernel_rfl) (by simp) (AllReadyH.cons rfl (fun K hK => ?_) AllReadyH.nil)
        go_simp
        (refine (HCt.out _).mono ?_; rintro e2 w2 ⟨rfl, hb2⟩)
        go_wp2_with fail
        refine hK.out _ _ (rd_of (box_below (W := W.drew) HR1.out.box hb2) (HR1.out.ev.drew.below' hb2) (fcell_lt f)) (fun hHeld => ?_)
        clear hK K
        try simp only [Act.put, List.setIfInBounds_toArray, List.set_cons_zero, List.set_cons_succ]
        refine held_take 4 (some 30) ?_ rfl rfl (by kernel_rfl) (by kernel_rfl) (by kernel_rfl) (fun _ _ _ h => h) (by kernel_rfl) ?_ (by assumption) ?_
        rotate_left
        · intro w hSw; (try dsimp only at hSw); go_simp <;> (try with_reducible rfl)
        simp only [Act.put, List.setIfInBounds_toArray, List.set_cons_zero, List.set_cons_succ]
        refine held_skip 5 (some 31) rfl rfl (by kernel_rfl) (by kernel_rfl) (by kernel_rfl) (fun _ _ _ h => h) (by kernel_rfl) (by assumption) ?_
        simp only [Act.put, List.setIfInBounds_toArray, List.set_cons_zero, List.set_cons_succ]
        refine held_skip 6 (some 32) rfl rfl (by kernel_rfl) (by kernel_rfl) (by kernel_rfl) (fun _ _ _ h => h) (by kernel_rfl) (by assumption) ?_
        simp only [Act.put, List.setIfInBounds_toArray, List.set_cons_zero, List.set_cons_succ]
        refine held_skip 7 (some 33) rfl rfl (by kernel_rfl) (by kernel_rfl) (by kernel_rfl) (fun _ _ _ h => h) (by kernel_rfl) (by assumption) ?_
        simp only [Act.put, List.setIfInBounds_toArray, List.set_cons_zero, List.set_cons_succ]
        refine held_skip 8 (some 34) rfl rfl (by kernel_rfl) (by kernel_rfl) (by kernel_rfl) (fun _ _ _ h => h) (by kernel_rfl) (by assumption) ?_
        simp only [Act.put, List.setIfInBounds_toArray, List.set_cons_zero, List.set_cons_succ]
        refine held_skip 9 (some 35) rfl rfl (by kernel_rfl) (by kernel_rfl) (by kernel_rfl) (fun _ _ _ h => h) (by kernel_rfl) (by assumption) ?_
        simp only [Act.put, List.setIfInBounds_toArray, List.set_cons_zero, List.set_cons_succ]
        refine held_skip 10 (some 36) rfl rfl (by kernel_rfl) (by kernel_rfl) (by kernel_rfl) (fun _ _ _ h => h) (by kernel_rfl) (by assumption) ?_
        simp only [Act.put, List.setIfInBounds_toArray, List.set_cons_zero, List.set_cons_succ]
        refine held_skip 11 (some 37) rfl rfl (by kernel_rfl) (by kernel_rfl) (by kernel_rfl) (fun _ _ _ h => h) (by kernel_rfl) (by assumption) ?_
        simp only [Act.put, List.setIfInBounds_toArray, List.set_cons_zero, List.set_cons_succ]
        refine held_skip 12 (some 38) rfl rfl (by kernel_rfl) (by kernel_rfl) (by kernel_rfl) (fun _ _ _ h => h) (by kernel_rfl) (by assumption) ?_
        simp only [Act.put, List.setIfInBounds_toArray, List.set_cons_zero, List.set_cons_succ]
        refine held_take 13 (some 39) ?_ rfl rfl (by kernel_rfl) (by kernel_rfl) (by kernel_rfl) (fun _ _ _ h => h) (by kernel_rfl) ?_ (by assumption) ?_
        rotate_left
        · intro w hSw; (try dsimp only at hSw); go_simp <;> (try with_reducible rfl)
        simp only [Act.put, List.setIfInBounds_toArray, List.set_cons_zero, List.set_cons_succ]
        refine wpAnyH_done (by kernel_rfl) ?_ _
        have hnew : Below w1.heap.size w1 w2 ∧ (ps.take (k + 1)).any (codeBad e) = false := by
          refine ⟨(below_drew HR1.out.below).trans (hb2.mono HR1.out.below.size), ?_⟩
          rw [any_take_step _ Hxk.out, Hr.out.2, Hcb.out]; rfl
        have Hnew := Lib.hid hnew
        clear hnew
        go_wp2
        go_roundw
        case rel => exact ⟨k + 1, by omega, by go_num, Hnew.out⟩
        case measure => simp [intOf]; omega
    have hkl : k = ps.length := by omega
    subst hkl
    have hr2 := Hr.out.2
    rw [List.take_length] at hr2
    have HR2 := Lib.hid (HR.out.2 hr2)
    have hevr := hw1.out.2.1.below' Hr.out.1
    have hown := evOwn_new wr e
    have hbr : Below wr.heap.size wr (wr.alloc (.cells #[.int .i64 e.kind, .int .i64 e.tx, .int .i64 e.thread, .int .i64 e.obj, .int .i64 e.op, .int .i64 e.key, .int .i64 e.val, .int .i64 e.ret] 33)) := (Below.refl _ _).alloc (Nat.le_refl _) _
    have hsz := Hr.out.1.size
    have hwr : Hid (Glob T er wr ∧ EvAt wr w.heap.size e ∧ (∀ k, k < ps.length → wr.cell? ⟨P, k * 2, none⟩ = some (.int .i64 ((pth ps k).1 : Int)) ∧ wr.cell? ⟨P, k * 2 + 1, none⟩ = some (.func (.func (54 + (pth ps k).2)) #[] #[])) ∧ Below w.heap.size w wr ∧ w.heap.size < wr.heap.size) :=
      ⟨hw1.out.1.below' Hr.out.1, hevr, fun k hk => hw1.out.2.2.1.at_below hk Hr.out.1, hw1.out.2.2.2.2.trans (Hr.out.1.mono hw1.out.2.2.2.2.size), hevr.lt⟩
    obtain ⟨Rb, hRb⟩ : ∃ Rb, Rb = wr.heap.size := ⟨_, rfl⟩
    rw [← hRb] at hown hbr
    have Hown := Lib.hid hown
    have Hbr := Lib.hid hbr
    have HRb := Lib.hid hRb
    obtain ⟨d0, d1, d2, d3, d4, d5, d6, d7⟩ := hevr
    clear hr2 hown hbr hlt hRb
    go_wp2
    clear d0 d1 d2 d3 d4 d5 d6 d7
    generalize wr.alloc (.cells #[.int .i64 e.kind, .int .i64 e.tx, .int .i64 e.thread, .int .i64 e.obj, .int .i64 e.op, .int .i64 e.key, .int .i64 e.val, .int .i64 e.ret] 33) = W0 at *
    rw [← HRb.out]
    obtain ⟨wo, rfl⟩ : ∃ wo : World, wo = wr := ⟨_, rfl⟩
    go_loopw [45] (fun i w2 => ∃ (k : Nat) (r : Ev), k ≤ ps.length ∧ i = .int .i64 k ∧ Hid (Below Rb wo w2 ∧ EvOwn w2 Rb r ∧ (ps.take k).foldl (vstep e) (some e) = some r)) (fun i _ => ps.length - (intOf i).toNat)
    case atStart => exact ⟨0, e, Nat.zero_le _, rfl, Hbr.out, Hown.out, rfl⟩
    case round =>
      obtain ⟨k, r, hk2, rfl, H2⟩ := hrel
      by_cases hlt : k < ps.length
      · have hlt7 := (Hat.out k hlt).1
        have hpt := hwr.out.2.2.1 k hlt
        obtain ⟨f, hf⟩ : ∃ f, (pth ps k).1 = f := ⟨_, rfl⟩
        obtain ⟨g, hg⟩ : ∃ g, (pth ps k).2 = g := ⟨_, rfl⟩
        rw [hf, hg] at hpt
        rw [hf, hg] at hlt7
        have hxk : ps[k]? = some (f, g) := by rw [(Hat.out k hlt).2, ← hf, ← hg]
        have Hxk := Lib.hid hxk
        have hPl : P < Rb := by rw [HRb.out]; exact World.block_lt_of_cell? wo _ hpt.1
        have hb2 := H2.out.1
        have c0 : wr.cell? ⟨P, k * 2, none⟩ = some (.int .i64 (f : Int)) := (hb2.cell (p := ⟨P, k * 2, none⟩) hPl).trans hpt.1
        have c1 : wr.cell? ⟨P, k * 2 + 1, none⟩ = some (.func (.func (54 + g)) #[] #[]) := (hb2.cell (p := ⟨P, k * 2 + 1, none⟩) hPl).trans hpt.2
        have hBl : w.heap.size < Rb := by rw [HRb.out]; exact hwr.out.2.2.2.2
        have hwn := whenIs hlt7.2
        have hboxb : Below wr.heap.size wr (wr.alloc (.cells #[.int .i64 f, .func (.func (54 + g)) #[] #[]] 64)) := (Below.refl _ _).alloc (Nat.le_refl _) _
        have hown2 := H2.out.2.1.below' hboxb
        have hev2 := (hwr.out.2.1.below hb2 hBl).below' hboxb
        have hbw2 := hb2.trans (hboxb.mono (Nat.le_of_lt H2.out.2.1.ev.lt))
        have hgl2 := hwr.out.1.below hbw2 (by have := hwr.out.1.size; have := HRb.out; omega)
        have Hbox := Lib.hid (box_cells wr f (.func (.func (54 + g)) #[] #[]))
        have Hown2 := Lib.hid hown2
        have Hbw2 := Lib.hid hbw2
        have Hgl2 := Lib.hid hgl2
        have Hev2 := Lib.hid hev2
        have Heg := Lib.hid hwn.eg
        have Hct := Lib.hid hwn.ct
        have Hlt7 := Lib.hid hlt7
        have HBl := Lib.hid hBl
        have hlt2 : w.heap.size < wr.heap.size := Nat.lt_of_lt_of_le hBl (Nat.le_of_lt H2.out.2.1.ev.lt)
        have hevw := hwr.out.2.1.below hb2 hBl
        obtain ⟨d0, d1, d2, d3, d4, d5, d6, d7⟩ := hevw
        have eg := Heg.out
        have Hc8 := Lib.hid (fcell_lt f)
        clear hf hg hwn hlt7 hxk hpt hPl hBl hb2 hboxb hown2 hbw2 hgl2 hev2
        by_cases hwb : whenB g e = true
        · have hct : ∀ W, Calls Tryd.prog (54 + g) #[e.agg] W (Makes (.bool true) W) := fun W => by rw [← hwb]; exact Hct.out e W
          have HCt := Lib.hid hct
          have Hst : Hid (vstep e (some r) (f, g) = if finside f (r.at (fcell f)) then some (r.put (fcell f) 0) else none) := by show _ = _; unfold vstep; simp only [Option.bind_some, hwb, if_true]
          have Hin := Lib.hid (fun W => in_any f Hlt7.out.1 Rb W)
          have Hns := Lib.hid (fun (W1 : World) (hW1 : BoundsAt W1) => inside_any f Hlt7.out.1 (r.at (fcell f)) W1 hW1)
          generalize fcell f = c at *
          have Hdc := Lib.hid (fun (W : World) (h : EvOwn W Rb r) => And.intro (h.ev.at c Hc8.out) (h.free c))
          have Hset := Lib.hid (fun (W : World) (h : EvOwn W Rb r) => h.set Hc8.out 0)
          generalize r.at c = x at *
          clear hct hwb
          by_cases hx : finside f x = true
          · have Hns' : Hid (∀ W1, BoundsAt W1 → Calls Tryd.prog 46 #[.int .i64 f, .int .i64 x] W1 fun e w' => e = .returned (.bool true) ∧ W1 = w') := fun W1 h => by rw [← hx]; exact Hns.out W1 h
            rw [hx] at Hst
            have Hst' : Hid (vstep e (some r) (f, g) = some (r.put c 0)) := Hst.out
            clear hx Hns Hst
            go_wp2_with (first | (go_at_call 30; refine (Hin.out _).mono ?_; rintro e3 w3 ⟨rfl, rfl⟩) | (refine (HCt.out _).mono ?_; rintro e2 w2 ⟨rfl, hb3⟩; have hbx := box_below Hbox.out hb3; obtain ⟨q0, q1⟩ := hbx; clear HCt))
            have hdc := Hdc.out w2 (Hown2.out.below' hb3)
            obtain ⟨dc, fc⟩ := hdc
            have Hg2 := Lib.hid (Hgl2.out.below' hb3).bounds
            have hnew : Below Rb wo (w2.setCell ⟨Rb, c, none⟩ (.int .i64 0)).drew ∧ EvOwn (w2.setCell ⟨Rb, c, none⟩ (.int .i64 0)).drew Rb (r.put c 0) ∧ (ps.take (k + 1)).foldl (vstep e) (some e) = some (r.put c 0) := by
              refine ⟨below_drew ((Hbw2.out.trans (hb3.mono (Nat.le_of_lt Hown2.out.ev.lt))).setCell (Nat.le_refl _) _), (Hset.out w2 (Hown2.out.below' hb3)).drew, ?_⟩
              rw [take_step _ _ Hxk.out, H2.out.2.2, Hst'.out]
            have Hnew := Lib.hid hnew
            clear hb3 hnew d0 d1 d2 d3 d4 d5 d6 d7
            refine wp_region_held_drew (S := (fun w' => w'.cell? ⟨wr.heap.size, 0, none⟩ = some (.int .i64 (f : Int)) ∧ w'.cell? ⟨Rb, c, none⟩ = some (.int .i64 x))) (by kernel_rfl) (And.intro q0 dc) (fun hHeld => ?_)
            refine held_take 0 (some 57) ?_ rfl rfl (by kernel_rfl) (by kernel_rfl) (by kernel_rfl) (fun _ _ _ h => h) (by kernel_rfl) ?_ (by assumption) ?_
            rotate_left
            · intro w hSw; (try dsimp only at hSw); go_simp <;> (try with_reducible rfl)
            simp only [Act.put, List.setIfInBounds_toArray, List.set_cons_zero, List.set_cons_succ]
            refine held_take 1 (some 58) ?_ rfl rfl (by kernel_rfl) (by kernel_rfl) (by kernel_rfl) (fun _ _ _ h => h) (by kernel_rfl) ?_ (by assumption) ?_
            rotate_left
            · intro w hSw; (try dsimp only at hSw); go_simp <;> (try with_reducible rfl)
            simp only [Act.put, List.setIfInBounds_toArray, List.set_cons_zero, List.set_cons_succ]
            refine held_take 2 (some 59) ?_ rfl rfl (by kernel_rfl) (by kernel_rfl) (by kernel_rfl) (fun _ _ _ h => h) (by kernel_rfl) ?_ (by assumption) ?_
            rotate_left
            · intro w hSw; (try dsimp only at hSw); go_simp <;> (try with_reducible rfl)
            simp only [Act.put, List.setIfInBounds_toArray, List.set_cons_zero, List.set_cons_succ]
            refine held_take 3 (some 60) ?_ rfl rfl (by kernel_rfl) (by kernel_rfl) (by kernel_rfl) (fun _ _ _ h => h) (by kernel_rfl) ?_ (by assumption) ?_
            rotate_left
            · intro w hSw; (try dsimp only at hSw); go_simp <;> (try with_reducible rfl)
            simp only [Act.put, List.setIfInBounds_toArray, List.set_cons_zero, List.set_cons_succ]
            refine held_take 4 (some 61) ?_ rfl rfl (by kernel_rfl) (by kernel_rfl) (by kernel_rfl) (fun _ _ _ h => h) (by kernel_rfl) ?_ (by assumption) ?_
            rotate_left
            · intro w hSw; (try dsimp only at hSw); go_simp <;> (try with_reducible rfl)
            simp only [Act.put, List.setIfInBounds_toArray, List.set_cons_zero, List.set_cons_succ]
            refine wpAnyH_ready (rs := [5]) (by kernel_rfl) (by simp) (AllReadyH.cons rfl (fun K hK => ?_) AllReadyH.nil)
            go_simp
            (go_at_call 46; refine (Hns'.out _ (show BoundsAt w2.drew from Hg2.out)).mono ?_; rintro e3 w3 ⟨rfl, rfl⟩)
            go_wp2_with fail
            refine hK.out _ _ hHeld (fun hHeld => ?_)
            clear hK K
            try simp only [Act.put, List.setIfInBounds_toArray, List.set_cons_zero, List.set_cons_succ]
            refine held_take 6 (some 63) ?_ rfl rfl (by kernel_rfl) (by kernel_rfl) (by kernel_rfl) (fun _ _ _ h => h) (by kernel_rfl) ?_ (by assumption) ?_
            rotate_left
            · intro w hSw; (try dsimp only at hSw); go_simp <;> (try with_reducible rfl)
            simp only [Act.put, List.setIfInBounds_toArray, List.set_cons_zero, List.set_cons_succ]
            refine wpAnyH_done (by kernel_rfl) ?_ _
            go_wp2
            go_roundw
            case rel => exact ⟨k + 1, r.put c 0, by omega, by go_num, Hnew.out⟩
            case measure => simp [intOf]; omega
          · have hx' : finside f x = false := by simpa using hx
            have Hns' : Hid (∀ W1, BoundsAt W1 → Calls Tryd.prog 46 #[.int .i64 f, .int .i64 x] W1 fun e w' => e = .returned (.bool false) ∧ W1 = w') := fun W1 h => by rw [← hx']; exact Hns.out W1 h
            rw [hx'] at Hst
            have Hst' : Hid (vstep e (some r) (f, g) = none) := by show _ = _; rw [Hst.out]; rfl
            have HRR : Hid (R = errV T er 6) := by
              show _ = _
              rw [HR2.out, fold_dead (k := k + 1)]
              rw [take_step _ _ Hxk.out, H2.out.2.2, Hst'.out]
            clear hx hx' Hns Hst
            go_wp2_with (first | (go_at_call 30; refine (Hin.out _).mono ?_; rintro e3 w3 ⟨rfl, rfl⟩) | (refine (HCt.out _).mono ?_; rintro e2 w2 ⟨rfl, hb3⟩; have hbx := box_below Hbox.out hb3; obtain ⟨q0, q1⟩ := hbx; clear HCt))
            have hdc := Hdc.out w2 (Hown2.out.below' hb3)
            obtain ⟨dc, fc⟩ := hdc
            have hg2 := Hgl2.out.below' hb3
            have c6 := hg2.eEvent
            have Hg2 := Lib.hid hg2.bounds
            have Hfin : Hid (Below w.heap.size w w2) := hwr.out.2.2.2.1.trans ((Hbw2.out.trans (hb3.mono (Nat.le_of_lt Hown2.out.ev.lt))).mono (Nat.le_of_lt HBl.out))
            clear hb3 hg2 d0 d1 d2 d3 d4 d5 d6 d7
            refine wp_region_held_drew (S := (fun w' => w'.cell? ⟨wr.heap.size, 0, none⟩ = some (.int .i64 (f : Int)) ∧ w'.cell? ⟨Rb, c, none⟩ = some (.int .i64 x))) (by kernel_rfl) (And.intro q0 dc) (fun hHeld => ?_)
            refine held_take 0 (some 57) ?_ rfl rfl (by kernel_rfl) (by kernel_rfl) (by kernel_rfl) (fun _ _ _ h => h) (by kernel_rfl) ?_ (by assumption) ?_
            rotate_left
            · intro w hSw; (try dsimp only at hSw); go_simp <;> (try with_reducible rfl)
            simp only [Act.put, List.setIfInBounds_toArray, List.set_cons_zero, List.set_cons_succ]
            refine held_take 1 (some 58) ?_ rfl rfl (by kernel_rfl) (by kernel_rfl) (by kernel_rfl) (fun _ _ _ h => h) (by kernel_rfl) ?_ (by assumption) ?_
            rotate_left
            · intro w hSw; (try dsimp only at hSw); go_simp <;> (try with_reducible rfl)
            simp only [Act.put, List.setIfInBounds_toArray, List.set_cons_zero, List.set_cons_succ]
            refine held_take 2 (some 59) ?_ rfl rfl (by kernel_rfl) (by kernel_rfl) (by kernel_rfl) (fun _ _ _ h => h) (by kernel_rfl) ?_ (by assumption) ?_
            rotate_left
            · intro w hSw; (try dsimp only at hSw); go_simp <;> (try with_reducible rfl)
            simp only [Act.put, List.setIfInBounds_toArray, List.set_cons_zero, List.set_cons_succ]
            refine held_take 3 (some 60) ?_ rfl rfl (by kernel_rfl) (by kernel_rfl) (by kernel_rfl) (fun _ _ _ h => h) (by kernel_rfl) ?_ (by assumption) ?_
            rotate_left
            · intro w hSw; (try dsimp only at hSw); go_simp <;> (try with_reducible rfl)
            simp only [Act.put, List.setIfInBounds_toArray, List.set_cons_zero, List.set_cons_succ]
            refine held_take 4 (some 61) ?_ rfl rfl (by kernel_rfl) (by kernel_rfl) (by kernel_rfl) (fun _ _ _ h => h) (by kernel_rfl) ?_ (by assumption) ?_
            rotate_left
            · intro w hSw; (try dsimp only at hSw); go_simp <;> (try with_reducible rfl)
            simp only [Act.put, List.setIfInBounds_toArray, List.set_cons_zero, List.set_cons_succ]
            refine wpAnyH_ready (rs := [5]) (by kernel_rfl) (by simp) (AllReadyH.cons rfl (fun K hK => ?_) AllReadyH.nil)
            go_simp
            (go_at_call 46; refine (Hns'.out _ (show BoundsAt w2.drew from Hg2.out)).mono ?_; rintro e3 w3 ⟨rfl, rfl⟩)
            go_wp2_with fail
            refine hK.out _ _ hHeld (fun hHeld => ?_)
            clear hK K
            try simp only [Act.put, List.setIfInBounds_toArray, List.set_cons_zero, List.set_cons_succ]
            refine held_take 6 (some 63) ?_ rfl rfl (by kernel_rfl) (by kernel_rfl) (by kernel_rfl) (fun _ _ _ h => h) (by kernel_rfl) ?_ (by assumption) ?_
            rotate_left
            · intro w hSw; (try dsimp only at hSw); go_simp <;> (try with_reducible rfl)
            simp only [Act.put, List.setIfInBounds_toArray, List.set_cons_zero, List.set_cons_succ]
            refine wpAnyH_done (by kernel_rfl) ?_ _
            go_wp2
            go_ret
            exact ⟨by rw [HRR.out]; rfl, below_drew Hfin.out⟩
        · have hwb' : whenB g e = false := by simpa using hwb
          have hct : ∀ W, Calls Tryd.prog (54 + g) #[e.agg] W (Makes (.bool false) W) := fun W => by rw [← hwb']; exact Hct.out e W
          have HCt := Lib.hid hct
          have Hst : Hid (vstep e (some r) (f, g) = some r) := by show _ = _; unfold vstep; simp only [Option.bind_some, hwb', Bool.false_eq_true, if_false]
          clear hct hwb hwb'
          go_wp2_with (first | (refine (HCt.out _).mono ?_; rintro e2 w2 ⟨rfl, hb3⟩; clear HCt))
          have hnew : Below Rb wo w2 ∧ EvOwn w2 Rb r ∧ (ps.take (k + 1)).foldl (vstep e) (some e) = some r := by
            refine ⟨Hbw2.out.trans (hb3.mono (Nat.le_of_lt Hown2.out.ev.lt)), Hown2.out.below' hb3, ?_⟩
            rw [take_step _ _ Hxk.out, H2.out.2.2, Hst.out]
          have Hnew := Lib.hid hnew
          clear hb3 hnew
          go_roundw
          case rel => exact ⟨k + 1, r, by omega, by go_num, Hnew.out⟩
          case measure => simp [intOf]; omega
      · have hkl : k = ps.length := by omega
        subst hkl
        have hfold := H2.out.2.2
        rw [List.take_length] at hfold
        have HRR : Hid (R = errV T er (if r = ⟨e.kind, 0, 0, 0, 0, 0, 0, 0⟩ then 0 else 6)) := by show _ = _; rw [HR2.out, hfold]
        obtain ⟨d0, d1, d2, d3, d4, d5, d6, d7⟩ := H2.out.2.1.ev
        have hBl : w.heap.size < Rb := by rw [HRb.out]; exact hwr.out.2.2.2.2
        have k0 : wr.cell? ⟨w.heap.size, 0, none⟩ = some (.int .i64 e.kind) := (hwr.out.2.1.below H2.out.1 hBl).c0
        have c6 : wr.cell? ⟨6, 0, none⟩ = some (.iface T (.pointer (some (er 6)))) := (hwr.out.1.below H2.out.1 (by have := hwr.out.1.size; have := HRb.out; omega)).eEvent
        have Hfin : Hid (Below w.heap.size w wr) := hwr.out.2.2.2.1.trans (H2.out.1.mono (Nat.le_of_lt hBl))
        clear hfold hBl hlt
        go_wp2
        all_goals
          go_ret
          refine ⟨?_, Hfin.out⟩
          rw [HRR.out]
          first
            | (rw [if_pos (ev_base (by assumption) (by assumption) (by assumption) (by assumption) (by assumption) (by assumption) (by assumption) (by assumption))]; rfl)
            | (rw [if_neg (by first | exact fun h => absurd (congrArg Ev.kind h) (by assumption) | exact fun h => absurd (congrArg Ev.tx h) (by assumption) | exact fun h => absurd (congrArg Ev.thread h) (by assumption) | exact fun h => absurd (congrArg Ev.obj h) (by assumption) | exact fun h => absurd (congrArg Ev.op h) (by assumption) | exact fun h => absurd (congrArg Ev.key h) (by assumption) | exact fun h => absurd (congrArg Ev.val h) (by assumption) | exact fun h => absurd (congrArg Ev.ret h) (by assumption))]; rfl)

theorem valid_any (e : Ev) (w : World) (hG : Glob T er w) : Calls Tryd.prog 31 #[e.agg] w (Makes (errV T er (validN e)) w) := by
  cases hk : isKind e.kind with
  | true => exact valid_is e hk w hG
  | false => exact valid_no e hk w hG
end Go.Proofs.YtciajjjigigidaaDoor
