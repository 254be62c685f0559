/- Helpers, joined: Eva, Ha, Hb. -/
import Derived.Test.YtfjjhjojcgacbaaDoorM1
import Derived.Laws.AppendOwn
import Derived.Laws.AppendOwnNone
import Derived.Laws.Rows
import Derived.Laws.OwnMore
import Derived.Lib.SliceRun
import Derived.OwnWalk
import Derived.Deep.LoopGhost
import Derived.Deep.AppendLies
import Derived.Deep.RegionHeld3
import Derived.RangeFuncBox
import Derived.Maps.AppendAt

/- Valid, by a contract. -/
namespace Go.Proofs.YtfjjhjojcgacbaaDoor
open Go.RowKit Go.Maps Go.WideMaps Go.WideElems Go.ChangeShapes Go.WideShapes

variable {T : TypeId} {er : Nat → Addr}

/-- The i-th part. -/
abbrev pth (ps : List (Nat × Nat)) (i : Nat) : Nat × Nat := ps.getD i (0, 0)
theorem pth_lt {k : Int} {i : Nat} (h : i < (partsL k).length) : (pth (partsL k) i).1 < 7 ∧ (pth (partsL k) i).2 < 4 := by
  unfold pth
  have e : (partsL k).getD i (0, 0) = (partsL k)[i] := by simp [h]
  rw [e]
  exact partsL_lt k _ (List.getElem_mem h)

/-- The cells of a part's box. -/
theorem box_cells (w : World) (f : Nat) (v : Value) : (w.alloc (.cells #[.int .i64 f, v] 110)).cell? ⟨w.heap.size, 0, none⟩ = some (.int .i64 f) ∧ (w.alloc (.cells #[.int .i64 f, v] 110)).cell? ⟨w.heap.size, 1, none⟩ = some v := by
  rw [World.cell?_alloc_new, World.cell?_alloc_new]
  exact ⟨rfl, rfl⟩

/-- The cells that a round reads: of the part, of the event, of the field. -/
theorem rd_of {W : World} {Q B c : Nat} {e : Ev} {f : Nat} {v : Value} (hb : W.cell? ⟨Q, 0, none⟩ = some (.int .i64 f) ∧ W.cell? ⟨Q, 1, none⟩ = some v) (he : EvAt W B e) (hc : c < 8) :
    W.cell? ⟨Q, 0, none⟩ = some (.int .i64 f) ∧ W.cell? ⟨Q, 1, none⟩ = some v ∧ W.cell? ⟨B, 0, none⟩ = some (.int .i64 e.kind) ∧ W.cell? ⟨B, 1, none⟩ = some (.int .i64 e.tx) ∧ W.cell? ⟨B, 2, none⟩ = some (.int .i64 e.thread) ∧ W.cell? ⟨B, 3, none⟩ = some (.int .i64 e.obj) ∧ W.cell? ⟨B, 4, none⟩ = some (.int .i64 e.op) ∧ W.cell? ⟨B, 5, none⟩ = some (.int .i64 e.key) ∧ W.cell? ⟨B, 6, none⟩ = some (.int .i64 e.val) ∧ W.cell? ⟨B, 7, none⟩ = some (.int .i64 e.ret) ∧ W.cell? ⟨B, c, none⟩ = some (.int .i64 (e.at c)) :=
  ⟨hb.1, hb.2, he.c0, he.c1, he.c2, he.c3, he.c4, he.c5, he.c6, he.c7, he.at c hc⟩
theorem EvAt.drew {w : World} {B : Nat} {e : Ev} (h : EvAt w B e) : EvAt w.drew B e := ⟨h.c0, h.c1, h.c2, h.c3, h.c4, h.c5, h.c6, h.c7⟩
theorem box_below {W w2 : World} {Q : Nat} {a b : Value} (h : W.cell? ⟨Q, 0, none⟩ = some a ∧ W.cell? ⟨Q, 1, none⟩ = some b) (hb : Below W.heap.size W w2) : w2.cell? ⟨Q, 0, none⟩ = some a ∧ w2.cell? ⟨Q, 1, none⟩ = some b := by
  have hQ : Q < W.heap.size := World.block_lt_of_cell? W _ h.1
  exact ⟨(hb.cell (p := ⟨Q, 0, none⟩) hQ).trans h.1, (hb.cell (p := ⟨Q, 1, none⟩) hQ).trans h.2⟩
theorem below_drew {B : Nat} {a w : World} (h : Below B a w) : Below B a w.drew := ⟨h.os, h.tape, h.output, h.size, h.block⟩
theorem fcell_lt (f : Nat) : fcell f < 8 := by unfold fcell; split <;> decide


theorem partsL_len (k : Int) : (partsL k).length ≤ 5 := by
  unfold partsL
  split
  · decide
  split
  · decide
  split
  · decide
  split
  · decide
  · decide

/-- An error, by its number; 0: none. -/
def errV (T : TypeId) (er : Nat → Addr) : Nat → Value
  | 0 => .nilIface
  | k => .iface T (.pointer (some (er k)))

theorem take_step {α β : Type} (g : β → α → β) (b : β) {l : List α} {k : Nat} {x : α} (h : l[k]? = some x) : (l.take (k + 1)).foldl g b = g ((l.take k).foldl g b) x := by
  have hk := (List.getElem?_eq_some_iff.1 h)
  obtain ⟨hk, rfl⟩ := hk
  rw [List.take_succ_eq_append_getElem hk, List.foldl_append]
  rfl
theorem any_take_step {α : Type} (g : α → Bool) {l : List α} {k : Nat} {x : α} (h : l[k]? = some x) : (l.take (k + 1)).any g = ((l.take k).any g || g x) := by
  obtain ⟨hk, rfl⟩ := (List.getElem?_eq_some_iff.1 h)
  rw [List.take_succ_eq_append_getElem hk, List.any_append]
  simp
theorem any_of_at {α : Type} (g : α → Bool) {l : List α} {k : Nat} {x : α} (h : l[k]? = some x) (hx : g x = true) : l.any g = true := List.any_eq_true.2 ⟨x, List.mem_of_getElem? h, hx⟩
theorem fold_none (e : Ev) : ∀ l : List (Nat × Nat), l.foldl (vstep e) none = none
  | [] => rfl
  | _ :: l => by rw [List.foldl_cons]; exact fold_none e l
theorem fold_dead (e : Ev) (b : Option Ev) {l : List (Nat × Nat)} {k : Nat} (h : (l.take k).foldl (vstep e) b = none) : l.foldl (vstep e) b = none := by
  rw [← List.take_append_drop k l, List.foldl_append, h, fold_none]
theorem at_get {k : Int} {i : Nat} (h : i < (partsL k).length) : (partsL k)[i]? = some (pth (partsL k) i) := by simp [pth, h]

set_option maxRecDepth 100000 in
theorem valid_no (e : Ev) (hk : isKind e.kind = false) (w : World) (hG : Glob T er w) :
    Calls Tryd.prog 59 #[e.agg] w (Makes (errV T er (validN e)) w) := by
  have h' : e.kind < 1 ∨ 7 < e.kind := by unfold isKind at hk; simp at hk; omega
  have Hp := Lib.hid (fun w => partsOf_no e.kind h' w)
  have hal : Below w.heap.size w (w.alloc (.cells #[.int .i64 e.kind, .int .i64 e.tx, .int .i64 e.thread, .int .i64 e.obj, .int .i64 e.op, .int .i64 e.key, .int .i64 e.val, .int .i64 e.ret] 34)) := (Below.refl _ _).alloc (Nat.le_refl _) _
  have Hal := Lib.hid hal
  have HG := Lib.hid hG
  have hv : validN e = 3 := by unfold validN; rw [hk]; rfl
  rw [hv]
  clear hk h' hal hG hv
  go_enter Tryd.func59, Tryd.ntmps59
  go_wp2_with (go_at_call 73; refine (Hp.out _).mono ?_; rintro e1 w1 ⟨rfl, h1⟩; have hb1 := Hal.out.trans (h1.mono Hal.out.size); have c1 := (HG.out.below' hb1).eCode; have Hb1 := Lib.hid hb1; clear hb1 h1)
  go_ret
  exact ⟨rfl, Hb1.out⟩

section
variable {P : Program} {md : Region.Mode} {ops : Array Oper} {Q : Exit → Act → World → Prop} {S : World → Prop} {fuel : Nat} {listed : Array Bool} {a : Act} {w : World}
/-- An operation that is passed over. -/
theorem held_skip (i : Nat) (d : Option Tmp) {oi : Oper} (hi : ops[i]? = some oi) (hd : oi.dst = d) (hs : Region.noSelect ops = true) (hf : Region.free md ops listed i = true) (hr : (Region.ready md ops listed).contains i = true)
    (hQ : ∀ c a w, Q (.panic c) (a.put d undef) w → Q (.panic c) a w) (hw : Region.wanted oi (yielded ops a.tmps) = false) (hS : S w)
    (h : wpAnyH P md ops Q S fuel (listed.setIfInBounds i true) (a.put d undef) w) : wpAnyH P md ops Q S (fuel + 1) listed a w := by
  subst hd
  exact wpAnyH_take hi hs hf hr hQ (Or.inr ⟨hw, rfl⟩) hS h
/-- An operation that yields in every world that meets S. -/
theorem held_take (i : Nat) (d : Option Tmp) (v : Value) {oi : Oper} (hi : ops[i]? = some oi) (hd : oi.dst = d) (hs : Region.noSelect ops = true) (hf : Region.free md ops listed i = true) (hr : (Region.ready md ops listed).contains i = true)
    (hQ : ∀ c a w, Q (.panic c) (a.put d v) w → Q (.panic c) a w) (hw : Region.wanted oi (yielded ops a.tmps) = true) (hy : ∀ w, S w → (execOp a.eval oi).run P w = .ok (.value v) w) (hS : S w)
    (h : wpAnyH P md ops Q S fuel (listed.setIfInBounds i true) (a.put d v) w) : wpAnyH P md ops Q S (fuel + 1) listed a w := by
  subst hd
  exact wpAnyH_take hi hs hf hr hQ (Or.inl ⟨hw, hy⟩) hS h
end

theorem ev_base {r : Ev} {k : Int} (h0 : r.kind = k) (h1 : r.tx = 0) (h2 : r.thread = 0) (h3 : r.obj = 0) (h4 : r.op = 0) (h5 : r.key = 0) (h6 : r.val = 0) (h7 : r.ret = 0) : r = ⟨k, 0, 0, 0, 0, 0, 0, 0⟩ := by
  cases r
  simp_all

/-- An event lies in a block that may be written. -/
structure EvOwn (w : World) (B : Nat) (e : Ev) : Prop where
  ev : EvAt w B e
  free : ∀ i, w.frozen? ⟨B, i, none⟩ = false
theorem EvOwn.below {w w' : World} {B C : Nat} {e : Ev} (h : EvOwn w B e) (hb : Below C w w') (hC : B < C) : EvOwn w' B e :=
  ⟨h.ev.below hb hC, fun i => (hb.frozen (p := ⟨B, i, none⟩) hC).trans (h.free i)⟩
theorem EvOwn.below' {w w' : World} {B : Nat} {e : Ev} (h : EvOwn w B e) (hb : Below w.heap.size w w') : EvOwn w' B e := h.below hb h.ev.lt
theorem EvOwn.drew {w : World} {B : Nat} {e : Ev} (h : EvOwn w B e) : EvOwn w.drew B e := ⟨h.ev.drew, h.free⟩
theorem evOwn_new (w : World) (e : Ev) : EvOwn (w.alloc (.cells #[.int .i64 e.kind, .int .i64 e.tx, .int .i64 e.thread, .int .i64 e.obj, .int .i64 e.op, .int .i64 e.key, .int .i64 e.val, .int .i64 e.ret] 34)) w.heap.size e :=
  ⟨evAt_new w e, fun _ => World.frozen?_alloc_new ..⟩
theorem EvOwn.set {w : World} {B c : Nat} {e : Ev} (h : EvOwn w B e) (hc : c < 8) (n : Int) : EvOwn (w.setCell ⟨B, c, none⟩ (.int .i64 n)) B (e.put c n) := by
  refine ⟨?_, fun i => (World.frozen?_setCell ..).trans (h.free i)⟩
  have same : (w.setCell ⟨B, c, none⟩ (.int .i64 n)).cell? ⟨B, c, none⟩ = some (.int .i64 n) := World.cell?_setCell_same _ _ _ (h.ev.at c hc)
  have other : ∀ i, i ≠ c → (w.setCell ⟨B, c, none⟩ (.int .i64 n)).cell? ⟨B, i, none⟩ = w.cell? ⟨B, i, none⟩ := fun i hi => World.cell?_setCell_other _ _ _ _ (by intro h; injection h with _ h2; exact hi h2.symm)
  rcases c with _ | _ | _ | _ | _ | _ | _ | _ | c
  · exact ⟨same, (other 1 (by decide)).trans h.ev.c1, (other 2 (by decide)).trans h.ev.c2, (other 3 (by decide)).trans h.ev.c3, (other 4 (by decide)).trans h.ev.c4, (other 5 (by decide)).trans h.ev.c5, (other 6 (by decide)).trans h.ev.c6, (other 7 (by decide)).trans h.ev.c7⟩
  · exact ⟨(other 0 (by decide)).trans h.ev.c0, same, (other 2 (by decide)).trans h.ev.c2, (other 3 (by decide)).trans h.ev.c3, (other 4 (by decide)).trans h.ev.c4, (other 5 (by decide)).trans h.ev.c5, (other 6 (by decide)).trans h.ev.c6, (other 7 (by decide)).trans h.ev.c7⟩
  · exact ⟨(other 0 (by decide)).trans h.ev.c0, (other 1 (by decide)).trans h.ev.c1, same, (other 3 (by decide)).trans h.ev.c3, (other 4 (by decide)).trans h.ev.c4, (other 5 (by decide)).trans h.ev.c5, (other 6 (by decide)).trans h.ev.c6, (other 7 (by decide)).trans h.ev.c7⟩
  · exact ⟨(other 0 (by decide)).trans h.ev.c0, (other 1 (by decide)).trans h.ev.c1, (other 2 (by decide)).trans h.ev.c2, same, (other 4 (by decide)).trans h.ev.c4, (other 5 (by decide)).trans h.ev.c5, (other 6 (by decide)).trans h.ev.c6, (other 7 (by decide)).trans h.ev.c7⟩
  · exact ⟨(other 0 (by decide)).trans h.ev.c0, (other 1 (by decide)).trans h.ev.c1, (other 2 (by decide)).trans h.ev.c2, (other 3 (by decide)).trans h.ev.c3, same, (other 5 (by decide)).trans h.ev.c5, (other 6 (by decide)).trans h.ev.c6, (other 7 (by decide)).trans h.ev.c7⟩
  · exact ⟨(other 0 (by decide)).trans h.ev.c0, (other 1 (by decide)).trans h.ev.c1, (other 2 (by decide)).trans h.ev.c2, (other 3 (by decide)).trans h.ev.c3, (other 4 (by decide)).trans h.ev.c4, same, (other 6 (by decide)).trans h.ev.c6, (other 7 (by decide)).trans h.ev.c7⟩
  · exact ⟨(other 0 (by decide)).trans h.ev.c0, (other 1 (by decide)).trans h.ev.c1, (other 2 (by decide)).trans h.ev.c2, (other 3 (by decide)).trans h.ev.c3, (other 4 (by decide)).trans h.ev.c4, (other 5 (by decide)).trans h.ev.c5, same, (other 7 (by decide)).trans h.ev.c7⟩
  · exact ⟨(other 0 (by decide)).trans h.ev.c0, (other 1 (by decide)).trans h.ev.c1, (other 2 (by decide)).trans h.ev.c2, (other 3 (by decide)).trans h.ev.c3, (other 4 (by decide)).trans h.ev.c4, (other 5 (by decide)).trans h.ev.c5, (other 6 (by decide)).trans h.ev.c6, same⟩
  · omega

/-- What holds of a round of the first loop, at its part. -/
structure Rd1 (w1 wr : World) (P B : Nat) (ps : List (Nat × Nat)) (k f g : Nat) (e : Ev) (W : World) (Q : Nat) : Prop where
  box : W.cell? ⟨Q, 0, none⟩ = some (.int .i64 f) ∧ W.cell? ⟨Q, 1, none⟩ = some (.func (.func (84 + g)) #[] #[])
  ev : EvAt W B e
  below : Below w1.heap.size w1 W
  lt : Q < W.heap.size

set_option maxRecDepth 100000 in
set_option maxHeartbeats 4000000 in
theorem valid_is (e : Ev) (hk : isKind e.kind = true) (w : World) (hG : Glob T er w) :
    Calls Tryd.prog 59 #[e.agg] w (Makes (errV T er (validN e)) w) := by
  have Hp := Lib.hid (fun w => partsOf_any e.kind hk w)
  have hal : Below w.heap.size w (w.alloc (.cells #[.int .i64 e.kind, .int .i64 e.tx, .int .i64 e.thread, .int .i64 e.obj, .int .i64 e.op, .int .i64 e.key, .int .i64 e.val, .int .i64 e.ret] 34)) := (Below.refl _ _).alloc (Nat.le_refl _) _
  have hev := evAt_new w e
  have Hev := Lib.hid hev
  have Hal := Lib.hid hal
  have HG := Lib.hid hG
  obtain ⟨R, hR⟩ : ∃ R, R = errV T er (validN e) := ⟨_, rfl⟩
  rw [← hR]
  have HR : Hid (((partsL e.kind).any (codeBad e) = true → R = errV T er 3) ∧ ((partsL e.kind).any (codeBad e) = false → R = errV T er (match (partsL e.kind).foldl (vstep e) (some e) with | none => 6 | some r => if r = ⟨e.kind, 0, 0, 0, 0, 0, 0, 0⟩ then 0 else 6))) := by
    refine ⟨fun h => ?_, fun h => ?_⟩
    · rw [hR]; unfold validN; rw [hk, h]; rfl
    · rw [hR]; unfold validN; rw [hk, h]; rfl
  have hpl5 : (partsL e.kind).length ≤ 5 := partsL_len _
  have Hat := Lib.hid (fun i (h : i < (partsL e.kind).length) => And.intro (pth_lt h) (at_get h))
  clear hk hev hal hG hR
  go_enter Tryd.func59, Tryd.ntmps59
  go_wp2_with (go_at_call 73; refine (Hp.out _).mono ?_; rintro e1 w1 ⟨P, rfl, hP0, hP1, hP2⟩)
  have hs0 := Hal.out.size
  have hw1 : Hid (Glob T er w1 ∧ EvAt w1 w.heap.size e ∧ PartsAt w1 P (partsL e.kind) ∧ w.heap.size < w1.heap.size ∧ Below w.heap.size w w1) := by
    have hb := Hal.out.trans (hP2.mono hs0)
    have hev := Hev.out.below' hP2
    exact ⟨HG.out.below' hb, hev, hP1, hev.lt, hb⟩
  clear hP0 hP1 hP2 Hp hs0
  generalize hps : partsL e.kind = ps at *
  clear hps
  go_loopw [22] (fun i wr => ∃ k : Nat, k ≤ ps.length ∧ i = .int .i64 k ∧ Hid (Below w1.heap.size w1 wr ∧ (ps.take k).any (codeBad e) = false)) (fun i _ => ps.length - (intOf i).toNat)
  case atStart => exact ⟨0, Nat.zero_le _, rfl, Below.refl _ _, rfl⟩
  case round =>
    obtain ⟨k, hk, rfl, Hr⟩ := hrel
    by_cases hlt : k < ps.length
    · have hlt7 := (Hat.out k hlt).1
      have hpt := hw1.out.2.2.1.at_below hlt Hr.out.1
      obtain ⟨c0, c1⟩ := hpt
      obtain ⟨f, hf⟩ : ∃ f, (pth ps k).1 = f := ⟨_, rfl⟩
      obtain ⟨g, hg⟩ : ∃ g, (pth ps k).2 = g := ⟨_, rfl⟩
      change wr.cell? _ = some (.int .i64 ((pth ps k).1 : Nat)) at c0
      change wr.cell? _ = some (.func (.func (84 + (pth ps k).2)) #[] #[]) at c1
      rw [hf] at c0 hlt7
      rw [hg] at c1 hlt7
      have hxk : ps[k]? = some (f, g) := by rw [(Hat.out k hlt).2, ← hf, ← hg]
      have Hxk := Lib.hid hxk
      have hwn := whenIs hlt7.2
      have hsz := Hr.out.1.size
      have hR1 : Rd1 w1 wr P w.heap.size ps k f g e (wr.alloc (.cells #[.int .i64 f, .func (.func (84 + g)) #[] #[]] 110)) wr.heap.size := by
        have hboxb : Below wr.heap.size wr (wr.alloc (.cells #[.int .i64 f, .func (.func (84 + g)) #[] #[]] 110)) := (Below.refl _ _).alloc (Nat.le_refl _) _
        exact ⟨box_cells wr f _, (hw1.out.2.1.below' Hr.out.1).below' hboxb, Hr.out.1.trans (hboxb.mono hsz), by simp⟩
      have HR1 := Lib.hid hR1
      have Heg := Lib.hid hwn.eg
      have Hct := Lib.hid hwn.ct
      have Hlt7 := Lib.hid hlt7
      have hgl : Hid (Glob T er (wr.alloc (.cells #[.int .i64 f, .func (.func (84 + g)) #[] #[]] 110))) := hw1.out.1.below' HR1.out.below
      clear hf hg hwn hsz hR1 hlt7 hxk
      go_wp2
      generalize wr.alloc (.cells #[.int .i64 f, .func (.func (84 + g)) #[] #[]] 110) = W at *
      generalize wr.heap.size = Q at *
      have Hrd := Lib.hid (rd_of (c := fcell f) HR1.out.box HR1.out.ev (fcell_lt f))
      by_cases hwb : whenB g e = true
      · have hct : ∀ W, Calls Tryd.prog (84 + g) #[e.agg] W (Makes (.bool true) W) := fun W => by rw [← hwb]; exact Hct.out e W
        have HCt := Lib.hid hct
        have hin := fun W => in_any f Hlt7.out.1 w.heap.size W
        have Hin := Lib.hid hin
        obtain ⟨q0, q1, d0, d1, d2, d3, d4, d5, d6, d7, dc⟩ := Hrd.out
        have eg := Heg.out
        have hcb : codeBad e (f, g) = fnone f (e.at (fcell f)) := by unfold codeBad; rw [hwb]; rfl
        have hno := fun (W1 : World) (hW1 : WordsAt W1) => none_any f Hlt7.out.1 (e.at (fcell f)) W1 hW1
        rw [← hcb] at hno
        have Hno := Lib.hid hno
        obtain ⟨x, hx⟩ : ∃ x, e.at (fcell f) = x := ⟨_, rfl⟩
        obtain ⟨c, hc⟩ : ∃ c, fcell f = c := ⟨_, rfl⟩
        have Hx := Lib.hid (show e.at c = x by rw [← hc]; exact hx)
        rw [hx] at hno dc
        rw [hc] at dc
        have Hno := Lib.hid hno
        have Hc := Lib.hid hc
        have Hin : Hid (∀ W, Calls Tryd.prog 75 #[.int .i64 f, .pointer (some ⟨w.heap.size, 0, none⟩)] W fun e w' => e = .returned (.pointer (some ⟨w.heap.size, c, none⟩)) ∧ W = w') := by rw [← hc]; exact hin
        have Hrd : Hid ((fun w' => w'.cell? ⟨Q, 0, none⟩ = some (.int .i64 f) ∧ w'.cell? ⟨Q, 1, none⟩ = some (.func (.func (84 + g)) #[] #[]) ∧ w'.cell? ⟨w.heap.size, 0, none⟩ = some (.int .i64 e.kind) ∧ w'.cell? ⟨w.heap.size, 1, none⟩ = some (.int .i64 e.tx) ∧ w'.cell? ⟨w.heap.size, 2, none⟩ = some (.int .i64 e.thread) ∧ w'.cell? ⟨w.heap.size, 3, none⟩ = some (.int .i64 e.obj) ∧ w'.cell? ⟨w.heap.size, 4, none⟩ = some (.int .i64 e.op) ∧ w'.cell? ⟨w.heap.size, 5, none⟩ = some (.int .i64 e.key) ∧ w'.cell? ⟨w.heap.size, 6, none⟩ = some (.int .i64 e.val) ∧ w'.cell? ⟨w.heap.size, 7, none⟩ = some (.int .i64 e.ret) ∧ w'.cell? ⟨w.heap.size, c, none⟩ = some (.int .i64 x)) W) := ⟨q0, q1, d0, d1, d2, d3, d4, d5, d6, d7, dc⟩
        clear hct hwb hcb hno hin hx hc
        by_cases hcd : codeBad e (f, g) = true
        · have Hno' : Hid (∀ W1, WordsAt W1 → Calls Tryd.prog 74 #[.int .i64 f, .int .i64 x] W1 fun e w' => e = .returned (.bool true) ∧ W1 = w') := fun W1 h => by rw [← hcd]; exact Hno.out W1 h
          have HRR : Hid (R = errV T er 3) := HR.out.1 (any_of_at _ Hxk.out hcd)
          clear hcd
          refine wp_region_held_drew (S := (fun w' => w'.cell? ⟨Q, 0, none⟩ = some (.int .i64 f) ∧ w'.cell? ⟨Q, 1, none⟩ = some (.func (.func (84 + g)) #[] #[]) ∧ w'.cell? ⟨w.heap.size, 0, none⟩ = some (.int .i64 e.kind) ∧ w'.cell? ⟨w.heap.size, 1, none⟩ = some (.int .i64 e.tx) ∧ w'.cell? ⟨w.heap.size, 2, none⟩ = some (.int .i64 e.thread) ∧ w'.cell? ⟨w.heap.size, 3, none⟩ = some (.int .i64 e.obj) ∧ w'.cell? ⟨w.heap.size, 4, none⟩ = some (.int .i64 e.op) ∧ w'.cell? ⟨w.heap.size, 5, none⟩ = some (.int .i64 e.key) ∧ w'.cell? ⟨w.heap.size, 6, none⟩ = some (.int .i64 e.val) ∧ w'.cell? ⟨w.heap.size, 7, none⟩ = some (.int .i64 e.ret) ∧ w'.cell? ⟨w.heap.size, c, none⟩ = some (.int .i64 x))) (by kernel_rfl) Hrd.out (fun hHeld => ?_)
          refine held_take 0 (some 26) ?_ rfl rfl (by kernel_rfl) (by kernel_rfl) (by kernel_rfl) (fun _ _ _ h => h) (by kernel_rfl) ?_ (by assumption) ?_
          rotate_left
          · intro w hSw; (try dsimp only at hSw); go_simp <;> (try with_reducible rfl)
          simp only [Act.put, List.setIfInBounds_toArray, List.set_cons_zero, List.set_cons_succ]
          refine held_take 1 (some 27) ?_ rfl rfl (by kernel_rfl) (by kernel_rfl) (by kernel_rfl) (fun _ _ _ h => h) (by kernel_rfl) ?_ (by assumption) ?_
          rotate_left
          · intro w hSw; (try dsimp only at hSw); go_simp <;> (try with_reducible rfl)
          simp only [Act.put, List.setIfInBounds_toArray, List.set_cons_zero, List.set_cons_succ]
          refine held_take 2 (some 28) ?_ rfl rfl (by kernel_rfl) (by kernel_rfl) (by kernel_rfl) (fun _ _ _ h => h) (by kernel_rfl) ?_ (by assumption) ?_
          rotate_left
          · intro w hSw; (try dsimp only at hSw); go_simp <;> (try with_reducible rfl)
          simp only [Act.put, List.setIfInBounds_toArray, List.set_cons_zero, List.set_cons_succ]
          refine wpAnyH_ready (rs := [3]) (by kernel_rfl) (by simp) (AllReadyH.cons rfl (fun K hK => ?_) AllReadyH.nil)
          go_simp
          (refine (HCt.out _).mono ?_; rintro e2 w2 ⟨rfl, hb2⟩)
          go_wp2_with fail
          refine hK.out _ _ (by have := (rd_of (box_below (W := W.drew) HR1.out.box hb2) (HR1.out.ev.drew.below' hb2) (fcell_lt f)); rw [Hc.out, Hx.out] at this; exact this) (fun hHeld => ?_)
          clear hK K
          try simp only [Act.put, List.setIfInBounds_toArray, List.set_cons_zero, List.set_cons_succ]
          have hg2 : Hid (Glob T er w2) := hgl.out.drew.below' hb2
          refine held_take 4 (some 30) ?_ rfl rfl (by kernel_rfl) (by kernel_rfl) (by kernel_rfl) (fun _ _ _ h => h) (by kernel_rfl) ?_ (by assumption) ?_
          rotate_left
          · intro w hSw; (try dsimp only at hSw); go_simp <;> (try with_reducible rfl)
          simp only [Act.put, List.setIfInBounds_toArray, List.set_cons_zero, List.set_cons_succ]
          refine held_take 5 (some 31) ?_ rfl rfl (by kernel_rfl) (by kernel_rfl) (by kernel_rfl) (fun _ _ _ h => h) (by kernel_rfl) ?_ (by assumption) ?_
          rotate_left
          · intro w hSw; (try dsimp only at hSw); go_simp <;> (try with_reducible rfl)
          simp only [Act.put, List.setIfInBounds_toArray, List.set_cons_zero, List.set_cons_succ]
          refine held_take 6 (some 32) ?_ rfl rfl (by kernel_rfl) (by kernel_rfl) (by kernel_rfl) (fun _ _ _ h => h) (by kernel_rfl) ?_ (by assumption) ?_
          rotate_left
          · intro w hSw; (try dsimp only at hSw); go_simp <;> (try with_reducible rfl)
          simp only [Act.put, List.setIfInBounds_toArray, List.set_cons_zero, List.set_cons_succ]
          refine held_take 7 (some 33) ?_ rfl rfl (by kernel_rfl) (by kernel_rfl) (by kernel_rfl) (fun _ _ _ h => h) (by kernel_rfl) ?_ (by assumption) ?_
          rotate_left
          · intro w hSw; (try dsimp only at hSw); go_simp <;> (try with_reducible rfl)
          simp only [Act.put, List.setIfInBounds_toArray, List.set_cons_zero, List.set_cons_succ]
          refine held_take 8 (some 34) ?_ rfl rfl (by kernel_rfl) (by kernel_rfl) (by kernel_rfl) (fun _ _ _ h => h) (by kernel_rfl) ?_ (by assumption) ?_
          rotate_left
          · intro w hSw; (try dsimp only at hSw); go_simp <;> (try with_reducible rfl)
          simp only [Act.put, List.setIfInBounds_toArray, List.set_cons_zero, List.set_cons_succ]
          refine wpAnyH_ready (rs := [9]) (by kernel_rfl) (by simp) (AllReadyH.cons rfl (fun K hK => ?_) AllReadyH.nil)
          go_simp
          (go_at_call 75; refine (Hin.out _).mono ?_; rintro e3 w3 ⟨rfl, rfl⟩)
          go_wp2_with fail
          refine hK.out _ _ hHeld (fun hHeld => ?_)
          clear hK K
          try simp only [Act.put, List.setIfInBounds_toArray, List.set_cons_zero, List.set_cons_succ]
          refine held_take 10 (some 36) ?_ rfl rfl (by kernel_rfl) (by kernel_rfl) (by kernel_rfl) (fun _ _ _ h => h) (by kernel_rfl) ?_ (by assumption) ?_
          rotate_left
          · intro w hSw; (try dsimp only at hSw); go_simp <;> (try with_reducible rfl)
          simp only [Act.put, List.setIfInBounds_toArray, List.set_cons_zero, List.set_cons_succ]
          refine held_take 11 (some 37) ?_ rfl rfl (by kernel_rfl) (by kernel_rfl) (by kernel_rfl) (fun _ _ _ h => h) (by kernel_rfl) ?_ (by assumption) ?_
          rotate_left
          · intro w hSw; (try dsimp only at hSw); go_simp <;> (try with_reducible rfl)
          simp only [Act.put, List.setIfInBounds_toArray, List.set_cons_zero, List.set_cons_succ]
          refine wpAnyH_ready (rs := [12]) (by kernel_rfl) (by simp) (AllReadyH.cons rfl (fun K hK => ?_) AllReadyH.nil)
          go_simp
          (go_at_call 74; refine (Hno'.out _ hg2.out.words).mono ?_; rintro e3 w3 ⟨rfl, rfl⟩)
          go_wp2_with fail
          refine hK.out _ _ hHeld (fun hHeld => ?_)
          clear hK K
          try simp only [Act.put, List.setIfInBounds_toArray, List.set_cons_zero, List.set_cons_succ]
          refine held_take 13 (some 39) ?_ rfl rfl (by kernel_rfl) (by kernel_rfl) (by kernel_rfl) (fun _ _ _ h => h) (by kernel_rfl) ?_ (by assumption) ?_
          rotate_left
          · intro w hSw; (try dsimp only at hSw); go_simp <;> (try with_reducible rfl)
          simp only [Act.put, List.setIfInBounds_toArray, List.set_cons_zero, List.set_cons_succ]
          refine wpAnyH_done (by kernel_rfl) ?_ _
          have c1 := hg2.out.eCode
          have Hfin : Hid (Below w.heap.size w w2) := hw1.out.2.2.2.2.trans (((below_drew HR1.out.below).trans (hb2.mono HR1.out.below.size)).mono hw1.out.2.2.2.2.size)
          clear hb2
          go_wp2
          go_ret
          exact ⟨by rw [HRR.out]; rfl, Hfin.out⟩
        · have hcd' : codeBad e (f, g) = false := by simpa using hcd
          have Hno' : Hid (∀ W1, WordsAt W1 → Calls Tryd.prog 74 #[.int .i64 f, .int .i64 x] W1 fun e w' => e = .returned (.bool false) ∧ W1 = w') := fun W1 h => by rw [← hcd']; exact Hno.out W1 h
          have Hcd := Lib.hid hcd'
          clear hcd hcd'
          refine wp_region_held_drew (S := (fun w' => w'.cell? ⟨Q, 0, none⟩ = some (.int .i64 f) ∧ w'.cell? ⟨Q, 1, none⟩ = some (.func (.func (84 + g)) #[] #[]) ∧ w'.cell? ⟨w.heap.size, 0, none⟩ = some (.int .i64 e.kind) ∧ w'.cell? ⟨w.heap.size, 1, none⟩ = some (.int .i64 e.tx) ∧ w'.cell? ⟨w.heap.size, 2, none⟩ = some (.int .i64 e.thread) ∧ w'.cell? ⟨w.heap.size, 3, none⟩ = some (.int .i64 e.obj) ∧ w'.cell? ⟨w.heap.size, 4, none⟩ = some (.int .i64 e.op) ∧ w'.cell? ⟨w.heap.size, 5, none⟩ = some (.int .i64 e.key) ∧ w'.cell? ⟨w.heap.size, 6, none⟩ = some (.int .i64 e.val) ∧ w'.cell? ⟨w.heap.size, 7, none⟩ = some (.int .i64 e.ret) ∧ w'.cell? ⟨w.heap.size, c, none⟩ = some (.int .i64 x))) (by kernel_rfl) Hrd.out (fun hHeld => ?_)
          refine held_take 0 (some 26) ?_ rfl rfl (by kernel_rfl) (by kernel_rfl) (by kernel_rfl) (fun _ _ _ h => h) (by kernel_rfl) ?_ (by assumption) ?_
          rotate_left
          · intro w hSw; (try dsimp only at hSw); go_simp <;> (try with_reducible rfl)
          simp only [Act.put, List.setIfInBounds_toArray, List.set_cons_zero, List.set_cons_succ]
          refine held_take 1 (some 27) ?_ rfl rfl (by kernel_rfl) (by kernel_rfl) (by kernel_rfl) (fun _ _ _ h => h) (by kernel_rfl) ?_ (by assumption) ?_
          rotate_left
          · intro w hSw; (try dsimp only at hSw); go_simp <;> (try with_reducible rfl)
          simp only [Act.put, List.setIfInBounds_toArray, List.set_cons_zero, List.set_cons_succ]
          refine held_take 2 (some 28) ?_ rfl rfl (by kernel_rfl) (by kernel_rfl) (by kernel_rfl) (fun _ _ _ h => h) (by kernel_rfl) ?_ (by assumption) ?_
          rotate_left
          · intro w hSw; (try dsimp only at hSw); go_simp <;> (try with_reducible rfl)
          simp only [Act.put, List.setIfInBounds_toArray, List.set_cons_zero, List.set_cons_succ]
          refine wpAnyH_ready (rs := [3]) (by kernel_rfl) (by simp) (AllReadyH.cons rfl (fun K hK => ?_) AllReadyH.nil)
          go_simp
          (refine (HCt.out _).mono ?_; rintro e2 w2 ⟨rfl, hb2⟩)
          go_wp2_with fail
          refine hK.out _ _ (by have := (rd_of (box_below (W := W.drew) HR1.out.box hb2) (HR1.out.ev.drew.below' hb2) (fcell_lt f)); rw [Hc.out, Hx.out] at this; exact this) (fun hHeld => ?_)
          clear hK K
          try simp only [Act.put, List.setIfInBounds_toArray, List.set_cons_zero, List.set_cons_succ]
          have hg2 : Hid (Glob T er w2) := hgl.out.drew.below' hb2
          refine held_take 4 (some 30) ?_ rfl rfl (by kernel_rfl) (by kernel_rfl) (by kernel_rfl) (fun _ _ _ h => h) (by kernel_rfl) ?_ (by assumption) ?_
          rotate_left
          · intro w hSw; (try dsimp only at hSw); go_simp <;> (try with_reducible rfl)
          simp only [Act.put, List.setIfInBounds_toArray, List.set_cons_zero, List.set_cons_succ]
          refine held_take 5 (some 31) ?_ rfl rfl (by kernel_rfl) (by kernel_rfl) (by kernel_rfl) (fun _ _ _ h => h) (by kernel_rfl) ?_ (by assumption) ?_
          rotate_left
          · intro w hSw; (try dsimp only at hSw); go_simp <;> (try with_reducible rfl)
          simp only [Act.put, List.setIfInBounds_toArray, List.set_cons_zero, List.set_cons_succ]
          refine held_take 6 (some 32) ?_ rfl rfl (by kernel_rfl) (by kernel_rfl) (by kernel_rfl) (fun _ _ _ h => h) (by kernel_rfl) ?_ (by assumption) ?_
          rotate_left
          · intro w hSw; (try dsimp only at hSw); go_simp <;> (try with_reducible rfl)
          simp only [Act.put, List.setIfInBounds_toArray, List.set_cons_zero, List.set_cons_succ]
          refine held_take 7 (some 33) ?_ rfl rfl (by kernel_rfl) (by kernel_rfl) (by kernel_rfl) (fun _ _ _ h => h) (by kernel_rfl) ?_ (by assumption) ?_
          rotate_left
          · intro w hSw; (try dsimp only at hSw); go_simp <;> (try with_reducible rfl)
          simp only [Act.put, List.setIfInBounds_toArray, List.set_cons_zero, List.set_cons_succ]
          refine held_take 8 (some 34) ?_ rfl rfl (by kernel_rfl) (by kernel_rfl) (by kernel_rfl) (fun _ _ _ h => h) (by kernel_rfl) ?_ (by assumption) ?_
          rotate_left
          · intro w hSw; (try dsimp only at hSw); go_simp <;> (try with_reducible rfl)
          simp only [Act.put, List.setIfInBounds_toArray, List.set_cons_zero, List.set_cons_succ]
          refine wpAnyH_ready (rs := [9]) (by kernel_rfl) (by simp) (AllReadyH.cons rfl (fun K hK => ?_) AllReadyH.nil)
          go_simp
          (go_at_call 75; refine (Hin.out _).mono ?_; rintro e3 w3 ⟨rfl, rfl⟩)
          go_wp2_with fail
          refine hK.out _ _ hHeld (fun hHeld => ?_)
          clear hK K
          try simp only [Act.put, List.setIfInBounds_toArray, List.set_cons_zero, List.set_cons_succ]
          refine held_take 10 (some 36) ?_ rfl rfl (by kernel_rfl) (by kernel_rfl) (by kernel_rfl) (fun _ _ _ h => h) (by kernel_rfl) ?_ (by assumption) ?_
          rotate_left
          · intro w hSw; (try dsimp only at hSw); go_simp <;> (try with_reducible rfl)
          simp only [Act.put, List.setIfInBounds_toArray, List.set_cons_zero, List.set_cons_succ]
          refine held_take 11 (some 37) ?_ rfl rfl (by kernel_rfl) (by kernel_rfl) (by kernel_rfl) (fun _ _ _ h => h) (by kernel_rfl) ?_ (by assumption) ?_
          rotate_left
          · intro w hSw; (try dsimp only at hSw); go_simp <;> (try with_reducible rfl)
          simp only [Act.put, List.setIfInBounds_toArray, List.set_cons_zero, List.set_cons_succ]
          refine wpAnyH_ready (rs := [12]) (by kernel_rfl) (by simp) (AllReadyH.cons rfl (fun K hK => ?_) AllReadyH.nil)
          go_simp
          (go_at_call 74; refine (Hno'.out _ hg2.out.words).mono ?_; rintro e3 w3 ⟨rfl, rfl⟩)
          go_wp2_with fail
          refine hK.out _ _ hHeld (fun hHeld => ?_)
          clear hK K
          try simp only [Act.put, List.setIfInBounds_toArray, List.set_cons_zero, List.set_cons_succ]
          refine held_take 13 (some 39) ?_ rfl rfl (by kernel_rfl) (by kernel_rfl) (by kernel_rfl) (fun _ _ _ h => h) (by kernel_rfl) ?_ (by assumption) ?_
          rotate_left
          · intro w hSw; (try dsimp only at hSw); go_simp <;> (try with_reducible rfl)
          simp only [Act.put, List.setIfInBounds_toArray, List.set_cons_zero, List.set_cons_succ]
          refine wpAnyH_done (by kernel_rfl) ?_ _
          have hnew : Below w1.heap.size w1 w2 ∧ (ps.take (k + 1)).any (codeBad e) = false := by
            refine ⟨(below_drew HR1.out.below).trans (hb2.mono HR1.out.below.size), ?_⟩
            rw [any_take_step _ Hxk.out, Hr.out.2, Hcd.out]; rfl
          have Hnew := Lib.hid hnew
          clear hnew hb2
          go_wp2
          go_roundw
          case rel => exact ⟨k + 1, by omega, by go_num, Hnew.out⟩
          case measure => simp [intOf]; omega
      · have hwb' : whenB g e = false := by simpa using hwb
        have hct : ∀ W, Calls Tryd.prog (84 + g) #[e.agg] W (Makes (.bool false) W) := fun W => by rw [← hwb']; exact Hct.out e W
        have HCt := Lib.hid hct
        have Hcb : Hid (codeBad e (f, g) = false) := by show _ = _; unfold codeBad; rw [hwb']; rfl
        obtain ⟨q0, q1, d0, d1, d2, d3, d4, d5, d6, d7, dc⟩ := Hrd.out
        have eg := Heg.out
        clear hct hwb hwb' dc
        refine wp_region_held_drew (S := (fun w' => w'.cell? ⟨Q, 0, none⟩ = some (.int .i64 f) ∧ w'.cell? ⟨Q, 1, none⟩ = some (.func (.func (84 + g)) #[] #[]) ∧ w'.cell? ⟨w.heap.size, 0, none⟩ = some (.int .i64 e.kind) ∧ w'.cell? ⟨w.heap.size, 1, none⟩ = some (.int .i64 e.tx) ∧ w'.cell? ⟨w.heap.size, 2, none⟩ = some (.int .i64 e.thread) ∧ w'.cell? ⟨w.heap.size, 3, none⟩ = some (.int .i64 e.obj) ∧ w'.cell? ⟨w.heap.size, 4, none⟩ = some (.int .i64 e.op) ∧ w'.cell? ⟨w.heap.size, 5, none⟩ = some (.int .i64 e.key) ∧ w'.cell? ⟨w.heap.size, 6, none⟩ = some (.int .i64 e.val) ∧ w'.cell? ⟨w.heap.size, 7, none⟩ = some (.int .i64 e.ret) ∧ w'.cell? ⟨w.heap.size, fcell f, none⟩ = some (.int .i64 (e.at (fcell f))))) (by kernel_rfl) Hrd.out (fun hHeld => ?_)
        refine held_take 0 (some 26) ?_ rfl rfl (by kernel_rfl) (by kernel_rfl) (by kernel_rfl) (fun _ _ _ h => h) (by kernel_rfl) ?_ (by assumption) ?_
        rotate_left
        · intro w hSw; (try dsimp only at hSw); go_simp <;> (try with_reducible rfl)
        simp only [Act.put, List.setIfInBounds_toArray, List.set_cons_zero, List.set_cons_succ]
        refine held_take 1 (some 27) ?_ rfl rfl (by kernel_rfl) (by kernel_rfl) (by kernel_rfl) (fun _ _ _ h => h) (by kernel_rfl) ?_ (by assumption) ?_
        rotate_left
        · intro w hSw; (try dsimp only at hSw); go_simp <;> (try with_reducible rfl)
        simp only [Act.put, List.setIfInBounds_toArray, List.set_cons_zero, List.set_cons_succ]
        refine held_take 2 (some 28) ?_ rfl rfl (by kernel_rfl) (by kernel_rfl) (by kernel_rfl) (fun _ _ _ h => h) (by kernel_rfl) ?_ (by assumption) ?_
        rotate_left
        · intro w hSw; (try dsimp only at hSw); go_simp <;> (try with_reducible rfl)
        simp only [Act.put, List.setIfInBounds_toArray, List.set_cons_zero, List.set_cons_succ]
        refine wpAnyH_ready (rs := [3]) (by kernel_rfl) (by simp) (AllReadyH.cons rfl (fun K hK => ?_) AllReadyH.nil)
        go_simp
        (refine (HCt.out _).mono ?_; rintro e2 w2 ⟨rfl, hb2⟩)
        go_wp2_with fail
        refine hK.out _ _ (rd_of (box_below (W := W.drew) HR1.out.box hb2) (HR1.out.ev.drew.below' hb2) (fcell_lt f)) (fun hHeld => ?_)
        clear hK K
        try simp only [Act.put, List.setIfInBounds_toArray, List.set_cons_zero, List.set_cons_succ]
        refine held_take 4 (some 30) ?_ rfl rfl (by kernel_rfl) (by kernel_rfl) (by kernel_rfl) (fun _ _ _ h => h) (by kernel_rfl) ?_ (by assumption) ?_
        rotate_left
        · intro w hSw; (try dsimp only at hSw); go_simp <;> (try with_reducible rfl)
        simp only [Act.put, List.setIfInBounds_toArray, List.set_cons_zero, List.set_cons_succ]
        refine held_skip 5 (some 31) rfl rfl (by kernel_rfl) (by kernel_rfl) (by kernel_rfl) (fun _ _ _ h => h) (by kernel_rfl) (by assumption) ?_
        simp only [Act.put, List.setIfInBounds_toArray, List.set_cons_zero, List.set_cons_succ]
        refine held_skip 6 (some 32) rfl rfl (by kernel_rfl) (by kernel_rfl) (by kernel_rfl) (fun _ _ _ h => h) (by kernel_rfl) (by assumption) ?_
        simp only [Act.put, List.setIfInBounds_toArray, List.set_cons_zero, List.set_cons_succ]
        refine held_skip 7 (some 33) rfl rfl (by kernel_rfl) (by kernel_rfl) (by kernel_rfl) (fun _ _ _ h => h) (by kernel_rfl) (by assumption) ?_
        simp only [Act.put, List.setIfInBounds_toArray, List.set_cons_zero, List.set_cons_succ]
        refine held_skip 8 (some 34) rfl rfl (by kernel_rfl) (by kernel_rfl) (by kernel_rfl) (fun _ _ _ h => h) (by kernel_rfl) (by assumption) ?_
        simp only [Act.put, List.setIfInBounds_toArray, List.set_cons_zero, List.set_cons_succ]
        refine held_skip 9 (some 35) rfl rfl (by kernel_rfl) (by kernel_rfl) (by kernel_rfl) (fun _ _ _ h => h) (by kernel_rfl) (by assumption) ?_
        simp only [Act.put, List.setIfInBounds_toArray, List.set_cons_zero, List.set_cons_succ]
        refine held_skip 10 (some 36) rfl rfl (by kernel_rfl) (by kernel_rfl) (by kernel_rfl) (fun _ _ _ h => h) (by kernel_rfl) (by assumption) ?_
        simp only [Act.put, List.setIfInBounds_toArray, List.set_cons_zero, List.set_cons_succ]
        refine held_skip 11 (some 37) rfl rfl (by kernel_rfl) (by kernel_rfl) (by kernel_rfl) (fun _ _ _ h => h) (by kernel_rfl) (by assumption) ?_
        simp only [Act.put, List.setIfInBounds_toArray, List.set_cons_zero, List.set_cons_succ]
        refine held_skip 12 (some 38) rfl rfl (by kernel_rfl) (by kernel_rfl) (by kernel_rfl) (fun _ _ _ h => h) (by kernel_rfl) (by assumption) ?_
        simp only [Act.put, List.setIfInBounds_toArray, List.set_cons_zero, List.set_cons_succ]
        refine held_take 13 (some 39) ?_ rfl rfl (by kernel_rfl) (by kernel_rfl) (by kernel_rfl) (fun _ _ _ h => h) (by kernel_rfl) ?_ (by assumption) ?_
        rotate_left
        · intro w hSw; (try dsimp only at hSw); go_simp <;> (try with_reducible rfl)
        simp only [Act.put, List.setIfInBounds_toArray, List.set_cons_zero, List.set_cons_succ]
        refine wpAnyH_done (by kernel_rfl) ?_ _
        have hnew : Below w1.heap.size w1 w2 ∧ (ps.take (k + 1)).any (codeBad e) = false := by
          refine ⟨(below_drew HR1.out.below).trans (hb2.mono HR1.out.below.size), ?_⟩
          rw [any_take_step _ Hxk.out, Hr.out.2, Hcb.out]; rfl
        have Hnew := Lib.hid hnew
        clear hnew
        go_wp2
        go_roundw
        case rel => exact ⟨k + 1, by omega, by go_num, Hnew.out⟩
        case measure => simp [intOf]; omega
    have hkl : k = ps.length := by omega
    subst hkl
    have hr2 := Hr.out.2
    rw [List.take_length] at hr2
    have HR2 := Lib.hid (HR.out.2 hr2)
    have hevr := hw1.out.2.1.below' Hr.out.1
    have hown := evOwn_new wr e
    have hbr : Below wr.heap.size wr (wr.alloc (.cells #[.int .i64 e.kind, .int .i64 e.tx, .int .i64 e.thread, .int .i64 e.obj, .int .i64 e.op, .int .i64 e.key, .int .i64 e.val, .int .i64 e.ret] 34)) := (Below.refl _ _).alloc (Nat.le_refl _) _
    have hsz := Hr.out.1.size
    have hwr : Hid (Glob T er wr ∧ EvAt wr w.heap.size e ∧ (∀ k, k < ps.length → wr.cell? ⟨P, k * 2, none⟩ = some (.int .i64 ((pth ps k).1 : Int)) ∧ wr.cell? ⟨P, k * 2 + 1, none⟩ = some (.func (.func (84 + (pth ps k).2)) #[] #[])) ∧ Below w.heap.size w wr ∧ w.heap.size < wr.heap.size) :=
      ⟨hw1.out.1.below' Hr.out.1, hevr, fun k hk => hw1.out.2.2.1.at_below hk Hr.out.1, hw1.out.2.2.2.2.trans (Hr.out.1.mono hw1.out.2.2.2.2.size), hevr.lt⟩
    obtain ⟨Rb, hRb⟩ : ∃ Rb, Rb = wr.heap.size := ⟨_, rfl⟩
    rw [← hRb] at hown hbr
    have Hown := Lib.hid hown
    have Hbr := Lib.hid hbr
    have HRb := Lib.hid hRb
    obtain ⟨d0, d1, d2, d3, d4, d5, d6, d7⟩ := hevr
    clear hr2 hown hbr hlt hRb
    go_wp2
    clear d0 d1 d2 d3 d4 d5 d6 d7
    generalize wr.alloc (.cells #[.int .i64 e.kind, .int .i64 e.tx, .int .i64 e.thread, .int .i64 e.obj, .int .i64 e.op, .int .i64 e.key, .int .i64 e.val, .int .i64 e.ret] 34) = W0 at *
    rw [← HRb.out]
    obtain ⟨wo, rfl⟩ : ∃ wo : World, wo = wr := ⟨_, rfl⟩
    go_loopw [45] (fun i w2 => ∃ (k : Nat) (r : Ev), k ≤ ps.length ∧ i = .int .i64 k ∧ Hid (Below Rb wo w2 ∧ EvOwn w2 Rb r ∧ (ps.take k).foldl (vstep e) (some e) = some r)) (fun i _ => ps.length - (intOf i).toNat)
    case atStart => exact ⟨0, e, Nat.zero_le _, rfl, Hbr.out, Hown.out, rfl⟩
    case round =>
      obtain ⟨k, r, hk2, rfl, H2⟩ := hrel
      by_cases hlt : k < ps.length
      · have hlt7 := (Hat.out k hlt).1
        have hpt := hwr.out.2.2.1 k hlt
        obtain ⟨f, hf⟩ : ∃ f, (pth ps k).1 = f := ⟨_, rfl⟩
        obtain ⟨g, hg⟩ : ∃ g, (pth ps k).2 = g := ⟨_, rfl⟩
        rw [hf, hg] at hpt
        rw [hf, hg] at hlt7
        have hxk : ps[k]? = some (f, g) := by rw [(Hat.out k hlt).2, ← hf, ← hg]
        have Hxk := Lib.hid hxk
        have hPl : P < Rb := by rw [HRb.out]; exact World.block_lt_of_cell? wo _ hpt.1
        have hb2 := H2.out.1
        have c0 : wr.cell? ⟨P, k * 2, none⟩ = some (.int .i64 (f : Int)) := (hb2.cell (p := ⟨P, k * 2, none⟩) hPl).trans hpt.1
        have c1 : wr.cell? ⟨P, k * 2 + 1, none⟩ = some (.func (.func (84 + g)) #[] #[]) := (hb2.cell (p := ⟨P, k * 2 + 1, none⟩) hPl).trans hpt.2
        have hBl : w.heap.size < Rb := by rw [HRb.out]; exact hwr.out.2.2.2.2
        have hwn := whenIs hlt7.2
        have hboxb : Below wr.heap.size wr (wr.alloc (.cells #[.int .i64 f, .func (.func (84 + g)) #[] #[]] 110)) := (Below.refl _ _).alloc (Nat.le_refl _) _
        have hown2 := H2.out.2.1.below' hboxb
        have hev2 := (hwr.out.2.1.below hb2 hBl).below' hboxb
        have hbw2 := hb2.trans (hboxb.mono (Nat.le_of_lt H2.out.2.1.ev.lt))
        have hgl2 := hwr.out.1.below hbw2 (by have := hwr.out.1.size; have := HRb.out; omega)
        have Hbox := Lib.hid (box_cells wr f (.func (.func (84 + g)) #[] #[]))
        have Hown2 := Lib.hid hown2
        have Hbw2 := Lib.hid hbw2
        have Hgl2 := Lib.hid hgl2
        have Hev2 := Lib.hid hev2
        have Heg := Lib.hid hwn.eg
        have Hct := Lib.hid hwn.ct
        have Hlt7 := Lib.hid hlt7
        have HBl := Lib.hid hBl
        have hlt2 : w.heap.size < wr.heap.size := Nat.lt_of_lt_of_le hBl (Nat.le_of_lt H2.out.2.1.ev.lt)
        have hevw := hwr.out.2.1.below hb2 hBl
        obtain ⟨d0, d1, d2, d3, d4, d5, d6, d7⟩ := hevw
        have eg := Heg.out
        have Hc8 := Lib.hid (fcell_lt f)
        clear hf hg hwn hlt7 hxk hpt hPl hBl hb2 hboxb hown2 hbw2 hgl2 hev2
        by_cases hwb : whenB g e = true
        · have hct : ∀ W, Calls Tryd.prog (84 + g) #[e.agg] W (Makes (.bool true) W) := fun W => by rw [← hwb]; exact Hct.out e W
          have HCt := Lib.hid hct
          have Hst : Hid (vstep e (some r) (f, g) = if finside f (r.at (fcell f)) then some (r.put (fcell f) 0) else none) := by show _ = _; unfold vstep; simp only [Option.bind_some, hwb, if_true]
          have Hin := Lib.hid (fun W => in_any f Hlt7.out.1 Rb W)
          have Hns := Lib.hid (fun (W1 : World) (hW1 : BoundsAt W1) => inside_any f Hlt7.out.1 (r.at (fcell f)) W1 hW1)
          generalize fcell f = c at *
          have Hdc := Lib.hid (fun (W : World) (h : EvOwn W Rb r) => And.intro (h.ev.at c Hc8.out) (h.free c))
          have Hset := Lib.hid (fun (W : World) (h : EvOwn W Rb r) => h.set Hc8.out 0)
          generalize r.at c = x at *
          clear hct hwb
          by_cases hx : finside f x = true
          · have Hns' : Hid (∀ W1, BoundsAt W1 → Calls Tryd.prog 62 #[.int .i64 f, .int .i64 x] W1 fun e w' => e = .returned (.bool true) ∧ W1 = w') := fun W1 h => by rw [← hx]; exact Hns.out W1 h
            rw [hx] at Hst
            have Hst' : Hid (vstep e (some r) (f, g) = some (r.put c 0)) := Hst.out
            clear hx Hns Hst
            go_wp2_with (first | (go_at_call 75; refine (Hin.out _).mono ?_; rintro e3 w3 ⟨rfl, rfl⟩) | (refine (HCt.out _).mono ?_; rintro e2 w2 ⟨rfl, hb3⟩; have hbx := box_below Hbox.out hb3; obtain ⟨q0, q1⟩ := hbx; clear HCt))
            have hdc := Hdc.out w2 (Hown2.out.below' hb3)
            obtain ⟨dc, fc⟩ := hdc
            have Hg2 := Lib.hid (Hgl2.out.below' hb3).bounds
            have hnew : Below Rb wo (w2.setCell ⟨Rb, c, none⟩ (.int .i64 0)).drew ∧ EvOwn (w2.setCell ⟨Rb, c, none⟩ (.int .i64 0)).drew Rb (r.put c 0) ∧ (ps.take (k + 1)).foldl (vstep e) (some e) = some (r.put c 0) := by
              refine ⟨below_drew ((Hbw2.out.trans (hb3.mono (Nat.le_of_lt Hown2.out.ev.lt))).setCell (Nat.le_refl _) _), (Hset.out w2 (Hown2.out.below' hb3)).drew, ?_⟩
              rw [take_step _ _ Hxk.out, H2.out.2.2, Hst'.out]
            have Hnew := Lib.hid hnew
            clear hb3 hnew d0 d1 d2 d3 d4 d5 d6 d7
            refine wp_region_held_drew (S := (fun w' => w'.cell? ⟨wr.heap.size, 0, none⟩ = some (.int .i64 (f : Int)) ∧ w'.cell? ⟨Rb, c, none⟩ = some (.int .i64 x))) (by kernel_rfl) (And.intro q0 dc) (fun hHeld => ?_)
            refine held_take 0 (some 57) ?_ rfl rfl (by kernel_rfl) (by kernel_rfl) (by kernel_rfl) (fun _ _ _ h => h) (by kernel_rfl) ?_ (by assumption) ?_
            rotate_left
            · intro w hSw; (try dsimp only at hSw); go_simp <;> (try with_reducible rfl)
            simp only [Act.put, List.setIfInBounds_toArray, List.set_cons_zero, List.set_cons_succ]
            refine held_take 1 (some 58) ?_ rfl rfl (by kernel_rfl) (by kernel_rfl) (by kernel_rfl) (fun _ _ _ h => h) (by kernel_rfl) ?_ (by assumption) ?_
            rotate_left
            · intro w hSw; (try dsimp only at hSw); go_simp <;> (try with_reducible rfl)
            simp only [Act.put, List.setIfInBounds_toArray, List.set_cons_zero, List.set_cons_succ]
            refine held_take 2 (some 59) ?_ rfl rfl (by kernel_rfl) (by kernel_rfl) (by kernel_rfl) (fun _ _ _ h => h) (by kernel_rfl) ?_ (by assumption) ?_
            rotate_left
            · intro w hSw; (try dsimp only at hSw); go_simp <;> (try with_reducible rfl)
            simp only [Act.put, List.setIfInBounds_toArray, List.set_cons_zero, List.set_cons_succ]
            refine held_take 3 (some 60) ?_ rfl rfl (by kernel_rfl) (by kernel_rfl) (by kernel_rfl) (fun _ _ _ h => h) (by kernel_rfl) ?_ (by assumption) ?_
            rotate_left
            · intro w hSw; (try dsimp only at hSw); go_simp <;> (try with_reducible rfl)
            simp only [Act.put, List.setIfInBounds_toArray, List.set_cons_zero, List.set_cons_succ]
            refine held_take 4 (some 61) ?_ rfl rfl (by kernel_rfl) (by kernel_rfl) (by kernel_rfl) (fun _ _ _ h => h) (by kernel_rfl) ?_ (by assumption) ?_
            rotate_left
            · intro w hSw; (try dsimp only at hSw); go_simp <;> (try with_reducible rfl)
            simp only [Act.put, List.setIfInBounds_toArray, List.set_cons_zero, List.set_cons_succ]
            refine wpAnyH_ready (rs := [5]) (by kernel_rfl) (by simp) (AllReadyH.cons rfl (fun K hK => ?_) AllReadyH.nil)
            go_simp
            (go_at_call 62; refine (Hns'.out _ (show BoundsAt w2.drew from Hg2.out)).mono ?_; rintro e3 w3 ⟨rfl, rfl⟩)
            go_wp2_with fail
            refine hK.out _ _ hHeld (fun hHeld => ?_)
            clear hK K
            try simp only [Act.put, List.setIfInBounds_toArray, List.set_cons_zero, List.set_cons_succ]
            refine held_take 6 (some 63) ?_ rfl rfl (by kernel_rfl) (by kernel_rfl) (by kernel_rfl) (fun _ _ _ h => h) (by kernel_rfl) ?_ (by assumption) ?_
            rotate_left
            · intro w hSw; (try dsimp only at hSw); go_simp <;> (try with_reducible rfl)
            simp only [Act.put, List.setIfInBounds_toArray, List.set_cons_zero, List.set_cons_succ]
            refine wpAnyH_done (by kernel_rfl) ?_ _
            go_wp2
            go_roundw
            case rel => exact ⟨k + 1, r.put c 0, by omega, by go_num, Hnew.out⟩
            case measure => simp [intOf]; omega
          · have hx' : finside f x = false := by simpa using hx
            have Hns' : Hid (∀ W1, BoundsAt W1 → Calls Tryd.prog 62 #[.int .i64 f, .int .i64 x] W1 fun e w' => e = .returned (.bool false) ∧ W1 = w') := fun W1 h => by rw [← hx']; exact Hns.out W1 h
            rw [hx'] at Hst
            have Hst' : Hid (vstep e (some r) (f, g) = none) := by show _ = _; rw [Hst.out]; rfl
            have HRR : Hid (R = errV T er 6) := by
              show _ = _
              rw [HR2.out, fold_dead (k := k + 1)]
              rw [take_step _ _ Hxk.out, H2.out.2.2, Hst'.out]
            clear hx hx' Hns Hst
            go_wp2_with (first | (go_at_call 75; refine (Hin.out _).mono ?_; rintro e3 w3 ⟨rfl, rfl⟩) | (refine (HCt.out _).mono ?_; rintro e2 w2 ⟨rfl, hb3⟩; have hbx := box_below Hbox.out hb3; obtain ⟨q0, q1⟩ := hbx; clear HCt))
            have hdc := Hdc.out w2 (Hown2.out.below' hb3)
            obtain ⟨dc, fc⟩ := hdc
            have hg2 := Hgl2.out.below' hb3
            have c6 := hg2.eEvent
            have Hg2 := Lib.hid hg2.bounds
            have Hfin : Hid (Below w.heap.size w w2) := hwr.out.2.2.2.1.trans ((Hbw2.out.trans (hb3.mono (Nat.le_of_lt Hown2.out.ev.lt))).mono (Nat.le_of_lt HBl.out))
            clear hb3 hg2 d0 d1 d2 d3 d4 d5 d6 d7
            refine wp_region_held_drew (S := (fun w' => w'.cell? ⟨wr.heap.size, 0, none⟩ = some (.int .i64 (f : Int)) ∧ w'.cell? ⟨Rb, c, none⟩ = some (.int .i64 x))) (by kernel_rfl) (And.intro q0 dc) (fun hHeld => ?_)
            refine held_take 0 (some 57) ?_ rfl rfl (by kernel_rfl) (by kernel_rfl) (by kernel_rfl) (fun _ _ _ h => h) (by kernel_rfl) ?_ (by assumption) ?_
            rotate_left
            · intro w hSw; (try dsimp only at hSw); go_simp <;> (try with_reducible rfl)
            simp only [Act.put, List.setIfInBounds_toArray, List.set_cons_zero, List.set_cons_succ]
            refine held_take 1 (some 58) ?_ rfl rfl (by kernel_rfl) (by kernel_rfl) (by kernel_rfl) (fun _ _ _ h => h) (by kernel_rfl) ?_ (by assumption) ?_
            rotate_left
            · intro w hSw; (try dsimp only at hSw); go_simp <;> (try with_reducible rfl)
            simp only [Act.put, List.setIfInBounds_toArray, List.set_cons_zero, List.set_cons_succ]
            refine held_take 2 (some 59) ?_ rfl rfl (by kernel_rfl) (by kernel_rfl) (by kernel_rfl) (fun _ _ _ h => h) (by kernel_rfl) ?_ (by assumption) ?_
            rotate_left
            · intro w hSw; (try dsimp only at hSw); go_simp <;> (try with_reducible rfl)
            simp only [Act.put, List.setIfInBounds_toArray, List.set_cons_zero, List.set_cons_succ]
            refine held_take 3 (some 60) ?_ rfl rfl (by kernel_rfl) (by kernel_rfl) (by kernel_rfl) (fun _ _ _ h => h) (by kernel_rfl) ?_ (by assumption) ?_
            rotate_left
            · intro w hSw; (try dsimp only at hSw); go_simp <;> (try with_reducible rfl)
            simp only [Act.put, List.setIfInBounds_toArray, List.set_cons_zero, List.set_cons_succ]
            refine held_take 4 (some 61) ?_ rfl rfl (by kernel_rfl) (by kernel_rfl) (by kernel_rfl) (fun _ _ _ h => h) (by kernel_rfl) ?_ (by assumption) ?_
            rotate_left
            · intro w hSw; (try dsimp only at hSw); go_simp <;> (try with_reducible rfl)
            simp only [Act.put, List.setIfInBounds_toArray, List.set_cons_zero, List.set_cons_succ]
            refine wpAnyH_ready (rs := [5]) (by kernel_rfl) (by simp) (AllReadyH.cons rfl (fun K hK => ?_) AllReadyH.nil)
            go_simp
            (go_at_call 62; refine (Hns'.out _ (show BoundsAt w2.drew from Hg2.out)).mono ?_; rintro e3 w3 ⟨rfl, rfl⟩)
            go_wp2_with fail
            refine hK.out _ _ hHeld (fun hHeld => ?_)
            clear hK K
            try simp only [Act.put, List.setIfInBounds_toArray, List.set_cons_zero, List.set_cons_succ]
            refine held_take 6 (some 63) ?_ rfl rfl (by kernel_rfl) (by kernel_rfl) (by kernel_rfl) (fun _ _ _ h => h) (by kernel_rfl) ?_ (by assumption) ?_
            rotate_left
            · intro w hSw; (try dsimp only at hSw); go_simp <;> (try with_reducible rfl)
            simp only [Act.put, List.setIfInBounds_toArray, List.set_cons_zero, List.set_cons_succ]
            refine wpAnyH_done (by kernel_rfl) ?_ _
            go_wp2
            go_ret
            exact ⟨by rw [HRR.out]; rfl, below_drew Hfin.out⟩
        · have hwb' : whenB g e = false := by simpa using hwb
          have hct : ∀ W, Calls Tryd.prog (84 + g) #[e.agg] W (Makes (.bool false) W) := fun W => by rw [← hwb']; exact Hct.out e W
          have HCt := Lib.hid hct
          have Hst : Hid (vstep e (some r) (f, g) = some r) := by show _ = _; unfold vstep; simp only [Option.bind_some, hwb', Bool.false_eq_true, if_false]
          clear hct hwb hwb'
          go_wp2_with (first | (refine (HCt.out _).mono ?_; rintro e2 w2 ⟨rfl, hb3⟩; clear HCt))
          have hnew : Below Rb wo w2 ∧ EvOwn w2 Rb r ∧ (ps.take (k + 1)).foldl (vstep e) (some e) = some r := by
            refine ⟨Hbw2.out.trans (hb3.mono (Nat.le_of_lt Hown2.out.ev.lt)), Hown2.out.below' hb3, ?_⟩
            rw [take_step _ _ Hxk.out, H2.out.2.2, Hst.out]
          have Hnew := Lib.hid hnew
          clear hb3 hnew
          go_roundw
          case rel => exact ⟨k + 1, r, by omega, by go_num, Hnew.out⟩
          case measure => simp [intOf]; omega
      · have hkl : k = ps.length := by omega
        subst hkl
        have hfold := H2.out.2.2
        rw [List.take_length] at hfold
        have HRR : Hid (R = errV T er (if r = ⟨e.kind, 0, 0, 0, 0, 0, 0, 0⟩ then 0 else 6)) := by show _ = _; rw [HR2.out, hfold]
        obtain ⟨d0, d1, d2, d3, d4, d5, d6, d7⟩ := H2.out.2.1.ev
        have hBl : w.heap.size < Rb := by rw [HRb.out]; exact hwr.out.2.2.2.2
        have k0 : wr.cell? ⟨w.heap.size, 0, none⟩ = some (.int .i64 e.kind) := (hwr.out.2.1.below H2.out.1 hBl).c0
        have c6 : wr.cell? ⟨6, 0, none⟩ = some (.iface T (.pointer (some (er 6)))) := (hwr.out.1.below H2.out.1 (by have := hwr.out.1.size; have := HRb.out; omega)).eEvent
        have Hfin : Hid (Below w.heap.size w wr) := hwr.out.2.2.2.1.trans (H2.out.1.mono (Nat.le_of_lt hBl))
        clear hfold hBl hlt
        go_wp2
        all_goals
          go_ret
          refine ⟨?_, Hfin.out⟩
          rw [HRR.out]
          first
            | (rw [if_pos (ev_base (by assumption) (by assumption) (by assumption) (by assumption) (by assumption) (by assumption) (by assumption) (by assumption))]; rfl)
            | (rw [if_neg (by first | exact fun h => absurd (congrArg Ev.kind h) (by assumption) | exact fun h => absurd (congrArg Ev.tx h) (by assumption) | exact fun h => absurd (congrArg Ev.thread h) (by assumption) | exact fun h => absurd (congrArg Ev.obj h) (by assumption) | exact fun h => absurd (congrArg Ev.op h) (by assumption) | exact fun h => absurd (congrArg Ev.key h) (by assumption) | exact fun h => absurd (congrArg Ev.val h) (by assumption) | exact fun h => absurd (congrArg Ev.ret h) (by assumption))]; rfl)

theorem valid_any (e : Ev) (w : World) (hG : Glob T er w) : Calls Tryd.prog 59 #[e.agg] w (Makes (errV T er (validN e)) w) := by
  cases hk : isKind e.kind with
  | true => exact valid_is e hk w hG
  | false => exact valid_no e hk w hG
end Go.Proofs.YtfjjhjojcgacbaaDoor

/- General: cells behind an address; facts on blocks carried on; new boxes; copies of rows of structs. -/
namespace Go.Proofs.YtfjjhjojcgacbaaDoor
open Go.RowKit Go.Maps Go.WideMaps Go.WideElems Go.ChangeShapes Go.WideShapes

/-- Cells that lie behind a slice's address. -/
def SlAt (W : World) (a : Option Addr) (xs : List Value) : Prop := (a = none ∧ xs = []) ∨ ∃ b off, a = some ⟨b, off, none⟩ ∧ (xs ≠ [] → b < W.heap.size) ∧ ∀ j u, xs[j]? = some u → W.cell? ⟨b, off + j, none⟩ = some u

theorem SlAt.below {W W' : World} {a : Option Addr} {xs : List Value} (h : SlAt W a xs) (hb : Below W.heap.size W W') : SlAt W' a xs := by
  rcases h with h | ⟨b, off, e, hl, h⟩
  · exact .inl h
  · refine .inr ⟨b, off, e, fun hx => Nat.lt_of_lt_of_le (hl hx) hb.size, fun j u hj => ?_⟩
    have hne : xs ≠ [] := by intro e'; rw [e'] at hj; simp at hj
    exact (hb.cell (p := ⟨b, off + j, none⟩) (hl hne)).trans (h j u hj)

theorem SlAt.drew {W : World} {a : Option Addr} {xs : List Value} (h : SlAt W a xs) : SlAt W.drew a xs := h

/-- A row of one's own, read. -/
theorem row_sl {W : World} {B : Nat} {e : TypeId} {size n : Nat} {v : Value} {xs : List Value} (h : W.ownsRow B e size v n xs) : ∃ a c, v = .slice a n c ∧ SlAt W a xs ∧ n ≤ c := by
  obtain ⟨hl, ⟨rfl, h0⟩ | ⟨g, cap, cur, rfl, hb, hg, hn, hm, hs, ht⟩⟩ := h
  · subst h0
    exact ⟨none, 0, rfl, .inl ⟨rfl, List.eq_nil_of_length_eq_zero (by rw [hl]; simp)⟩, Nat.le_refl _⟩
  · refine ⟨_, cap, rfl, .inr ⟨g, 0, rfl, fun _ => (Array.getElem?_eq_some_iff.1 hg).1, fun j u hj => ?_⟩, hn⟩
    rw [Nat.zero_add]
    have hj2 : cur[j]? = some u := by
      rw [← ht, List.getElem?_take] at hj
      split at hj
      · simpa using hj
      · cases hj
    simp [World.cell?, hg, hj2]

theorem Below.of_own {w W1 W2 : World} (hb : Below w.heap.size w W1) {v : Value} (hg : W1.grownBy W2 v.ownBlock) (hB : ∀ k, v.ownBlock = some k → w.heap.size ≤ k) : Below w.heap.size w W2 :=
  hb.grown hg hb.size (fun k hk => hB k hk)

theorem row_base {W : World} {B B' : Nat} {e : TypeId} {size n : Nat} {v : Value} {xs : List Value} (h : W.ownsRow B e size v n xs) (hB : B' ≤ B) : W.ownsRow B' e size v n xs :=
  ⟨h.1, h.2.imp id fun ⟨g, cap, cur, e, hb, r⟩ => ⟨g, cap, cur, e, Nat.le_trans hB hb, r⟩⟩

theorem boxed_below {W W' : World} {B B0 : Nat} {t : TypeId} {v : Value} (h : Boxed W B t v) (hb : Below B0 W W') (hB : B < B0) : Boxed W' B t v := (hb.block B hB).trans h

/-- A new box. -/
theorem box_new (w : World) (t : TypeId) (v : Value) : ∃ W, w.alloc (.cells #[v] t) = W ∧ Hid (Below w.heap.size w W) ∧ Hid (w.heap.size < W.heap.size) ∧ Hid (Boxed W w.heap.size t v) := by
  refine ⟨_, rfl, (Below.refl _ _).alloc (Nat.le_refl _) _, ?_, Boxed.new w t v⟩
  show _ < _
  simp

theorem row_three {W : World} {B : Nat} {x y z : Value} {t : TypeId} (h : W.heap[B]? = some (.cells #[x, y, z] t)) : W.cell? ⟨B, 0, none⟩ = some x ∧ W.cell? ⟨B, 1, none⟩ = some y ∧ W.cell? ⟨B, 2, none⟩ = some z := by simp [World.cell?, h]

/-- A new row of cells. -/
theorem cells_new (w : World) (cs : Array Value) (t : TypeId) : ∃ W, w.alloc (.cells cs t) = W ∧ Hid (Below w.heap.size w W) ∧ Hid (w.heap.size < W.heap.size) ∧ Hid (W.heap[w.heap.size]? = some (.cells cs t)) := by
  refine ⟨_, rfl, (Below.refl _ _).alloc (Nat.le_refl _) _, ?_, World.alloc_heap_new w _⟩
  show _ < _
  simp

theorem row_sl0 {W : World} {B : Nat} {e : TypeId} {size n c : Nat} {a : Option Addr} {xs : List Value} (h : W.ownsRow B e size (.slice a n c) n xs) : SlAt W a xs ∧ (a = none → c = 0) := by
  obtain ⟨a', c', e', hs, _⟩ := row_sl h
  cases e'
  refine ⟨hs, fun ha => ?_⟩
  rcases h.2 with ⟨e1, _⟩ | ⟨g, cap, cur, e1, _⟩
  · cases e1; rfl
  · subst ha; cases e1

theorem newA {V : World} {k : Nat} (o : Obj) (h : k = V.heap.size) : (V.alloc o).heap[k]? = some o := by subst h; exact World.alloc_heap_new V o

theorem keepA {V : World} {k : Nat} {x : Obj} (o : Obj) (h : V.heap[k]? = some x) : (V.alloc o).heap[k]? = some x := (Below.heap_alloc _ _ _ (Array.getElem?_eq_some_iff.1 h).1).trans h

theorem keepB {V W : World} {k : Nat} {x : Obj} (hb : Below V.heap.size V W) (h : V.heap[k]? = some x) : W.heap[k]? = some x := (hb.block k (Array.getElem?_eq_some_iff.1 h).1).trans h

theorem keepD {V : World} {k : Nat} {x : Obj} (h : V.heap[k]? = some x) : V.drew.heap[k]? = some x := h

theorem keepS {V : World} {k r o : Nat} {x : Obj} {v : Value} (hne : r ≠ k) (h : V.heap[k]? = some x) : (V.setCell ⟨r, o, none⟩ v).heap[k]? = some x := (Below.heap_setCell V ⟨r, o, none⟩ v k (fun e => hne e.symm)).trans h

theorem keepG {V W : World} {k : Nat} {x : Obj} {o : Option Nat} (hg : V.grownBy W o) (hne : o ≠ some k) (h : V.heap[k]? = some x) : W.heap[k]? = some x := (hg.block k (Array.getElem?_eq_some_iff.1 h).1 (fun e => hne e.symm)).trans h

theorem stepA {W V : World} (h : Below W.heap.size W V) (o : Obj) : Below W.heap.size W (V.alloc o) := h.alloc h.size o

theorem stepB {W V U : World} (h : Below W.heap.size W V) (k : Below V.heap.size V U) : Below W.heap.size W U := h.trans (k.mono h.size)

theorem ne_of_type {W : World} {a b : Nat} {c c' : Array Value} {t t' : TypeId} (h1 : W.heap[a]? = some (.cells c t)) (h2 : W.heap[b]? = some (.cells c' t')) (ht : t ≠ t') : a ≠ b := by
  rintro rfl
  rw [h1] at h2
  cases h2
  exact ht rfl

theorem one_row {W : World} {q : Nat} {u : Value} {t : TypeId} (h : W.heap[q]? = some (.cells #[u] t)) : ∀ j v, [u][j]? = some v → W.cell? ((⟨q, 0, none⟩ : Addr).add j) = some v := World.news_of_block h

theorem row_kept {W W' : World} {B : Nat} {e : TypeId} {size n : Nat} {v : Value} {xs : List Value} (h : W.ownsRow B e size v n xs) (hb : Below W.heap.size W W') : W'.ownsRow B e size v n xs :=
  ⟨h.1, h.2.imp id fun ⟨g, cap, cur, e, hB, hg, r⟩ => ⟨g, cap, cur, e, hB, (hb.block g (Array.getElem?_eq_some_iff.1 hg).1).trans hg, r⟩⟩

/-- A row's cells, at its address. -/
theorem row_news {W : World} {B e size n g c : Nat} {xs : List Value} (h : W.ownsRow B e size (.slice (some ⟨g, 0, none⟩) n c) n xs) : ∀ j u, xs[j]? = some u → W.cell? ((⟨g, 0, none⟩ : Addr).add j) = some u := by
  obtain ⟨hl, ⟨e1, _⟩ | ⟨g', cap, cur, e1, hb, hg, hn, hm, hs, ht⟩⟩ := h
  · cases e1
  · cases e1
    intro j u hj
    refine World.news_of_block hg j u ?_
    rw [← ht, List.getElem?_take] at hj
    split at hj
    · simpa using hj
    · cases hj

/-- A row's block. -/
theorem row_heap {W : World} {B e size n g c : Nat} {xs : List Value} (h : W.ownsRow B e size (.slice (some ⟨g, 0, none⟩) n c) n xs) : B ≤ g ∧ ∃ cur, W.heap[g]? = some (.cells cur e) := by
  obtain ⟨hl, ⟨e1, _⟩ | ⟨g', cap, cur, e1, hb, hg, hn, hm, hs, ht⟩⟩ := h
  · cases e1
  · cases e1; exact ⟨hb, cur, hg⟩

/-- An append of however many as one step of a region. -/
theorem step_append_own {P : Program} {ops : Array Oper} {o : Oper} {a : Act} {w : World} {K : Act → World → Prop} {Q : Exit → Act → World → Prop} {E : Prop} (hgd : o.guard = none) (s x : Operand) (t : TypeId)
    (ho : o.op = .call { callee := .builtin .append, args := #[s, x], argTypes := #[t, t] })
    (base : Nat) (e : TypeId) (i : TypeInfo) (z : Value) (size bytes : Nat) (ht : P.underlying t = some (.slice e)) (hi : P.info? e = some i) (hz : i.zero = some z)
    (hsize : i.size = size) (hby : i.bytes = bytes) (hzs : z.cells.size = size) (hsz : 0 < size)
    (v : Value) (n : Nat) (xs : List Value) (hs : a.eval s = v) (hown : w.ownsRow base e size v n xs)
    (ad : Addr) (m c : Nat) (news : List Value) (hx : a.eval x = .slice (some ad) m c) (hl : news.length = m * size) (hnews : ∀ j u, news[j]? = some u → w.cell? (ad.add j) = some u) (h1 : ∀ u ∈ news, u.oneCell' = true)
    (h63 : n + m ≤ maxLen) (hbytes : (n + m) * bytes ≤ 140737488355328) (hbase : base ≤ w.heap.size)
    (h : ∀ v' w', w'.ownsRow base e size v' (n + m) (xs ++ news) → w.grownBy w' v.ownBlock → K (a.put o.dst v') w') :
    if Region.wanted o (yielded ops a.tmps) = true then Oper.wp P o a w K Q else E := by
  have hw : Region.wanted o (yielded ops a.tmps) = true := by simp [Region.wanted, hgd]
  rw [if_pos hw]
  exact wp_append_own w s x t ho base e i z size bytes ht hi hz hsize hby hzs hsz v n xs hs hown ad m c news hx hl hnews h1 h63 hbytes hbase fun v' w' h2 h3 _ => h v' w' h2 h3

theorem below_own {B e size n : Nat} {v : Value} {xs : List Value} {w0 w1 w2 : World} (hb : Below B w0 w1) (hg : w1.grownBy w2 v.ownBlock) (hr : w1.ownsRow B e size v n xs) (hB : B ≤ w1.heap.size) : Below B w0 w2 :=
  hb.grown hg hB (fun k hk => (hr.lt k hk).1)

theorem stepD {W V : World} {n : Nat} (h : Below n W V) : Below n W V.drew := h.drew

theorem cellB {W V : World} {n b o : Nat} {u : Value} (h : Below n W V) (hn : b < n) (hc : W.cell? ⟨b, o, none⟩ = some u) : V.cell? ⟨b, o, none⟩ = some u := (h.cell (p := ⟨b, o, none⟩) hn).trans hc

theorem cellS {W : World} {a b o o' : Nat} {u v : Value} (hne : a ≠ b) (h : W.cell? ⟨a, o, none⟩ = some u) : (W.setCell ⟨b, o', none⟩ v).cell? ⟨a, o, none⟩ = some u := by
  have e := Below.heap_setCell W ⟨b, o', none⟩ v a hne
  simp only [World.cell?] at h ⊢
  rw [e]; exact h

/-- A box of two, written. -/
theorem box_put2 {w V : World} {rb : Nat} {x y : Value} {t : TypeId} (p q : Value) (hM : V.heap[rb]? = some (.cells #[x, y] t)) (hr : w.heap.size ≤ rb) :
    ∃ V1 V2, V.setCell ⟨rb, 0, none⟩ p = V1 ∧ V1.setCell ⟨rb, 1, none⟩ q = V2 ∧ ((V.cell? ⟨rb, 0, none⟩ = some x ∧ V.frozen? ⟨rb, 0, none⟩ = false) ∧ (V1.cell? ⟨rb, 1, none⟩ = some y ∧ V1.frozen? ⟨rb, 1, none⟩ = false)) ∧ Hid (V2.heap[rb]? = some (.cells #[p, q] t)) ∧ Hid (Below w.heap.size V V2) := by
  have h1 : (V.setCell ⟨rb, 0, none⟩ p).heap[rb]? = some (.cells #[p, y] t) := heap_setCell_same V rb 0 _ t p hM
  exact ⟨_, _, rfl, rfl, ⟨⟨(cell_of_row _ _ 0 _ _ _ hM).trans rfl, frozen_of_row _ rb 0 _ t hM⟩, ⟨(cell_of_row _ _ 1 _ _ _ h1).trans rfl, frozen_of_row _ rb 1 _ t h1⟩⟩, heap_setCell_same _ rb 1 _ t q h1, ((Below.refl _ V).setCell (p := ⟨rb, 0, none⟩) hr _).setCell (p := ⟨rb, 1, none⟩) hr _⟩

theorem results_row_tmp2 {P : Program} {fn : Func} {p u1 u2 : Tmp} {ty : TypeId} (h : fn.results = #[.cell p ty, .tmp u1, .tmp u2]) (tmps : Array Value) (w : World) (g : Nat) (t : TypeId) (cs : Array Value) (fr : Nat × Nat) (d : TypeDesc)
    (hp : tmps.getD p undef = .pointer (some ⟨g, 0, none⟩)) (hg : w.heap[g]? = some (.cells cs t fr))
    (hu : P.underlying ty = some d) (hd : (match d with | .struct _ | .array _ _ => true | _ => false) = true) (hi : (P.info? ty).map (·.size) = some cs.size) :
    (results fn tmps).run P w = .ok (.tuple #[.agg cs, tmps.getD u1 undef, tmps.getD u2 undef]) w := by
  have hp' : tmps[p]?.getD undef = .pointer (some ⟨g, 0, none⟩) := by simpa using hp
  simp only [results, h]
  simp [hp', asAddr, run_loadVar_row w g t ty cs fr d hg hu hd hi, Result.andThen]

/-- A box of one, written. -/
theorem box_put1 {w V : World} {rb : Nat} {x : Value} {t : TypeId} (p : Value) (hM : V.heap[rb]? = some (.cells #[x] t)) (hr : w.heap.size ≤ rb) :
    ∃ V1, V.setCell ⟨rb, 0, none⟩ p = V1 ∧ (V.cell? ⟨rb, 0, none⟩ = some x ∧ V.frozen? ⟨rb, 0, none⟩ = false) ∧ Hid (V1.heap[rb]? = some (.cells #[p] t)) ∧ Hid (Below w.heap.size V V1) :=
  ⟨_, rfl, ⟨(cell_of_row _ _ 0 _ _ _ hM).trans rfl, frozen_of_row _ rb 0 _ t hM⟩, heap_setCell_same V rb 0 _ t p hM, (Below.refl _ V).setCell (p := ⟨rb, 0, none⟩) hr _⟩

theorem results_row_tmp {P : Program} {fn : Func} {p u : Tmp} {ty : TypeId} (h : fn.results = #[.cell p ty, .tmp u]) (tmps : Array Value) (w : World) (g : Nat) (t : TypeId) (cs : Array Value) (fr : Nat × Nat) (d : TypeDesc)
    (hp : tmps.getD p undef = .pointer (some ⟨g, 0, none⟩)) (hg : w.heap[g]? = some (.cells cs t fr))
    (hu : P.underlying ty = some d) (hd : (match d with | .struct _ | .array _ _ => true | _ => false) = true) (hi : (P.info? ty).map (·.size) = some cs.size) :
    (results fn tmps).run P w = .ok (.tuple #[.agg cs, tmps.getD u undef]) w := by
  rw [results_cell_tmp h, hp]
  simp [asAddr, run_loadVar_row w g t ty cs fr d hg hu hd hi, Result.andThen]

/-- Two blocks of unlike types are two. -/
theorem row_apart {W : World} {B e size n k : Nat} {t : TypeId} {v u : Value} {xs : List Value} (hr : W.ownsRow B e size v n xs) (hb : Boxed W k t u) (hte : t ≠ e) : v.ownBlock ≠ some k := by
  rcases hr.2 with ⟨rfl, _⟩ | ⟨g, cap, cur, rfl, _, hg, _⟩
  · simp [Value.ownBlock]
  · intro e1
    have e2 : g = k := by simpa [Value.ownBlock] using e1
    subst e2
    rw [show W.heap[g]? = _ from hb] at hg
    injection hg with hg
    injection hg with _ h2
    exact hte h2

theorem row_setBox {W : World} {B e size n k : Nat} {t : TypeId} {v u : Value} {xs : List Value} (hr : W.ownsRow B e size v n xs) (hb : Boxed W k t u) (hte : t ≠ e) (x : Value) : (W.setCell ⟨k, 0, none⟩ x).ownsRow B e size v n xs := by
  have hne := row_apart hr hb hte
  refine ⟨hr.1, hr.2.imp id ?_⟩
  rintro ⟨g, cap, cur, rfl, hB, hg, r⟩
  exact ⟨g, cap, cur, rfl, hB, (Below.heap_setCell _ _ _ _ (fun e => hne (by simp [Value.ownBlock, e]))).trans hg, r⟩

theorem boxed_apart {W W' : World} {B e size n k : Nat} {t : TypeId} {v u : Value} {xs : List Value} (hr : W.ownsRow B e size v n xs) (hb : Boxed W k t u) (hte : t ≠ e) (hg : W.grownBy W' v.ownBlock) : Boxed W' k t u :=
  (hg.block k (Array.getElem?_eq_some_iff.1 hb).1 (fun e => row_apart hr hb hte e.symm)).trans hb

/-- Objects as cells. -/
def obs (os : List (Int × Int)) : List Value := os.flatMap fun o => [.int .i64 o.1, .int .i64 o.2]

end Go.Proofs.YtfjjhjojcgacbaaDoor

/- Rows of objects and of events: copies, by contracts. -/
namespace Go.Proofs.YtfjjhjojcgacbaaDoor
open Go.RowKit Go.Maps Go.WideMaps Go.WideElems Go.ChangeShapes Go.WideShapes

/-- Events as cells. -/
def Ev.row (e : Ev) : List Value := [.int .i64 e.kind, .int .i64 e.tx, .int .i64 e.thread, .int .i64 e.obj, .int .i64 e.op, .int .i64 e.key, .int .i64 e.val, .int .i64 e.ret]
def evs (es : List Ev) : List Value := es.flatMap Ev.row
theorem obs_len (os : List (Int × Int)) : (obs os).length = os.length * 2 := by
  unfold obs; induction os with
  | nil => rfl
  | cons o os ih => simp [List.flatMap_cons, ih]; omega
theorem evs_len (es : List Ev) : (evs es).length = es.length * 8 := by
  unfold evs; induction es with
  | nil => rfl
  | cons o os ih => simp [List.flatMap_cons, ih, Ev.row]; omega
theorem obs_one (os : List (Int × Int)) : ∀ u ∈ obs os, u.oneCell' = true := by
  intro u hu; simp [obs] at hu; rcases hu with ⟨a, b, _, rfl | rfl⟩ <;> rfl
theorem evs_one (es : List Ev) : ∀ u ∈ evs es, u.oneCell' = true := by
  intro u hu; simp [evs, Ev.row] at hu; rcases hu with ⟨e, _, rfl | rfl | rfl | rfl | rfl | rfl | rfl | rfl⟩ <;> rfl
theorem elem31 : (Tryd.prog.info? 31).map (fun i => (i.zero, i.size, i.bytes)) = some (some (.agg #[.int .i64 0, .int .i64 0]), 2, 16) := by kernel_rfl
theorem elem34 : (Tryd.prog.info? 34).map (fun i => (i.zero, i.size, i.bytes)) = some (some Ev.zero.agg, 8, 64) := by kernel_rfl
theorem two_at {xs : List Value} {n k : Nat} (h : xs.length = n * 2) (hk : k < n) : ∃ p0 p1, (xs[k * 2]? = some p0 ∧ xs[k * 2 + 1]? = some p1) ∧ xs.take ((k + 1) * 2) = xs.take (k * 2) ++ [p0, p1] := by
  have l0 : k * 2 < xs.length := by omega
  have l1 : k * 2 + 1 < xs.length := by omega
  refine ⟨xs[k * 2], xs[k * 2 + 1], ⟨List.getElem?_eq_getElem l0, List.getElem?_eq_getElem l1⟩, ?_⟩
  have e : (k + 1) * 2 = k * 2 + 1 + 1 := by omega
  rw [e, List.take_succ_eq_append_getElem l1, List.take_succ_eq_append_getElem l0]
  simp only [List.append_assoc, List.cons_append, List.nil_append]
theorem two_news (w : World) (p0 p1 : Value) (t : TypeId) : ∀ j u, [p0, p1][j]? = some u → (w.alloc (.cells #[p0, p1] t)).cell? ((⟨w.heap.size, 0, none⟩ : Addr).add j) = some u := World.news_of_block (World.alloc_heap_new w _)
theorem eight_at {xs : List Value} {n k : Nat} (h : xs.length = n * 8) (hk : k < n) : ∃ p0 p1 p2 p3 p4 p5 p6 p7, (xs[k * 8]? = some p0 ∧ xs[k * 8 + 1]? = some p1 ∧ xs[k * 8 + 2]? = some p2 ∧ xs[k * 8 + 3]? = some p3 ∧ xs[k * 8 + 4]? = some p4 ∧ xs[k * 8 + 5]? = some p5 ∧ xs[k * 8 + 6]? = some p6 ∧ xs[k * 8 + 7]? = some p7) ∧ xs.take ((k + 1) * 8) = xs.take (k * 8) ++ [p0, p1, p2, p3, p4, p5, p6, p7] := by
  have l0 : k * 8 < xs.length := by omega
  have l1 : k * 8 + 1 < xs.length := by omega
  have l2 : k * 8 + 2 < xs.length := by omega
  have l3 : k * 8 + 3 < xs.length := by omega
  have l4 : k * 8 + 4 < xs.length := by omega
  have l5 : k * 8 + 5 < xs.length := by omega
  have l6 : k * 8 + 6 < xs.length := by omega
  have l7 : k * 8 + 7 < xs.length := by omega
  refine ⟨xs[k * 8], xs[k * 8 + 1], xs[k * 8 + 2], xs[k * 8 + 3], xs[k * 8 + 4], xs[k * 8 + 5], xs[k * 8 + 6], xs[k * 8 + 7], ⟨List.getElem?_eq_getElem l0, List.getElem?_eq_getElem l1, List.getElem?_eq_getElem l2, List.getElem?_eq_getElem l3, List.getElem?_eq_getElem l4, List.getElem?_eq_getElem l5, List.getElem?_eq_getElem l6, List.getElem?_eq_getElem l7⟩, ?_⟩
  have e : (k + 1) * 8 = k * 8 + 1 + 1 + 1 + 1 + 1 + 1 + 1 + 1 := by omega
  rw [e, List.take_succ_eq_append_getElem l7, List.take_succ_eq_append_getElem l6, List.take_succ_eq_append_getElem l5, List.take_succ_eq_append_getElem l4, List.take_succ_eq_append_getElem l3, List.take_succ_eq_append_getElem l2, List.take_succ_eq_append_getElem l1, List.take_succ_eq_append_getElem l0]
  simp only [List.append_assoc, List.cons_append, List.nil_append]
theorem eight_news (w : World) (p0 p1 p2 p3 p4 p5 p6 p7 : Value) (t : TypeId) : ∀ j u, [p0, p1, p2, p3, p4, p5, p6, p7][j]? = some u → (w.alloc (.cells #[p0, p1, p2, p3, p4, p5, p6, p7] t)).cell? ((⟨w.heap.size, 0, none⟩ : Addr).add j) = some u := World.news_of_block (World.alloc_heap_new w _)

set_option maxHeartbeats 2000000 in
set_option maxRecDepth 100000 in
theorem clone_obs (a : Option Addr) (n c : Nat) (xs : List Value) (hx : xs.length = n * 2) (h1 : ∀ u ∈ xs, u.oneCell' = true) (hn : n ≤ 100000) (w : World) (h : SlAt w a xs) :
    Calls Tryd.prog 39 #[.slice a n c] w fun e w' => ∃ v', e = .returned v' ∧ Hid (w'.ownsRow w.heap.size 31 2 v' n xs ∧ Below w.heap.size w w') := by
  obtain ⟨i0, hi, hz0, hz1, hz2⟩ := info_parts elem31
  have q22 : ∀ (w : World) (a : Option Addr) (n c n' c' : Nat), (Go.binOp .eql 22 (.slice a n c) (.slice none n' c')).run Tryd.prog w = .ok (.bool a.isNone) w := fun w a n c n' c' => Lib.run_eql_slice_nil w _ _ a n c n' c' Tryd.underlying22
  rcases h with ⟨rfl, rfl⟩ | ⟨b, off, rfl, hbl, hc⟩
  · have hn0 : n = 0 := by simp at hx; omega
    subst hn0
    clear hx h1 hn
    go_enter Tryd.func39, Tryd.ntmps39
    go_wp2
    go_ret
    exact ⟨_, rfl, ⟨rfl, .inl ⟨rfl, rfl⟩⟩, Below.refl _ _⟩
  have A : Aside (∀ j u, xs[j]? = some u → w.cell? ⟨b, off + j, none⟩ = some u) := hc
  have Hx := Lib.hid hx
  have H1 := Lib.hid h1
  clear hc hbl hx h1
  go_enter Tryd.func39, Tryd.ntmps39
  go_wp2_with (at_builtin; refine wpList_append_own _ rfl _ _ 22 rfl w.heap.size 31 i0 (.agg #[.int .i64 0, .int .i64 0]) 2 16 Tryd.underlying22 hi hz0 hz1 hz2 rfl (by decide) _ _ _ rfl (World.ownsRow_made w #[] 0 (Nat.le_refl _) (Nat.zero_le _) rfl) ⟨b, off, none⟩ n c xs rfl ?qc1 ?qc2 ?qc3 ?qc4 ?qc5 ?qc6 ?_)
  case qc1 => exact Hx.out
  case qc2 =>
    intro j u hj
    rw [Addr.add_lit]
    refine Lib.cell?_alloc_some _ ?_
    exact A.out j u hj
  case qc3 => exact H1.out
  case qc4 => unfold maxLen; omega
  case qc5 => omega
  case qc6 => simp
  intro v' w1 hown hgrow hnil
  have Ho : Hid (w1.ownsRow w.heap.size 31 2 v' n xs ∧ Below w.heap.size w w1) := ⟨by simpa using hown, ((Below.refl _ w).alloc (Nat.le_refl _) _).grown hgrow (by simp) (by intro k hk; simp [Value.ownBlock] at hk; omega)⟩
  clear hown hgrow hnil
  go_wp2
  go_ret
  exact ⟨v', rfl, Ho.out⟩

set_option maxHeartbeats 2000000 in
set_option maxRecDepth 100000 in
theorem clone_evs (a : Option Addr) (n c : Nat) (xs : List Value) (hx : xs.length = n * 8) (h1 : ∀ u ∈ xs, u.oneCell' = true) (hn : n ≤ 100000) (w : World) (h : SlAt w a xs) :
    Calls Tryd.prog 49 #[.slice a n c] w fun e w' => ∃ v', e = .returned v' ∧ Hid (w'.ownsRow w.heap.size 34 8 v' n xs ∧ Below w.heap.size w w') := by
  obtain ⟨i0, hi, hz0, hz1, hz2⟩ := info_parts elem34
  have q22 : ∀ (w : World) (a : Option Addr) (n c n' c' : Nat), (Go.binOp .eql 23 (.slice a n c) (.slice none n' c')).run Tryd.prog w = .ok (.bool a.isNone) w := fun w a n c n' c' => Lib.run_eql_slice_nil w _ _ a n c n' c' Tryd.underlying23
  rcases h with ⟨rfl, rfl⟩ | ⟨b, off, rfl, hbl, hc⟩
  · have hn0 : n = 0 := by simp at hx; omega
    subst hn0
    clear hx h1 hn
    go_enter Tryd.func49, Tryd.ntmps49
    go_wp2
    go_ret
    exact ⟨_, rfl, ⟨rfl, .inl ⟨rfl, rfl⟩⟩, Below.refl _ _⟩
  have A : Aside (∀ j u, xs[j]? = some u → w.cell? ⟨b, off + j, none⟩ = some u) := hc
  have Hx := Lib.hid hx
  have H1 := Lib.hid h1
  clear hc hbl hx h1
  go_enter Tryd.func49, Tryd.ntmps49
  go_wp2_with (at_builtin; refine wpList_append_own _ rfl _ _ 23 rfl w.heap.size 34 i0 Ev.zero.agg 8 64 Tryd.underlying23 hi hz0 hz1 hz2 rfl (by decide) _ _ _ rfl (World.ownsRow_made w #[] 0 (Nat.le_refl _) (Nat.zero_le _) rfl) ⟨b, off, none⟩ n c xs rfl ?qc1 ?qc2 ?qc3 ?qc4 ?qc5 ?qc6 ?_)
  case qc1 => exact Hx.out
  case qc2 =>
    intro j u hj
    rw [Addr.add_lit]
    refine Lib.cell?_alloc_some _ ?_
    exact A.out j u hj
  case qc3 => exact H1.out
  case qc4 => unfold maxLen; omega
  case qc5 => omega
  case qc6 => simp
  intro v' w1 hown hgrow hnil
  have Ho : Hid (w1.ownsRow w.heap.size 34 8 v' n xs ∧ Below w.heap.size w w1) := ⟨by simpa using hown, ((Below.refl _ w).alloc (Nat.le_refl _) _).grown hgrow (by simp) (by intro k hk; simp [Value.ownBlock] at hk; omega)⟩
  clear hown hgrow hnil
  go_wp2
  go_ret
  exact ⟨v', rfl, Ho.out⟩

set_option maxRecDepth 100000 in
set_option maxHeartbeats 2000000 in
theorem robs (a : Option Addr) (n c : Nat) (xs : List Value) (hxs : xs.length = n * 2) (hn : n ≤ 100000) (h1 : ∀ u ∈ xs, u.oneCell' = true) (w : World) (h : SlAt w a xs) :
    Calls Tryd.prog 10 #[.slice a n c] w fun e w' => ∃ v', e = .returned v' ∧ Hid (w'.ownsRow w.heap.size 31 2 v' n xs ∧ Below w.heap.size w w') := by
  obtain ⟨i0, hi, hz0, hz1, hz2⟩ := info_parts elem31
  have H := Lib.hid h
  have Hn := Lib.hid hxs
  have H1 := Lib.hid h1
  have Hsm : Hid (n ≤ 100000) := hn
  clear h hxs h1
  go_enter Tryd.func10, Tryd.ntmps10
  go_wp2_with (at_make; refine wpList_make_own _ rfl _ _ 22 rfl w.heap.size 31 i0 (.agg #[.int .i64 0, .int .i64 0]) 2 Tryd.underlying22 hi hz0 hz1 _ _ _ n rfl rfl (by simp) (by rw [hz2]; omega) (by unfold maxLen; omega) (Nat.le_refl _) ?_)
  intro w1 hown1 hgrow1
  have Ho1 : Hid (Below w.heap.size w w1) := (Below.refl _ w).grown hgrow1 (Nat.le_refl _) (fun k hk => by cases hk)
  have Hown1 := Lib.hid hown1
  clear hown1 hgrow1
  go_wp2_with fail
  go_loopw [3, 4] (fun v i wr => ∃ k : Nat, k ≤ n ∧ i = .int .i64 k ∧ Hid (wr.ownsRow w.heap.size 31 2 v k (xs.take (k * 2))) ∧ Hid (Below w.heap.size w wr)) (fun _ i _ => n - (intOf i).toNat)
  case atStart => exact ⟨0, Nat.zero_le _, rfl, Hown1.out, Ho1.out⟩
  case round =>
    obtain ⟨k, hk, rfl, Hown, Ho⟩ := hrel
    obtain ⟨v, hv⟩ : ∃ v, u3 = v := ⟨_, rfl⟩
    rw [hv] at Hown ⊢
    clear hv
    by_cases hlt2 : k < n
    · obtain ⟨p0, p1, ⟨e0, e1⟩, et⟩ := two_at Hn.out hlt2
      rcases H.out with ⟨-, e⟩ | ⟨b, off, rfl, hb, hc⟩
      · rw [e] at e0; simp at e0
      have hbl := hb (by intro e; rw [e] at e0; simp at e0)
      have v0 := (Ho.out.cell (p := ⟨b, off + k * 2, none⟩) hbl).trans (hc _ _ e0)
      have v1 : wr.cell? ⟨b, off + k * 2 + 1, none⟩ = some p1 := (Ho.out.cell (p := ⟨b, off + (k * 2 + 1), none⟩) hbl).trans (hc _ _ e1)
      have Ho4 : Hid (∀ u ∈ [p0, p1], u.oneCell' = true) := by
        intro u hu
        simp only [List.mem_cons, List.not_mem_nil, or_false] at hu
        rcases hu with rfl | rfl
        · exact H1.out _ (List.mem_of_getElem? e0)
        · exact H1.out _ (List.mem_of_getElem? e1)
      have Et := Lib.hid et
      have Hsz := Lib.hid Ho.out.size
      clear hc hb e0 e1 et
      go_wp2_with (at_builtin; refine wpList_append_own _ rfl _ _ 22 rfl w.heap.size 31 i0 (.agg #[.int .i64 0, .int .i64 0]) 2 16 Tryd.underlying22 hi hz0 hz1 hz2 rfl (by decide) v _ _ rfl (Hown.out.alloc _) ⟨wr.heap.size, 0, none⟩ 1 1 [p0, p1] rfl rfl (two_news _ _ _ _) Ho4.out (by unfold maxLen; have := Hsm.out; omega) (by have := Hsm.out; omega) (by show _ ≤ _; simp; exact Nat.le_trans Hsz.out (Nat.le_succ _)) ?_)
      intro v' w4 hown4 hgrow4 hnil4
      have Ho5 : Hid (Below w.heap.size w w4) := (Ho.out.alloc Hsz.out (.cells #[p0, p1] 31)).grown hgrow4 (by show _ ≤ _; simp; exact Nat.le_trans Hsz.out (Nat.le_succ _)) (fun k hk => (Hown.out.lt k hk).1)
      have Hown4 : Hid (w4.ownsRow w.heap.size 31 2 v' (k + 1) (xs.take ((k + 1) * 2))) := by show World.ownsRow _ _ _ _ _ _ _; rw [Et.out]; exact hown4
      clear hown4 hgrow4 hnil4 Hown Ho v0 v1 Et Hsz
      go_wp2_with fail
      go_roundw
      case rel => exact ⟨k + 1, by omega, by go_num, Hown4.out, Ho5.out⟩
      case measure => simp [intOf]; omega
    · have hkn : k = n := by omega
      go_wp2_with fail
      go_ret
      have h9 := Hown.out
      rw [hkn, List.take_of_length_le (by rw [Hn.out]; exact Nat.le_refl _)] at h9
      exact ⟨_, rfl, h9, Ho.out⟩

set_option maxRecDepth 100000 in
set_option maxHeartbeats 2000000 in
theorem revs (a : Option Addr) (n c : Nat) (xs : List Value) (hxs : xs.length = n * 8) (hn : n ≤ 100000) (h1 : ∀ u ∈ xs, u.oneCell' = true) (w : World) (h : SlAt w a xs) :
    Calls Tryd.prog 11 #[.slice a n c] w fun e w' => ∃ v', e = .returned v' ∧ Hid (w'.ownsRow w.heap.size 34 8 v' n xs ∧ Below w.heap.size w w') := by
  obtain ⟨i0, hi, hz0, hz1, hz2⟩ := info_parts elem34
  have H := Lib.hid h
  have Hn := Lib.hid hxs
  have H1 := Lib.hid h1
  have Hsm : Hid (n ≤ 100000) := hn
  clear h hxs h1
  go_enter Tryd.func11, Tryd.ntmps11
  go_wp2_with (at_make; refine wpList_make_own _ rfl _ _ 23 rfl w.heap.size 34 i0 Ev.zero.agg 8 Tryd.underlying23 hi hz0 hz1 _ _ _ n rfl rfl (by simp) (by rw [hz2]; omega) (by unfold maxLen; omega) (Nat.le_refl _) ?_)
  intro w1 hown1 hgrow1
  have Ho1 : Hid (Below w.heap.size w w1) := (Below.refl _ w).grown hgrow1 (Nat.le_refl _) (fun k hk => by cases hk)
  have Hown1 := Lib.hid hown1
  clear hown1 hgrow1
  go_wp2_with fail
  go_loopw [3, 4] (fun v i wr => ∃ k : Nat, k ≤ n ∧ i = .int .i64 k ∧ Hid (wr.ownsRow w.heap.size 34 8 v k (xs.take (k * 8))) ∧ Hid (Below w.heap.size w wr)) (fun _ i _ => n - (intOf i).toNat)
  case atStart => exact ⟨0, Nat.zero_le _, rfl, Hown1.out, Ho1.out⟩
  case round =>
    obtain ⟨k, hk, rfl, Hown, Ho⟩ := hrel
    obtain ⟨v, hv⟩ : ∃ v, u3 = v := ⟨_, rfl⟩
    rw [hv] at Hown ⊢
    clear hv
    by_cases hlt2 : k < n
    · obtain ⟨p0, p1, p2, p3, p4, p5, p6, p7, ⟨e0, e1, e2, e3, e4, e5, e6, e7⟩, et⟩ := eight_at Hn.out hlt2
      rcases H.out with ⟨-, e⟩ | ⟨b, off, rfl, hb, hc⟩
      · rw [e] at e0; simp at e0
      have hbl := hb (by intro e; rw [e] at e0; simp at e0)
      have v0 := (Ho.out.cell (p := ⟨b, off + k * 8, none⟩) hbl).trans (hc _ _ e0)
      have v1 : wr.cell? ⟨b, off + k * 8 + 1, none⟩ = some p1 := (Ho.out.cell (p := ⟨b, off + (k * 8 + 1), none⟩) hbl).trans (hc _ _ e1)
      have v2 : wr.cell? ⟨b, off + k * 8 + 2, none⟩ = some p2 := (Ho.out.cell (p := ⟨b, off + (k * 8 + 2), none⟩) hbl).trans (hc _ _ e2)
      have v3 : wr.cell? ⟨b, off + k * 8 + 3, none⟩ = some p3 := (Ho.out.cell (p := ⟨b, off + (k * 8 + 3), none⟩) hbl).trans (hc _ _ e3)
      have v4 : wr.cell? ⟨b, off + k * 8 + 4, none⟩ = some p4 := (Ho.out.cell (p := ⟨b, off + (k * 8 + 4), none⟩) hbl).trans (hc _ _ e4)
      have v5 : wr.cell? ⟨b, off + k * 8 + 5, none⟩ = some p5 := (Ho.out.cell (p := ⟨b, off + (k * 8 + 5), none⟩) hbl).trans (hc _ _ e5)
      have v6 : wr.cell? ⟨b, off + k * 8 + 6, none⟩ = some p6 := (Ho.out.cell (p := ⟨b, off + (k * 8 + 6), none⟩) hbl).trans (hc _ _ e6)
      have v7 : wr.cell? ⟨b, off + k * 8 + 7, none⟩ = some p7 := (Ho.out.cell (p := ⟨b, off + (k * 8 + 7), none⟩) hbl).trans (hc _ _ e7)
      have Ho4 : Hid (∀ u ∈ [p0, p1, p2, p3, p4, p5, p6, p7], u.oneCell' = true) := by
        intro u hu
        simp only [List.mem_cons, List.not_mem_nil, or_false] at hu
        rcases hu with rfl | rfl | rfl | rfl | rfl | rfl | rfl | rfl
        · exact H1.out _ (List.mem_of_getElem? e0)
        · exact H1.out _ (List.mem_of_getElem? e1)
        · exact H1.out _ (List.mem_of_getElem? e2)
        · exact H1.out _ (List.mem_of_getElem? e3)
        · exact H1.out _ (List.mem_of_getElem? e4)
        · exact H1.out _ (List.mem_of_getElem? e5)
        · exact H1.out _ (List.mem_of_getElem? e6)
        · exact H1.out _ (List.mem_of_getElem? e7)
      have Et := Lib.hid et
      have Hsz := Lib.hid Ho.out.size
      clear hc hb e0 e1 e2 e3 e4 e5 e6 e7 et
      go_wp2_with (at_builtin; refine wpList_append_own _ rfl _ _ 23 rfl w.heap.size 34 i0 Ev.zero.agg 8 64 Tryd.underlying23 hi hz0 hz1 hz2 rfl (by decide) v _ _ rfl (Hown.out.alloc _) ⟨wr.heap.size, 0, none⟩ 1 1 [p0, p1, p2, p3, p4, p5, p6, p7] rfl rfl (eight_news _ _ _ _ _ _ _ _ _ _) Ho4.out (by unfold maxLen; have := Hsm.out; omega) (by have := Hsm.out; omega) (by show _ ≤ _; simp; exact Nat.le_trans Hsz.out (Nat.le_succ _)) ?_)
      intro v' w4 hown4 hgrow4 hnil4
      have Ho5 : Hid (Below w.heap.size w w4) := (Ho.out.alloc Hsz.out (.cells #[p0, p1, p2, p3, p4, p5, p6, p7] 34)).grown hgrow4 (by show _ ≤ _; simp; exact Nat.le_trans Hsz.out (Nat.le_succ _)) (fun k hk => (Hown.out.lt k hk).1)
      have Hown4 : Hid (w4.ownsRow w.heap.size 34 8 v' (k + 1) (xs.take ((k + 1) * 8))) := by show World.ownsRow _ _ _ _ _ _ _; rw [Et.out]; exact hown4
      clear hown4 hgrow4 hnil4 Hown Ho v0 v1 v2 v3 v4 v5 v6 v7 Et Hsz
      go_wp2_with fail
      go_roundw
      case rel => exact ⟨k + 1, by omega, by go_num, Hown4.out, Ho5.out⟩
      case measure => simp [intOf]; omega
    · have hkn : k = n := by omega
      go_wp2_with fail
      go_ret
      have h9 := Hown.out
      rw [hkn, List.take_of_length_le (by rw [Hn.out]; exact Nat.le_refl _)] at h9
      exact ⟨_, rfl, h9, Ho.out⟩
end Go.Proofs.YtfjjhjojcgacbaaDoor
