/- The walk of the statement on what stays: up to the loop over the set. -/
import Derived.Test.YtgkdemdpknljkaaDoorEan
import Derived.Test.YtgkdemdpknljkaaDoorFst
import Derived.Test.YtgkdemdpknljkaaDoorLs2
import Derived.BigQuiet
import Derived.Deep.RegionWith
import Derived.Deep.RegionHeld3
namespace Go.Proofs.YtgkdemdpknljkaaDoor
open Go.RowKit Go.Maps Go.WideMaps Go.WideElems Go.ChangeShapes Go.WideShapes
attribute [local go_sem] Oper.semAt_some

/-- What holds at the head of each round of the filling loop. -/
structure TOpen (w0 : World) (rb sb pb : Nat) (M : Int) (k : Nat) (ss : List Txt) (wr : World) (v mv : Value) : Prop where
  set : SetI 9 80 w0.heap.size wr sb v mv M (LS ss) (VS ss)
  once : Once1 ss
  old : Only (fun _ => False) w0 wr
  le : ss.length ≤ k
  rc : wr.heap[rb]? = some (.cells #[.bool false] 4 (0, 0))
  pc : wr.heap[pb]? = some (.cells #[.pointer (some ⟨sb, 0, none⟩)] 58 (0, 0))
  rn : ¬ foot sb v mv rb
  pn : ¬ foot sb v mv pb
def TRel (w0 : World) (rb sb pb : Nat) (M : Int) (k : Nat) (ss : List Txt) (wr : World) : Prop := ∃ v mv, TOpen w0 rb sb pb M k ss wr v mv

theorem TOpen.only {w0 wr wr' : World} {rb sb pb k : Nat} {M : Int} {ss : List Txt} {v mv : Value} (h : TOpen w0 rb sb pb M k ss wr v mv) (ho : Only (fun _ => False) wr wr') : TOpen w0 rb sb pb M k ss wr' v mv :=
  ⟨h.set.only ho (fun _ _ h => h), h.once, h.old.trans ho (fun _ h => h) (fun _ h => .inl h), h.le, by rw [ho.block rb (lt_of_block h.rc) (fun h => h)]; exact h.rc, by rw [ho.block pb (lt_of_block h.pc) (fun h => h)]; exact h.pc, h.rn, h.pn⟩
theorem TOpen.mono {w0 wr : World} {rb sb pb k j : Nat} {M : Int} {ss : List Txt} {v mv : Value} (h : TOpen w0 rb sb pb M k ss wr v mv) (hj : k ≤ j) : TOpen w0 rb sb pb M j ss wr v mv :=
  ⟨h.set, h.once, h.old, Nat.le_trans h.le hj, h.rc, h.pc, h.rn, h.pn⟩
theorem TOpen.add {w0 wr wr' : World} {rb sb pb k : Nat} {M : Int} {ss : List Txt} {v mv v' mv' : Value} {x : Txt} (h : TOpen w0 rb sb pb M k ss wr v mv) (hn : idxOf (LS ss) (lit x) = none)
    (hp : AddPost 9 80 w0.heap.size wr sb v mv M (LS ss ++ [lit x]) (VS ss ++ [.string x.1]) wr' v' mv') : TOpen w0 rb sb pb M (k + 1) (ss ++ [x]) wr' v' mv' := by
  have e1 : LS (ss ++ [x]) = LS ss ++ [lit x] := by simp
  have e2 : VS (ss ++ [x]) = VS ss ++ [.string x.1] := by simp
  have far : ∀ b, b < wr.heap.size → ¬ foot sb v mv b → ¬ foot sb v' mv' b := by
    intro b hb hf hf'
    rcases hp.from' b hf' with h | h
    · exact hf h
    · omega
  refine ⟨by rw [e1, e2]; exact hp.set, once1_snoc h.once hn, h.old.trans hp.only (fun _ h => h) (fun i hi => .inr (h.set.lt i hi).1), by simp; exact h.le, ?_, ?_, far rb (lt_of_block h.rc) h.rn, far pb (lt_of_block h.pc) h.pn⟩
  · rw [hp.only.block rb (lt_of_block h.rc) h.rn]; exact h.rc
  · rw [hp.only.block pb (lt_of_block h.pc) h.pn]; exact h.pc

/-- Place, asked where the relation holds; what the statement loads lies as it lay. -/
theorem place_keeps {w0 wr : World} {rb sb pb k : Nat} {M : Int} {ss : List Txt} {v mv : Value} (h : TOpen w0 rb sb pb M k ss wr v mv) (x : Txt) {b o : Nat} {u u2 : Value} (hc : wr.cell? ⟨b, o, none⟩ = some u) (hp : wr.cell? ⟨pb, 0, none⟩ = some u2) (hb : b < wr.heap.size) :
    Calls Tryd.prog 28 #[.pointer (some ⟨sb, 0, none⟩), .string x.1] wr fun e w' => e = .returned (.tuple #[.int .i64 ((idxOf (LS ss) (lit x)).getD 0), .bool (idxOf (LS ss) (lit x)).isSome]) ∧ w'.cell? ⟨b, o, none⟩ = some u ∧ w'.cell? ⟨pb, 0, none⟩ = some u2 ∧ Hid (TOpen w0 rb sb pb M k ss w' v mv) := by
  refine (sets_place _ sb v mv M _ _ x.1 wr x.2 h.set).mono ?_
  rintro e w' ⟨rfl, rfl⟩
  have ho := Only.of_alloc wr (.cells #[.int .i64 ((idxOf (LS ss) (lit x)).getD 0)] 85)
  exact ⟨rfl, (World.cell?_of_block (w := wr) (ho.block b hb (fun h => h))).trans hc, (World.cell?_of_block (w := wr) (ho.block pb (lt_of_block h.pc) (fun h => h))).trans hp, h.only ho⟩

theorem TOpen.cells {w0 w2 : World} {rb sb pb k : Nat} {M : Int} {ss : List Txt} {v mv : Value} (h : TOpen w0 rb sb pb M k ss w2 v mv) {b o : Nat} {u : Value} (hc : w0.cell? ⟨b, o, none⟩ = some u) : w2.cell? ⟨b, o, none⟩ = some u ∧ w2.cell? ⟨pb, 0, none⟩ = some (.pointer (some ⟨sb, 0, none⟩)) :=
  ⟨(World.cell?_of_block (w := w0) (h.old.block b (World.block_lt_of_cell? w0 _ hc) (fun h => h))).trans hc, cell_of_one h.pc⟩

theorem add_has_keeps {w0 wr : World} {rb sb pb k : Nat} {M : Int} {ss : List Txt} {v mv : Value} (h : TOpen w0 rb sb pb M k ss wr v mv) (x : Txt) {b o : Nat} {u : Value} (hc : w0.cell? ⟨b, o, none⟩ = some u) (hin : (idxOf (LS ss) (lit x)).isSome = true) :
    Calls Tryd.prog 29 #[.pointer (some ⟨sb, 0, none⟩), .string x.1] wr fun e w' => e = .returned (.tuple #[.bool false, .nilIface]) ∧ w'.cell? ⟨b, o, none⟩ = some u ∧ w'.cell? ⟨pb, 0, none⟩ = some (.pointer (some ⟨sb, 0, none⟩)) ∧ Hid (TOpen w0 rb sb pb M k ss w' v mv) := by
  refine (sets_add_has _ sb v mv M _ _ x.1 wr x.2 h.set hin).mono ?_
  rintro e w' ⟨rfl, ho⟩
  have h' := h.only ho
  exact ⟨rfl, (h'.cells hc).1, (h'.cells hc).2, h'⟩
theorem add_full_keeps {w0 wr : World} {rb sb pb k : Nat} {M : Int} {ss : List Txt} {v mv : Value} (h : TOpen w0 rb sb pb M k ss wr v mv) (x : Txt) {b o : Nat} {u ev : Value} (hc : w0.cell? ⟨b, o, none⟩ = some u) (hg : w0.cell? ⟨0, 0, none⟩ = some ev) (hin : (idxOf (LS ss) (lit x)).isSome = false) (hf : (ss.length : Int) = M) :
    Calls Tryd.prog 29 #[.pointer (some ⟨sb, 0, none⟩), .string x.1] wr fun e w' => e = .returned (.tuple #[.bool false, ev]) ∧ w'.cell? ⟨b, o, none⟩ = some u ∧ w'.cell? ⟨pb, 0, none⟩ = some (.pointer (some ⟨sb, 0, none⟩)) ∧ Hid (TOpen w0 rb sb pb M k ss w' v mv) := by
  refine (sets_add_full _ sb v mv M _ _ x.1 wr ev x.2 h.set hin (by simpa using hf) (h.cells hg).1 (World.block_lt_of_cell? wr _ (h.cells hg).1)).mono ?_
  rintro e w' ⟨rfl, ho⟩
  have h' := h.only ho
  exact ⟨rfl, (h'.cells hc).1, (h'.cells hc).2, h'⟩
theorem add_new_keeps {w0 wr : World} {rb sb pb k : Nat} {M : Int} {ss : List Txt} {v mv : Value} (h : TOpen w0 rb sb pb M k ss wr v mv) (x : Txt) {b o : Nat} {u : Value} (hc : w0.cell? ⟨b, o, none⟩ = some u) (hin : idxOf (LS ss) (lit x) = none) (hf : (ss.length : Int) < M) (hsm : ss.length < 1000000) :
    Calls Tryd.prog 29 #[.pointer (some ⟨sb, 0, none⟩), .string x.1] wr fun e w' => e = .returned (.tuple #[.bool true, .nilIface]) ∧ w'.cell? ⟨b, o, none⟩ = some u ∧ w'.cell? ⟨pb, 0, none⟩ = some (.pointer (some ⟨sb, 0, none⟩)) ∧ Hid (∃ v' mv', TOpen w0 rb sb pb M (k + 1) (ss ++ [x]) w' v' mv') := by
  refine (sets_add_new _ sb v mv M _ _ x.1 wr x.2 h.set (by rw [hin]; rfl) (by simpa using hf) (by simpa using hsm) h.old.size).mono ?_
  rintro e w' ⟨rfl, v', mv', hp⟩
  have h' := h.add hin hp
  exact ⟨rfl, (h'.cells hc).1, (h'.cells hc).2, v', mv', h'⟩

/-- Len and Room in a region that draws. -/
theorem TOpen.lens {w0 wr : World} {rb sb pb k : Nat} {M : Int} {ss : List Txt} {v mv : Value} (h : TOpen w0 rb sb pb M k ss wr v mv) (q : Nat) : Calls Tryd.prog 27 #[.pointer (some ⟨sb, 0, none⟩)] (wr.drewN q) fun e w' => e = .returned (.int .i64 (ss.length : Int)) ∧ ∃ m, w' = wr.drewN m := by
  have hl := sets_len _ sb v mv M _ _ _ (h.only (Only.of_drewN wr q)).set
  rw [show (LS ss).length = ss.length by simp] at hl
  exact hl.mono fun e w' hh => ⟨hh.1, q, hh.2.symm⟩
theorem TOpen.rooms {w0 wr : World} {rb sb pb k : Nat} {M : Int} {ss : List Txt} {v mv : Value} (h : TOpen w0 rb sb pb M k ss wr v mv) (q : Nat) : Calls Tryd.prog 30 #[.pointer (some ⟨sb, 0, none⟩)] (wr.drewN q) fun e w' => e = .returned (.int .i64 (M - (ss.length : Int))) ∧ ∃ m, w' = wr.drewN m := by
  have hl := sets_room _ sb v mv M _ _ _ (h.only (Only.of_drewN wr q)).set
  rw [show (LS ss).length = ss.length by simp] at hl
  exact hl.mono fun e w' ⟨h1, m, h2⟩ => ⟨h1, q + m, by rw [← h2, World.drewN_drewN]⟩

theorem TOpen.rowcell {w0 wr : World} {rb sb pb k : Nat} {M : Int} {ss : List Txt} {v mv : Value} (h : TOpen w0 rb sb pb M k ss wr v mv) :
    ∃ a c, v = .slice a ss.length c ∧ ∀ j, j < ss.length → ∃ g, a = some ⟨g, 0, none⟩ ∧ g < wr.heap.size ∧ wr.cell? ⟨g, j, none⟩ = some (.string (ss[j]?.getD S0).1) := by
  have hr := h.set.row
  have hl : (VS ss).length = ss.length := by simp
  rw [hl] at hr
  rcases hr.2 with ⟨e, h0⟩ | ⟨g, cap, cur, e, hb, hg, _⟩
  · subst e
    exact ⟨none, 0, by rw [h0], fun j hj => by omega⟩
  · subst e
    refine ⟨_, cap, rfl, fun j hj => ⟨g, rfl, lt_of_block hg, ?_⟩⟩
    have := hr.cells (g := g) rfl j (.string (ss[j]?.getD S0).1) (by simp [hj])
    rwa [addr0] at this

theorem Below.onlyF {w W : World} (h : Below w.heap.size w W) : Only (fun _ => False) w W := ⟨h.os, h.tape, h.output, h.size, fun k hk _ => h.block k hk⟩

/-- Place and Has within a round. -/
theorem place_in {w0 W : World} {rb sb pb k : Nat} {M : Int} {ss : List Txt} {v mv : Value} (h : TOpen w0 rb sb pb M k ss W v mv) (x : Txt) (ib : Nat) {u : Value} (hc : W.cell? ⟨ib, 0, none⟩ = some u) (hf : W.frozen? ⟨ib, 0, none⟩ = false) :
    Calls Tryd.prog 28 #[.pointer (some ⟨sb, 0, none⟩), .string x.1] W fun e w' => e = .returned (.tuple #[.int .i64 ((idxOf (LS ss) (lit x)).getD 0), .bool (idxOf (LS ss) (lit x)).isSome]) ∧
      w'.cell? ⟨ib, 0, none⟩ = some u ∧ w'.frozen? ⟨ib, 0, none⟩ = false ∧ w'.cell? ⟨pb, 0, none⟩ = some (.pointer (some ⟨sb, 0, none⟩)) ∧ Hid (KeepsOthers W w' ∧ Below ib W w' ∧ TOpen w0 rb sb pb M k ss w' v mv) := by
  refine (sets_place _ sb v mv M _ _ x.1 W x.2 h.set).mono ?_
  rintro e w' ⟨rfl, rfl⟩
  have hlt := World.block_lt_of_cell? W _ hc
  have ho := Only.of_alloc W (.cells #[.int .i64 ((idxOf (LS ss) (lit x)).getD 0)] 85)
  have h' := h.only ho
  exact ⟨rfl, (World.cell?_of_block (w := W) (ho.block ib hlt (fun h => h))).trans hc, (World.frozen?_of_block (w := W) (ho.block ib hlt (fun h => h))).trans hf, cell_of_one h'.pc, KeepsOthers.alloc _ _, (Below.refl ib W).alloc (Nat.le_of_lt hlt) _, h'⟩
theorem has_in {w0 W : World} {rb sb pb k : Nat} {M : Int} {ss : List Txt} {v mv : Value} (h : TOpen w0 rb sb pb M k ss W v mv) (x : Txt) (ib : Nat) {u : Value} (hc : W.cell? ⟨ib, 0, none⟩ = some u) (hf : W.frozen? ⟨ib, 0, none⟩ = false) :
    Calls Tryd.prog 32 #[.pointer (some ⟨sb, 0, none⟩), .string x.1] W fun e w' => e = .returned (.bool (idxOf (LS ss) (lit x)).isSome) ∧
      w'.cell? ⟨ib, 0, none⟩ = some u ∧ w'.frozen? ⟨ib, 0, none⟩ = false ∧ w'.cell? ⟨pb, 0, none⟩ = some (.pointer (some ⟨sb, 0, none⟩)) ∧ Hid (KeepsOthers W w' ∧ Below ib W w' ∧ TOpen w0 rb sb pb M k ss w' v mv) := by
  refine (sets_has _ sb v mv M _ _ x.1 W x.2 h.set).mono ?_
  rintro e w' ⟨rfl, rfl⟩
  have hlt := World.block_lt_of_cell? W _ hc
  have ho := Only.of_alloc W (.cells #[.int .i64 ((idxOf (LS ss) (lit x)).getD 0)] 85)
  have h' := h.only ho
  exact ⟨rfl, (World.cell?_of_block (w := W) (ho.block ib hlt (fun h => h))).trans hc, (World.frozen?_of_block (w := W) (ho.block ib hlt (fun h => h))).trans hf, cell_of_one h'.pc, KeepsOthers.alloc _ _, (Below.refl ib W).alloc (Nat.le_of_lt hlt) _, h'⟩

/-- At a panic nothing is asked of the frame. -/
def calm (Q : Exit → Act → World → Prop) : Exit → Act → World → Prop
  | .panic _, _, _ => False
  | e, a, w => Q e a w

theorem wrap64_of {M : Int} (h1 : 0 ≤ M) (h2 : M ≤ 9223372036854775807) : wrap64 M = M := by
  unfold wrap64; omega

theorem res7 (tmps : Array Value) (w : World) (rb : Nat) (v : Bool) (hp : tmps.getD 4 undef = .pointer (some ⟨rb, 0, none⟩)) (hg : w.cell? ⟨rb, 0, none⟩ = some (.bool v)) :
    (results Tryd.f7 tmps).run Tryd.prog w = .ok (.bool v) w := by
  have hp' : tmps[4]?.getD undef = .pointer (some ⟨rb, 0, none⟩) := by simpa using hp
  have hu := Tryd.underlying4
  simp [results, hp', asAddr, loadVar, isAgg, underlying, hu, go_sem, hg]

theorem leave7 {R : Ending → World → Prop} {a : Act} {w : World} (rb : Nat) (v : Bool) (hd : a.defers = []) (hp : a.tmps.getD 4 undef = .pointer (some ⟨rb, 0, none⟩)) (hg : w.cell? ⟨rb, 0, none⟩ = some (.bool v)) (hR : R (.returned (.bool v)) w) :
    bodyPostM Fence.wide 10 Tryd.prog Tryd.f7 R .ret a w := by
  show LeavesInM Fence.wide 10 Tryd.prog Tryd.f7 a.tmps R a.defers .returning w
  rw [hd]
  exact ⟨_, res7 a.tmps w rb v hp hg, hR⟩

theorem leave7D {R : Ending → World → Prop} {a : Act} {w : World} (rb D : Nat) (v : Bool) (hd : a.defers = [{ target := .collected D, args := #[] }]) (hp : a.tmps.getD 4 undef = .pointer (some ⟨rb, 0, none⟩)) (hK : w.heap[D]? = some (.deferred (some [])))
    (hg : w.cell? ⟨rb, 0, none⟩ = some (.bool v)) (hR : R (.returned (.bool v)) (w.putObj D (.deferred none))) : bodyPostM Fence.wide 10 Tryd.prog Tryd.f7 R .ret a w := by
  show LeavesInM Fence.wide 10 Tryd.prog Tryd.f7 a.tmps R a.defers .returning w
  rw [hd]
  exact ⟨by simp, .inl ⟨_, _, rfl, run_takeDeferred hK, _, res7 a.tmps _ rb v hp (cell_kept hg (grownBy_putObj' _ D (.deferred none)) (fun r e => by cases e; exact ⟨_, hK, rfl⟩)), hR⟩⟩

theorem World.cell_set (w : World) (rb : Nat) (u v : Value) (hc : w.cell? ⟨rb, 0, none⟩ = some u) : (w.setCell ⟨rb, 0, none⟩ v).cell? ⟨rb, 0, none⟩ = some v := World.cell?_setCell_same' _ _ _ (by rw [hc]; rfl)

set_option maxRecDepth 100000 in
set_option maxHeartbeats 4000000 in
theorem stays_any (a : Option Addr) (b off n c : Nat) (ha : 0 < n → a = some ⟨b, off, none⟩) (S : Nat → Txt) (most M : Int) (w : World) (ea : Addr) (hg : w.cell? ⟨0, 0, none⟩ = some (.iface 88 (.pointer (some ea)))) (hS : ∀ i, i < n → w.cell? ⟨b, off + i, none⟩ = some (.string (S i).1)) (hnl : n ≤ 9223372036854775807)
    (hM : max most 0 = M) (hmx : most ≤ 9223372036854775807) :
    Calls Tryd.prog 7 #[.int .i64 most, .slice a n c] w fun e w' => e = .returned (.bool true) ∧ Only (fun _ => False) w w' := by
  have Hb : Hid (0 < n → b < w.heap.size) := fun h => World.block_lt_of_cell? w _ (hS 0 h)
  have Ha := Lib.hid ha
  have hp0 : 0 < w.heap.size := World.block_lt_of_cell? w _ hg
  have oa := Only.of_alloc w (.cells #[.bool false] 4)
  have hg1 : (w.alloc (.cells #[.bool false] 4)).cell? ⟨0, 0, none⟩ = some (.iface 88 (.pointer (some ea))) := (World.cell?_of_block (w := w) (oa.block 0 hp0 (fun h => h))).trans hg
  have hf := first_any _ ea hg1
  have hr0 : (w.alloc (.cells #[.bool false] 4)).heap[w.heap.size]? = some (.cells #[.bool false] 4 (0, 0)) := heap_alloc_new w _
  obtain ⟨rb, hrb⟩ : ∃ rb, rb = w.heap.size := ⟨_, rfl⟩
  rw [← hrb] at hr0
  have hne : (wrap64 M != if most < 0 then 0 else most) = false := by
    have h1 : 0 ≤ M := by omega
    have h2 : M ≤ 9223372036854775807 := by omega
    have h3 : wrap64 M = M := wrap64_of h1 h2
    rw [h3]
    have h4 : M = if most < 0 then 0 else most := by split <;> omega
    rw [← h4]; simp
  have Hne := Lib.hid hne
  have Hf := Lib.hid hf
  have Hg := Lib.hid hg
  have HS := Lib.hid hS
  have HM := Lib.hid hM
  have Hoa := Lib.hid oa
  have Hr0 := Lib.hid hr0
  have Hrb := Lib.hid hrb
  clear hf hg hg1 hS hM oa hr0 hrb hne ha
  refine callsIn_wide.1 (callsIn_of_wp_marks (F := Fence.wide) (n := 10) Tryd.func7 rfl trivial (wpIn_wide.2 (Code.wp_mono (Q := calm (bodyPostM Fence.wide 10 Tryd.prog Tryd.f7 fun e w' => e = .returned (.bool true) ∧ Only (fun _ => False) w w')) (fun e a w h => by cases e <;> first | exact h | exact h.elim) ?_)) rfl)
  simp only [Tryd.ntmps7, List.size_toArray, List.length_cons, List.length_nil, Nat.reduceAdd, Nat.reduceSub, Array.replicate_succ, Array.replicate_zero, List.push_toArray, List.append_toArray, List.nil_append, List.cons_append]
  go_wp2_with (go_at_call 8; refine Hf.out.mono ?_; rintro e w1 ⟨rfl, ho⟩)
  rw [← Hrb.out]
  have Ho1 : Hid (Only (fun _ => False) w w1) := Hoa.out.trans ho (fun _ h => h) (fun _ h => .inl h)
  have Hr1 : Hid (w1.heap[rb]? = some (.cells #[.bool false] 4 (0, 0))) := by show _ = _; rw [ho.block rb (lt_of_block Hr0.out) (fun h => h)]; exact Hr0.out
  clear ho Hoa Hr0 Hf
  go_loop [6, 7] (fun a i => ∃ (k : Nat) (m : Int), k ≤ n ∧ k ≤ 301 ∧ i = .int .i64 k ∧ a = .int .i64 m ∧ 0 ≤ m ∧ m ≤ k * 10000) (fun _ i => 400 - (intOf i).toNat)
  case atStart => exact ⟨0, 0, Nat.zero_le _, by omega, rfl, rfl, by omega, by omega⟩
  case round =>
    obtain ⟨k, m, hk, hk3, rfl, rfl, hm0, hm1⟩ := hrel
    by_cases hgo : k < n ∧ k ≤ 300
    · obtain ⟨hlt, hle⟩ := hgo
      obtain rfl := Ha.out (by omega)
      have hb : b < w.heap.size := Hb.out (by omega)
      have hsz : (S k).1.size ≤ maxLen := (S k).2
      unfold maxLen at hsz
      have hck : w1.cell? ⟨b, off + k, none⟩ = some (.string (S k).1) := (World.cell?_of_block (w := w) (Ho1.out.block b hb (fun h => h))).trans (HS.out k hlt)
      generalize (S k).1 = sk at *
      have hd1 : decide ((k : Int) < (n : Int)) = true := by simp; omega
      have hd2 : decide ((k : Int) ≤ 300) = true := by simp; omega
      go_wp2_with fail
      go_round
      case rel => exact ⟨k + 1, _, by omega, by omega, by go_num, rfl, by omega, by omega⟩
      case measure => simp [intOf]; omega
    · have hpk : ¬ (k < n) ∨ ¬ (k ≤ 300) := by omega
      have hend : Hid (k = n ∨ 300 < n) := by show _ ∨ _; omega
      have crb := cell_of_one Hr1.out
      have frb := free_of_one Hr1.out
      by_cases hlt : k < n
      · have hd1 : decide ((k : Int) < (n : Int)) = true := by simp; omega
        have hd2 : decide ((k : Int) ≤ 300) = false := by simp; omega
        have hd3 : (300 : Int) < (n : Int) := by omega
        go_wp2_with fail
        exact leave7 rb true rfl rfl (World.cell_set _ _ _ _ crb) ⟨rfl, Ho1.out.trans (Only.of_setCell _ _ _) (fun _ h => h) (fun i hi => .inr (by rw [show i = rb from hi, Hrb.out]; exact Nat.le_refl _))⟩
      · have hd1 : decide ((k : Int) < (n : Int)) = false := by simp; omega
        by_cases hbig : 300 < n
        · have hd3 : (300 : Int) < (n : Int) := by omega
          go_wp2_with fail
          exact leave7 rb true rfl rfl (World.cell_set _ _ _ _ crb) ⟨rfl, Ho1.out.trans (Only.of_setCell _ _ _) (fun _ h => h) (fun i hi => .inr (by rw [show i = rb from hi, Hrb.out]; exact Nat.le_refl _))⟩
        · have hd3 : decide ((300 : Int) < (n : Int)) = false := by simp; omega
          by_cases hm2 : 20000 < m
          · go_wp2_with fail
            exact leave7 rb true rfl rfl (World.cell_set _ _ _ _ crb) ⟨rfl, Ho1.out.trans (Only.of_setCell _ _ _) (fun _ h => h) (fun i hi => .inr (by rw [show i = rb from hi, Hrb.out]; exact Nat.le_refl _))⟩
          · have hd4 : decide ((20000 : Int) < m) = false := by simp; omega
            have hn3 : n ≤ 300 := by omega
            clear hpk hend hm0 hm1 hgo
            go_wp2_with (go_at_call 26; refine (news most w1).mono ?_; rintro e w2 ⟨rfl, hw2⟩)
            obtain ⟨sb, hsb⟩ : ∃ sb, sb = w1.heap.size := ⟨_, rfl⟩
            obtain ⟨pb, hpb⟩ : ∃ pb, pb = w2.heap.size := ⟨_, rfl⟩
            rw [← hsb, ← hpb]
            have hM0 := HM.out
            rw [hM0] at hw2
            have hrl : rb < w1.heap.size := lt_of_block Hr1.out
            have hs2 : w2.heap.size = sb + 1 := by rw [← hw2, hsb]; simp
            have o12 : Only (fun _ => False) w1 w2 := by rw [← hw2]; exact Only.of_alloc _ _
            have o23 := Only.of_alloc w2 (.cells #[.pointer (some ⟨sb, 0, none⟩)] 58)
            have hstart : TRel w rb sb pb M 0 [] (w2.alloc (.cells #[.pointer (some ⟨sb, 0, none⟩)] 58)) := by
              have hset := set_made 9 80 M (by omega) (by omega) w.heap.size w1 Ho1.out.size
              rw [← hsb, hw2] at hset
              refine ⟨_, _, hset.only o23 (fun _ _ h => h), once1_nil, (Ho1.out.trans o12 (fun _ h => h) (fun _ h => .inl h)).trans o23 (fun _ h => h) (fun _ h => .inl h), Nat.le_refl _, ?_, ?_, ?_, ?_⟩
              · rw [o23.block rb (by omega) (fun h => h), o12.block rb hrl (fun h => h)]; exact Hr1.out
              · rw [hpb]; exact heap_alloc_new _ _
              · rintro (h | h | h)
                · omega
                · cases h
                · cases h
              · rintro (h | h | h)
                · omega
                · cases h
                · cases h
            have Hstart := Lib.hid hstart
            have hrbw : w.heap.size ≤ rb := by rw [Hrb.out]; exact Nat.le_refl _
            have Hrbw := Lib.hid hrbw
            generalize w2.alloc (.cells #[.pointer (some ⟨sb, 0, none⟩)] 58) = w3 at *
            clear hrbw hstart o23 o12 hs2 hrl hM0 hw2 hsb hpb crb frb Hr1
            go_loopw [9] (fun i wr => ∃ j : Nat, j ≤ n ∧ i = .int .i64 j ∧ Hid (∃ ss, TRel w rb sb pb M j ss wr)) (fun i _ => n - (intOf i).toNat)
            case atStart => exact ⟨0, Nat.zero_le _, rfl, _, Hstart.out⟩
            case round =>
              obtain ⟨j, hj, rfl, Hrel⟩ := hrel
              by_cases hlt : j < n
              · obtain ⟨ss, v, mv, ht⟩ := Hrel.out
                obtain rfl := Ha.out (by omega)
                have hb : b < w.heap.size := Hb.out (by omega)
                have c0 : wr.cell? ⟨b, off + j, none⟩ = some (.string (S j).1) := (World.cell?_of_block (w := w) (ht.old.block b hb (fun h => h))).trans (HS.out j hlt)
                have hgr : wr.cell? ⟨0, 0, none⟩ = some (.iface 88 (.pointer (some ea))) := (World.cell?_of_block (w := w) (ht.old.block 0 hp0 (fun h => h))).trans Hg.out
                have cpb := cell_of_one ht.pc
                have Ht := Lib.hid ht
                have hln := sets_len _ sb v mv M _ _ wr ht.set
                rw [show (LS ss).length = ss.length by simp] at hln
                have Hln := Lib.hid hln
                clear hln ht Hrel
                have hcw : Hid (w.cell? ⟨b, off + j, none⟩ = some (.string (S j).1)) := Lib.hid (HS.out j hlt)
                generalize S j = x at *
                have hT4 := Ht.out.only (Only.of_drew wr)
                have hpl := place_keeps hT4 x (b := b) (o := off + j) c0 cpb (by have := Ht.out.old.size; have := hT4.old.size; omega)
                have Hpl := Lib.hid hpl
                clear hpl hT4
                go_wp2_with (first | (go_at_call 27; refine Hln.out.mono ?_; rintro e w' ⟨rfl, rfl⟩))
                go_region_held3 (fun w' => w'.cell? ⟨b, off + j, none⟩ = some (.string x.1) ∧ w'.cell? ⟨pb, 0, none⟩ = some (.pointer (some ⟨sb, 0, none⟩))) (go_keep)
                  (first | (go_at_call 28; refine Hpl.out.mono ?_; rintro e w4 ⟨rfl, hcb4, hcp4, HT4⟩))
                clear Hpl Ht Hln c0 cpb hgr
                cases hx : idxOf (LS ss) (lit x) with
                | some z =>
                  obtain ⟨kz, rfl⟩ := idx_nat hx
                  have HA := Lib.hid (add_has_keeps (HT4.out.only (Only.of_drew w4)) x hcw.out (by rw [hx]; rfl))
                  have Hx := Lib.hid hx
                  clear hx HT4
                  simp only [Option.getD_some, Option.isSome_some]
                  go_wp2_with fail
                  go_region_held3 (fun w' => w'.cell? ⟨b, off + j, none⟩ = some (.string x.1) ∧ w'.cell? ⟨pb, 0, none⟩ = some (.pointer (some ⟨sb, 0, none⟩))) (go_keep)
                    (first | (go_at_call 29; refine HA.out.mono ?_; rintro e w5 ⟨rfl, hcb5, hcp5, HT5⟩))
                  clear HA hcb4 hcp4
                  have hpl := place_keeps (HT5.out.only (Only.of_drew w5)) x (b := b) (o := off + j) hcb5 hcp5 (World.block_lt_of_cell? w5 _ hcb5)
                  rw [Hx.out] at hpl
                  simp only [Option.getD_some, Option.isSome_some] at hpl
                  have Hpl := Lib.hid hpl
                  clear hpl HT5
                  go_wp2_with fail
                  go_region_held3 (fun w' => w'.cell? ⟨b, off + j, none⟩ = some (.string x.1) ∧ w'.cell? ⟨pb, 0, none⟩ = some (.pointer (some ⟨sb, 0, none⟩))) (go_keep)
                    (first | (go_at_call 28; refine Hpl.out.mono ?_; rintro e w6 ⟨rfl, hcb6, hcp6, HT6⟩))
                  clear Hpl hcb5 hcp5
                  have hsum : (ss.length : Int) + (M - (ss.length : Int)) = M := by omega
                  have Hl := Lib.hid HT6.out.lens
                  have Hr := Lib.hid HT6.out.rooms
                  go_wp2_with fail
                  go_quiet (first | (go_at_call 27; exact Hl.out _) | (go_at_call 30; exact Hr.out _))
                  have HT7 := Lib.hid (HT6.out.only (Only.of_drewN w6 nq))
                  clear HT6 Hl Hr hcb6 hcp6
                  generalize w6.drewN nq = w7 at *
                  have hmm := Hne.out
                  go_wp2_with fail
                  go_roundw
                  case rel => exact ⟨j + 1, by omega, by go_num, _, _, _, HT7.out.mono (Nat.le_succ j)⟩
                  case measure => simp [intOf]; omega
                | none =>
                  by_cases hfull : (ss.length : Int) = M
                  · have HA := Lib.hid (add_full_keeps (HT4.out.only (Only.of_drew w4)) x hcw.out Hg.out (by rw [hx]; rfl) hfull)
                    have Hx := Lib.hid hx
                    have Hfull := Lib.hid hfull
                    clear hx HT4 hfull
                    simp only [Option.getD_none, Option.isSome_none]
                    go_wp2_with fail
                    go_region_held3 (fun w' => w'.cell? ⟨b, off + j, none⟩ = some (.string x.1) ∧ w'.cell? ⟨pb, 0, none⟩ = some (.pointer (some ⟨sb, 0, none⟩))) (go_keep)
                      (first | (go_at_call 29; refine HA.out.mono ?_; rintro e w5 ⟨rfl, hcb5, hcp5, HT5⟩))
                    clear HA hcb4 hcp4
                    have hpl := place_keeps (HT5.out.only (Only.of_drew w5)) x (b := b) (o := off + j) hcb5 hcp5 (World.block_lt_of_cell? w5 _ hcb5)
                    rw [Hx.out] at hpl
                    simp only [Option.getD_none, Option.isSome_none] at hpl
                    have Hpl := Lib.hid hpl
                    clear hpl HT5
                    go_wp2_with fail
                    go_region_held3 (fun w' => w'.cell? ⟨b, off + j, none⟩ = some (.string x.1) ∧ w'.cell? ⟨pb, 0, none⟩ = some (.pointer (some ⟨sb, 0, none⟩))) (go_keep)
                      (first | (go_at_call 28; refine Hpl.out.mono ?_; rintro e w6 ⟨rfl, hcb6, hcp6, HT6⟩))
                    clear Hpl hcb5 hcp5
                    have hl := HT6.out.lens
                    have hr := HT6.out.rooms
                    rw [Hfull.out] at hl hr
                    rw [show M - M = 0 by omega] at hr
                    have Hl := Lib.hid hl
                    have Hr := Lib.hid hr
                    clear hl hr
                    go_wp2_with fail
                    go_quiet (first | (go_at_call 27; exact Hl.out _) | (go_at_call 30; exact Hr.out _))
                    have HT7 := Lib.hid (HT6.out.only (Only.of_drewN w6 nq))
                    clear HT6 Hl Hr hcb6 hcp6
                    generalize w6.drewN nq = w7 at *
                    have hmm := Hne.out
                    go_wp2_with fail
                    go_roundw
                    case rel => exact ⟨j + 1, by omega, by go_num, _, _, _, HT7.out.mono (Nat.le_succ j)⟩
                    case measure => simp [intOf]; omega
                  · have hlm : (ss.length : Int) < M := by have h := HT4.out.set.room; simp at h; omega
                    have HA := Lib.hid (add_new_keeps (HT4.out.only (Only.of_drew w4)) x hcw.out hx hlm (by have := HT4.out.le; omega))
                    have hidx : idxOf (LS (ss ++ [x])) (lit x) = some ((ss.length : Nat) : Int) := by
                      rw [show LS (ss ++ [x]) = LS ss ++ [lit x] by simp, idxOf_snoc hx]
                      unfold upd
                      rw [WideAt.sameKey_self (isKeyS _)]
                      simp
                    clear hx HT4 hfull hlm
                    obtain ⟨s2, hs2⟩ : ∃ s2, s2 = ss ++ [x] := ⟨_, rfl⟩
                    rw [← hs2] at hidx HA
                    have Hx := Lib.hid hidx
                    clear hidx hs2
                    simp only [Option.getD_none, Option.isSome_none]
                    go_wp2_with fail
                    go_region_held3 (fun w' => w'.cell? ⟨b, off + j, none⟩ = some (.string x.1) ∧ w'.cell? ⟨pb, 0, none⟩ = some (.pointer (some ⟨sb, 0, none⟩))) (go_keep)
                      (first | (go_at_call 29; refine HA.out.mono ?_; rintro e w5 ⟨rfl, hcb5, hcp5, HT5⟩))
                    clear HA hcb4 hcp4
                    have HT5' : ∃ v' mv', Hid (TOpen w rb sb pb M (j + 1) s2 w5 v' mv') := HT5.out
                    obtain ⟨v', mv', HT5⟩ := HT5'
                    have hpl := place_keeps (HT5.out.only (Only.of_drew w5)) x (b := b) (o := off + j) hcb5 hcp5 (World.block_lt_of_cell? w5 _ hcb5)
                    rw [Hx.out] at hpl
                    simp only [Option.getD_some, Option.isSome_some] at hpl
                    have Hpl := Lib.hid hpl
                    clear hpl HT5
                    go_wp2_with fail
                    go_region_held3 (fun w' => w'.cell? ⟨b, off + j, none⟩ = some (.string x.1) ∧ w'.cell? ⟨pb, 0, none⟩ = some (.pointer (some ⟨sb, 0, none⟩))) (go_keep)
                      (first | (go_at_call 28; refine Hpl.out.mono ?_; rintro e w6 ⟨rfl, hcb6, hcp6, HT6⟩))
                    clear Hpl hcb5 hcp5
                    have hsum : (s2.length : Int) + (M - (s2.length : Int)) = M := by omega
                    have Hl := Lib.hid HT6.out.lens
                    have Hr := Lib.hid HT6.out.rooms
                    go_wp2_with fail
                    go_quiet (first | (go_at_call 27; exact Hl.out _) | (go_at_call 30; exact Hr.out _))
                    have HT7 := Lib.hid (HT6.out.only (Only.of_drewN w6 nq))
                    clear HT6 Hl Hr hcb6 hcp6
                    generalize w6.drewN nq = w7 at *
                    have hmm := Hne.out
                    go_wp2_with fail
                    go_roundw
                    case rel => exact ⟨j + 1, by omega, by go_num, _, _, _, HT7.out⟩
                    case measure => simp [intOf]; omega
              · have hjn : j = n := by omega
                obtain ⟨ss, v, mv, ht⟩ := Hrel.out
                have Ht := Lib.hid ht
                obtain ⟨ib, hib⟩ : ∃ ib, ib = wr.heap.size := ⟨_, rfl⟩
                have hpl : pb < wr.heap.size := lt_of_block ht.pc
                have cpb : (wr.alloc (.cells #[.int .i64 0] 3)).cell? ⟨pb, 0, none⟩ = some (.pointer (some ⟨sb, 0, none⟩)) := (World.cell?_of_block (w := wr) ((Only.of_alloc wr _).block pb hpl (fun h => h))).trans (cell_of_one ht.pc)
                clear ht Hrel hpl
                go_wp2_with (first | (go_at_call 31; refine (eachs sb _).mono ?_; rintro e w5 ⟨rfl, hw5⟩))
                obtain ⟨a0, c0, hv0, hrow0⟩ := Ht.out.rowcell
                have hcell1 : wr.cell? ⟨sb, 1, none⟩ = some (.slice a0 ss.length c0) := by rw [← hv0]; exact Ht.out.set.cell1
                have hB1 : Below ib wr (wr.alloc (.cells #[.int .i64 0] 3)) := (Below.refl ib wr).alloc (by omega) _
                have hB5 : Below ib wr w5 := by rw [← hw5]; exact hB1.alloc (by rw [hib]; simp) _
                have hs5 : w5.heap.size = ib + 2 := by rw [← hw5, hib]; simp
                have hbs : w5.cell? ⟨ib + 1, 0, none⟩ = some (.pointer (some ⟨sb, 0, none⟩)) := by
                  rw [← hw5]; exact cell_of_one (t := 58) (by have := heap_alloc_new (wr.alloc (.cells #[.int .i64 0] 3)) (.cells #[.pointer (some ⟨sb, 0, none⟩)] 58); rw [World.size_alloc, ← hib] at this; exact this)
                have hib5 : w5.heap[ib]? = some (.cells #[.int .i64 0] 3 (0, 0)) := by
                  rw [← hw5, heap_alloc_old _ _ (by rw [hib]; simp), hib]; exact heap_alloc_new wr _
                try rw [World.size_alloc]
                rw [← hib]
                have HB5 := Lib.hid hB5
                have Hs5 := Lib.hid hs5
                have Hib5 := Lib.hid hib5
                have Hib := Lib.hid hib
                have hrows : ∀ j, j < ss.length → ∃ g, a0 = some ⟨g, 0, none⟩ ∧ g < ib ∧ w5.cell? ⟨g, j, none⟩ = some (.string (ss[j]?.getD S0).1) := by
                  intro j hj
                  obtain ⟨g, e1, e2, e3⟩ := hrow0 j hj
                  exact ⟨g, e1, by rw [hib]; exact e2, (hB5.cell (by rw [hib]; exact e2)).trans e3⟩
                have hseq := eachn_stops Fence.wide (10 - 1) trivial rfl (by decide) (ib + 1) ib sb a0 ss.length c0 ss (by have := Ht.out.le; omega) w5 (by rw [hs5]; omega) hbs ((hB5.cell (p := ⟨sb, 1, none⟩) (by rw [hib]; exact World.block_lt_of_cell? wr _ hcell1)).trans hcell1) hrows
                clear hrows hcell1 hrow0 hv0 hB1 hB5 hbs hib5 hw5 cpb hib hs5 hjn
                refine (wpIn_wide (n := 10)).1 ?_
                apply wpIn_rangeFunc_ownF (F := Fence.wide) (n := 10) rfl (by decide) (gf := 43) (lb := #[.pointer (some ⟨ib + 1, 0, none⟩)]) rfl trivial (enters_of Tryd.func43 (by kernel_rfl) rfl)
                  hseq belowK_t (belowK_b (by rw [Hs5.out]; omega)) (Below.refl _ _) (fun _ => rfl)
                  (fun pre W => (W.cell? ⟨ib, 0, none⟩ = some (.int .i64 (pre.length : Int)) ∧ W.frozen? ⟨ib, 0, none⟩ = false) ∧ Below ib wr W)
                  (fun _ pre _ => ¬ ∃ q, pre = List.range q)
                  (OwnFrom.and (Own.from (fun s A B row hs hg hr => ⟨cell_kept hs.1 hg hr, (frozen_kept hs.1 hg hr).trans hs.2⟩) _) (ownFrom_below (by rw [Hib.out]; exact Nat.le_refl _) (by rw [Hs5.out]; omega)))
                  (fun _ _ _ _ _ hs _ _ => hs)
                  ⟨⟨cell_of_one Hib5.out, free_of_one Hib5.out⟩, HB5.out⟩
                case hassign =>
                  intro l x W K hK
                  gi_wp2
                  exact hK
                case hbody =>
                  rintro l pre x W ⟨⟨hci, hfi⟩, hBW⟩ hlt
                  have hT := Ht.out.only (Below.onlyF (by rw [← Hib.out]; exact hBW))
                  have crb := cell_of_one hT.rc
                  have frb := free_of_one hT.rc
                  have cpb := cell_of_one hT.pc
                  have HBW := Lib.hid hBW
                  by_cases hok : x = pre.length
                  · rw [← hok] at hci
                    have ho1 := hT.once x (by omega)
                    have hpl := place_in hT (ss[x]?.getD S0) ib hci hfi
                    rw [ho1] at hpl
                    simp only [Option.getD_some, Option.isSome_some] at hpl
                    have Hpl := Lib.hid hpl
                    have Ho1 := Lib.hid ho1
                    have Hok := Lib.hid hok
                    clear hpl ho1 hT hBW hok
                    generalize (ss[x]?.getD S0) = t at *
                    gi_wp2_with (first | (refine ⟨trivial, ?_⟩; gi_at_call 28; refine (CallsIn.inRound l (callsIn_wide.2 Hpl.out)).mono ?_; rintro e W2 ⟨rfl, hci2, hfi2, hcp2, H2⟩; have hhs := has_in H2.out.2.2 t ib hci2 hfi2; rw [Ho1.out] at hhs; simp only [Option.isSome_some] at hhs; have Hhs := Lib.hid hhs; clear hhs) | (refine ⟨trivial, ?_⟩; gi_at_call 32; refine (CallsIn.inRound l (callsIn_wide.2 Hhs.out)).mono ?_; rintro e W3 ⟨rfl, hci3, hfi3, hcp3, H3⟩))
                    have hwx : wrap64 ((x : Int) + 1) = (((pre ++ [x]).length : Nat) : Int) := by
                      have := Ht.out.le
                      have := Hok.out
                      rw [wrap64_of (by omega) (by omega), List.length_append, List.length_singleton, ← this]; simp
                    refine ⟨(H2.out.1.trans H3.out.1).trans (KeepsOthers.setCell _ _ _), ?_, ⟨?_, ?_⟩, ?_⟩
                    · exact (H2.out.2.1.trans H3.out.2.1).trans ((Below.refl ib W3).setCell (p := ⟨ib, 0, none⟩) (Nat.le_refl _) _)
                    · rw [← hwx]; exact World.cell_set _ _ _ _ hci3
                    · rw [World.frozen?_setCell]; exact hfi3
                    · exact HBW.out.trans ((H2.out.2.1.trans H3.out.2.1).trans ((Below.refl ib W3).setCell (p := ⟨ib, 0, none⟩) (Nat.le_refl _) _))
                  · have hpl := place_in hT (ss[x]?.getD S0) ib hci hfi
                    generalize (idxOf (LS ss) (lit (ss[x]?.getD S0))).getD 0 = r1 at *
                    generalize (idxOf (LS ss) (lit (ss[x]?.getD S0))).isSome = r2 at *
                    have Hpl := Lib.hid hpl
                    have hxne : ((x : Int) != (pre.length : Int)) = true := by simp; omega
                    have Hok := Lib.hid hok
                    clear hpl hT hBW hok
                    generalize (ss[x]?.getD S0) = t at *
                    gi_wp2_with (first | (refine ⟨trivial, ?_⟩; gi_at_call 28; refine (CallsIn.inRound l (callsIn_wide.2 Hpl.out)).mono ?_; rintro e W2 ⟨rfl, hci2, hfi2, hcp2, H2⟩; have crb2 := cell_of_one H2.out.2.2.rc; have frb2 := free_of_one H2.out.2.2.rc))
                    refine ⟨trivial, ?_⟩
                    gi_wp2_with fail
                    refine ⟨H2.out.1.trans (KeepsOthers.setCell _ _ _), ?_⟩
                    rintro ⟨q, hq⟩
                    have hl := congrArg List.length hq
                    rw [List.length_append, List.length_singleton, List.length_range] at hl
                    rw [← hl, List.range_succ] at hq
                    have h2 := (List.append_inj' hq rfl).2
                    exact Hok.out (by simpa using h2)
                case hdone =>
                  rintro D ys W hD rfl ⟨⟨hci, hfi⟩, hBW⟩ hK
                  have hT := Ht.out.only (Below.onlyF (by rw [← Hib.out]; exact hBW))
                  have crb := cell_of_one hT.rc
                  have frb := free_of_one hT.rc
                  have cpb := cell_of_one hT.pc
                  rw [List.length_range] at hci
                  have hT' := hT.only (Only.of_drew W)
                  have hln := sets_len _ sb v mv M _ _ W.drew hT'.set
                  rw [show (LS ss).length = ss.length by simp] at hln
                  have Hln := Lib.hid hln
                  have HT := Lib.hid hT'
                  have HK := Lib.hid hK
                  have HD := Lib.hid hD
                  have hnb : rb ≠ ib := by rw [Hib.out]; exact Nat.ne_of_lt (lt_of_block Ht.out.rc)
                  have hnp : rb ≠ pb := by
                    rintro e
                    have h1 := hT.rc
                    rw [e, hT.pc] at h1
                    cases h1
                  have hk1 : (W.setCell ⟨rb, 0, none⟩ (.bool true)).drew.cell? ⟨ib, 0, none⟩ = some (.int .i64 (ss.length : Int)) := (World.cell?_of_block (w := W) ((Only.of_setCell W ⟨rb, 0, none⟩ (.bool true)).block ib (World.block_lt_of_cell? W _ hci) (fun h => hnb h.symm))).trans hci
                  have hk2 : (W.setCell ⟨rb, 0, none⟩ (.bool true)).drew.cell? ⟨pb, 0, none⟩ = some (.pointer (some ⟨sb, 0, none⟩)) := (World.cell?_of_block (w := W) ((Only.of_setCell W ⟨rb, 0, none⟩ (.bool true)).block pb (World.block_lt_of_cell? W _ cpb) (fun h => hnp h.symm))).trans cpb
                  have Hold := Lib.hid hT.old
                  clear hln hT hT' hBW hK hD hnb hnp
                  go_wp2_with fail
                  go_region_held3 (fun w' => w'.cell? ⟨ib, 0, none⟩ = some (.int .i64 (ss.length : Int)) ∧ w'.cell? ⟨pb, 0, none⟩ = some (.pointer (some ⟨sb, 0, none⟩))) (first | go_keep | exact ⟨hk1, hk2⟩)
                    (first | (go_at_call 27; refine Hln.out.mono ?_; rintro e w4 ⟨rfl, rfl⟩))
                  go_wp2_with fail
                  have hDw : w.heap.size ≤ D := by
                    have h1 := HD.out
                    have h2 := Hs5.out
                    have h3 := Hib.out
                    have h4 := Ht.out.old.size
                    omega
                  refine leave7D rb D true rfl rfl ((KeepsOthers.setCell W ⟨rb, 0, none⟩ (.bool true)).same D _ HK.out rfl) (World.cell_set W _ _ _ crb) ⟨rfl, ?_⟩
                  refine ((Hold.out.trans (Only.of_setCell W ⟨rb, 0, none⟩ (.bool true)) (fun _ h => h) (fun i hi => .inr (by rw [show i = rb from hi]; exact Hrbw.out))).trans (Only.of_drew _) (fun _ h => h) (fun _ h => .inl h)).trans (Only.of_grown (grownBy_putObj' _ D (.deferred none))) (fun _ h => h) (fun i hi => .inr (by cases hi; exact hDw))
                case hstop =>
                  rintro D c pre W _ ⟨q, _, e⟩ hx _
                  exact absurd ⟨q, e⟩ hx
end Go.Proofs.YtgkdemdpknljkaaDoor
