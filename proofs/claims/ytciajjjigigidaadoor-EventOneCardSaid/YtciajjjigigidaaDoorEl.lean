/- The line of an event, by a contract. -/
import Derived.Test.YtciajjjigigidaaDoorEb
import Derived.Test.YtciajjjigigidaaDoorWh
import Derived.Deep.AppendLies
namespace Go.Proofs.YtciajjjigigidaaDoor
open Go.RowKit Go.Maps Go.WideMaps Go.WideElems Go.ChangeShapes Go.WideShapes

variable {T : TypeId} {er : Nat → Addr}

theorem infoS : (Tryd.prog.info? 9).map (fun i => (i.zero, i.size, i.bytes)) = some (some (.string ⟨#[]⟩), 1, 16) := by kernel_rfl
theorem under53 : Tryd.prog.underlying 53 = some (.slice 9) := by kernel_rfl

/-- The word that tells a field's number. -/
def writeL (f : Nat) (n : Int) : List UInt8 := if ftable f = 0 then Lib.itoa n else wordL (ftable f : Nat) n

theorem write_any (f : Nat) (hf : f < 7) (n : Int) (h0 : -9223372036854775808 ≤ n) (h1 : n ≤ 9223372036854775807) (w : World) (hG : Glob T er w) : Calls Tryd.prog 33 #[.int .i64 f, .int .i64 n] w (Makes (tv (writeL f n)) w) := by
  have ht := Lib.hid (table_any f hf w)
  have hw := Lib.hid (word_any (ftable f : Nat) n w hG.words)
  have hp := Lib.hid (print_any n h0 h1 w hG)
  obtain ⟨R, hR⟩ : ∃ R, R = writeL f n := ⟨_, rfl⟩
  rw [← hR]
  unfold writeL at hR
  generalize ftable f = t at *
  generalize wordL (t : Int) n = x at *
  generalize Lib.itoa n = y at *
  have HR := Lib.hid hR
  clear hR hG h0 h1
  by_cases h0 : t = 0
  · have h1 : ((t : Int) != 0) = false := by simp; omega
    have HR' : Hid (R = y) := by show _ = _; rw [HR.out, if_pos h0]
    clear h0
    go_enter Tryd.func33, Tryd.ntmps33
    go_wp2_with (first | (go_at_call 45; refine ht.out.mono ?_; rintro e w' ⟨rfl, rfl⟩) | (go_at_call 39; refine hp.out.mono ?_; rintro e w' ⟨rfl, hb⟩))
    go_ret
    exact ⟨by rw [HR'.out]; rfl, hb.out⟩
  · have h1 : ((t : Int) != 0) = true := by simp; omega
    have HR' : Hid (R = x) := by show _ = _; rw [HR.out, if_neg h0]
    clear h0
    go_enter Tryd.func33, Tryd.ntmps33
    go_wp2_with (first | (go_at_call 45; refine ht.out.mono ?_; rintro e w' ⟨rfl, rfl⟩) | (go_at_call 17; refine hw.out.mono ?_; rintro e w' ⟨rfl, rfl⟩))
    go_ret
    exact ⟨by rw [HR'.out]; rfl, Below.refl _ _⟩

/-- The words that a part lays. -/
def partW (e : Ev) (p : Nat × Nat) : List (List UInt8) := if whenB p.2 e then [writeL p.1 (e.at (fcell p.1))] else []
/-- The words of an event. -/
def evW (e : Ev) : List (List UInt8) := wordL 2 e.kind :: (partsL e.kind).flatMap (partW e)

theorem partW_len (e : Ev) (p : Nat × Nat) : (partW e p).length ≤ 1 := by unfold partW; split <;> simp
theorem flatW_len (e : Ev) : ∀ l : List (Nat × Nat), (l.flatMap (partW e)).length ≤ l.length
  | [] => by simp
  | p :: l => by
    rw [List.flatMap_cons, List.length_append, List.length_cons]
    have := flatW_len e l
    have := partW_len e p
    omega
theorem dec_len : ∀ (k u : Nat), u < 10 ^ k → 1 ≤ k → (Lib.decDigits u).length ≤ k
  | 0, _, _, h => by omega
  | k + 1, u, hu, _ => by
    rw [Lib.decDigits]
    split
    · simp
    · rw [List.length_append]
      have hk : 1 ≤ k := by
        rcases k with _ | k
        · simp at hu; omega
        · omega
      have := dec_len k (u / 10) (by rw [Nat.pow_succ] at hu; omega) hk
      simp
      omega
theorem itoa_len {n : Int} (h0 : -9223372036854775808 ≤ n) (h1 : n ≤ 9223372036854775807) : (Lib.itoa n).length ≤ 21 := by
  unfold Lib.itoa
  split
  · have := dec_len 20 n.natAbs (by omega) (by decide)
    simp
    omega
  · have := dec_len 20 n.toNat (by omega) (by decide)
    omega
theorem wordL_len (t c : Int) : (wordL t c).length ≤ 21 := by
  unfold wordL
  split
  · rename_i h
    have hb : ∀ t : Nat, t < 7 → ∀ c : Nat, c < 10 → ((wrow t).getD c []).length ≤ 21 := by decide
    exact hb _ (by omega) _ (by omega)
  · simp
theorem writeL_len {f : Nat} {n : Int} (h0 : -9223372036854775808 ≤ n) (h1 : n ≤ 9223372036854775807) : (writeL f n).length ≤ 21 := by
  unfold writeL
  split
  · exact itoa_len h0 h1
  · exact wordL_len _ _
theorem evW_each {e : Ev} (hf : e.Fits) : ∀ x ∈ evW e, x.length ≤ 21 := fun x hx => by
  unfold evW at hx
  rcases List.mem_cons.1 hx with rfl | hx
  · exact wordL_len _ _
  · obtain ⟨p, _, hp⟩ := List.mem_flatMap.1 hx
    unfold partW at hp
    split at hp
    · simp only [List.mem_singleton] at hp
      subst hp
      have := fits_at hf (fcell p.1) (fcell_lt _)
      exact writeL_len this.1 this.2
    · cases hp
theorem evW_len (e : Ev) : (evW e).length ≤ 6 := by
  unfold evW
  have := flatW_len e (partsL e.kind)
  have := partsL_len e.kind
  simp only [List.length_cons]
  omega
theorem join_len : ∀ (ls : List (List UInt8)), (∀ x ∈ ls, x.length ≤ 21) → (Lib.join ls [32]).length ≤ 22 * ls.length
  | [], _ => by simp [Lib.join]
  | [x], h => by have := h x (by simp); simp [Lib.join]; omega
  | x :: y :: ls, h => by
    have := join_len (y :: ls) (fun z hz => h z (List.mem_cons_of_mem _ hz))
    have := h x (by simp)
    simp [Lib.join] at *
    omega

theorem partsL_pos {k : Int} (h : isKind k = true) : 0 < (partsL k).length := by
  have h' : 1 ≤ k ∧ k ≤ 7 := by unfold isKind at h; simpa using h
  unfold partsL
  split
  · decide
  split
  · decide
  split
  · decide
  rw [if_pos (by omega)]
  decide

theorem row_cap {w : World} {B c n : Nat} {e : TypeId} {a : Option Addr} {xs : List Value} (h : w.ownsRow B e 1 (.slice a n c) n xs) : n ≤ c := by
  rcases h.2 with ⟨h1, h2⟩ | ⟨g, cap, cur, e', _, _, hc, _⟩
  · cases h1; omega
  · cases e'; exact hc

/-- A slice that has just been built of one text. -/
theorem row_one (w : World) (x : List UInt8) (B : Nat) (hB : B ≤ w.heap.size) : (w.alloc (.cells #[tv x] 9)).ownsRow B 9 1 (.slice (some ⟨w.heap.size, 0, none⟩) 1 1) 1 (tc [x]) :=
  ⟨rfl, .inr ⟨w.heap.size, 1, #[tv x], rfl, hB, by show (w.heap.push _)[w.heap.size]? = _; exact Array.getElem?_push_size, Nat.le_refl _, by decide, rfl, rfl⟩⟩

theorem PartsAt.below' {w w' : World} {P : Nat} {ps : List (Nat × Nat)} (h : PartsAt w P ps) (hb : Below w.heap.size w w') : PartsAt w' P ps := fun i hi => by
  have hP : P < w.heap.size := World.block_lt_of_cell? w _ (h i hi).1
  exact ⟨(hb.cell (p := ⟨P, 2 * i, none⟩) hP).trans (h i hi).1, (hb.cell (p := ⟨P, 2 * i + 1, none⟩) hP).trans (h i hi).2⟩
theorem PartsAt.read {w : World} {P k : Nat} {ps : List (Nat × Nat)} (h : PartsAt w P ps) (hk : k < ps.length) : w.cell? ⟨P, k * 2, none⟩ = some (.int .i64 ((ps.getD k (0, 0)).1 : Int)) ∧ w.cell? ⟨P, k * 2 + 1, none⟩ = some (.func (.func (54 + (ps.getD k (0, 0)).2)) #[] #[]) := by
  have := h k hk
  rw [Nat.mul_comm] at this
  exact this

/-- What holds at the head of a round, the words that have been laid in a row of their own. -/
structure LRel (w : World) (P : Nat) (ps : List (Nat × Nat)) (e : Ev) (L : List (List UInt8)) (v : Value) (wr : World) : Prop where
  ev : EvAt wr w.heap.size e
  parts : PartsAt wr P ps
  below : Below w.heap.size w wr
  row : wr.ownsRow (w.heap.size + 1) 9 1 v L.length (tc L)
  apart : v.ownBlock ≠ some P
  lt : P < wr.heap.size
theorem LRel.below' {w wr w' : World} {P : Nat} {ps : List (Nat × Nat)} {e : Ev} {L : List (List UInt8)} {v : Value} (h : LRel w P ps e L v wr) (hb : Below wr.heap.size wr w') : LRel w P ps e L v w' :=
  ⟨h.ev.below' hb, h.parts.below' hb, h.below.trans (hb.mono h.below.size), row_below h.row hb, h.apart, Nat.lt_of_lt_of_le h.lt hb.size⟩
theorem LRel.drew {w wr : World} {P : Nat} {ps : List (Nat × Nat)} {e : Ev} {L : List (List UInt8)} {v : Value} (h : LRel w P ps e L v wr) : LRel w P ps e L v wr.drew :=
  ⟨h.ev.drew, h.parts, below_drew h.below, h.row.drew, h.apart, h.lt⟩
theorem grown_cell {w w' : World} {row : Option Nat} (hg : w.grownBy w' row) {b i : Nat} {u : Value} (hc : w.cell? ⟨b, i, none⟩ = some u) (hne : row ≠ some b) : w'.cell? ⟨b, i, none⟩ = some u :=
  (World.cell?_of_block (hg.block b (World.block_lt_of_cell? w _ hc) (fun h => hne h.symm))).trans hc
theorem LRel.grown {w wr w' : World} {P : Nat} {ps : List (Nat × Nat)} {e : Ev} {L : List (List UInt8)} {v : Value} {x : List UInt8} {g cap : Nat} (h : LRel w P ps e L v wr) (hg : wr.grownBy w' v.ownBlock)
    (hr : w'.ownsRow (w.heap.size + 1) 9 1 (.slice (some ⟨g, 0, none⟩) (L.length + 1) cap) (L.length + 1) (tc L ++ [tv x])) (hor : v.ownBlock = some g ∨ g = wr.heap.size) : LRel w P ps e (L ++ [x]) (.slice (some ⟨g, 0, none⟩) (L.length + 1) cap) w' := by
  have hB : v.ownBlock ≠ some w.heap.size := fun e' => by have := (h.row.lt _ e').1; omega
  obtain ⟨c0, c1, c2, c3, c4, c5, c6, c7⟩ := h.ev
  refine ⟨⟨grown_cell hg c0 hB, grown_cell hg c1 hB, grown_cell hg c2 hB, grown_cell hg c3 hB, grown_cell hg c4 hB, grown_cell hg c5 hB, grown_cell hg c6 hB, grown_cell hg c7 hB⟩, fun i hi => ⟨grown_cell hg (h.parts i hi).1 h.apart, grown_cell hg (h.parts i hi).2 h.apart⟩, h.below.grown hg h.below.size (fun j ej => by have := (h.row.lt j ej).1; omega), ?_, ?_, Nat.lt_of_lt_of_le h.lt hg.size⟩
  · rw [List.length_append]
    simpa [tc] using hr
  · intro e'
    have e2 : g = P := by simpa [Value.ownBlock] using e'
    rcases hor with h1 | h1
    · exact h.apart (by rw [h1, e2])
    · have := h.lt; omega

set_option maxRecDepth 100000 in
set_option maxHeartbeats 4000000 in
theorem line_ok (e : Ev) (hf : e.Fits) (hv : validN e = 0) (w : World) (hG : Glob T er w) :
    Calls Tryd.prog 23 #[e.agg] w (Makes (.tuple #[tv (Lib.join (evW e) [32]), .nilIface]) w) := by
  have hk := validN_kind hv
  have Hp := Lib.hid (fun w => partsOf_any e.kind hk w)
  have hal : Below w.heap.size w (w.alloc (.cells #[.int .i64 e.kind, .int .i64 e.tx, .int .i64 e.thread, .int .i64 e.obj, .int .i64 e.op, .int .i64 e.key, .int .i64 e.val, .int .i64 e.ret] 33)) := (Below.refl _ _).alloc (Nat.le_refl _) _
  have hva := valid_any e (w.alloc (.cells #[.int .i64 e.kind, .int .i64 e.tx, .int .i64 e.thread, .int .i64 e.obj, .int .i64 e.op, .int .i64 e.key, .int .i64 e.val, .int .i64 e.ret] 33)) (hG.below' hal)
  rw [hv] at hva
  have hva' : Calls Tryd.prog 31 #[e.agg] (w.alloc (.cells #[.int .i64 e.kind, .int .i64 e.tx, .int .i64 e.thread, .int .i64 e.obj, .int .i64 e.op, .int .i64 e.key, .int .i64 e.val, .int .i64 e.ret] 33)) (Makes .nilIface (w.alloc (.cells #[.int .i64 e.kind, .int .i64 e.tx, .int .i64 e.thread, .int .i64 e.obj, .int .i64 e.op, .int .i64 e.key, .int .i64 e.val, .int .i64 e.ret] 33))) := hva
  have Hev := Lib.hid (evAt_new w e)
  have Hva := Lib.hid hva'
  have Hal := Lib.hid hal
  have HG := Lib.hid hG
  have Hwd := Lib.hid (fun (W : World) (h : WordsAt W) => word_any 2 e.kind W h)
  have Hjn := Lib.hid (fun a c w h hc => join_any a c (evW e) w h hc (by have := evW_len e; omega) (by have := join_len _ (evW_each hf); have := evW_len e; omega))
  have HwrA := Lib.hid (fun f (hf7 : f < 7) i (hi : i < 8) (W : World) (hW : Glob T er W) => write_any f hf7 (e.at i) (fits_at hf i hi).1 (fits_at hf i hi).2 W hW)
  have hpl5 : (partsL e.kind).length ≤ 5 := partsL_len _
  have hpos := Lib.hid (partsL_pos hk)
  have Hat := Lib.hid (fun i (h : i < (partsL e.kind).length) => And.intro (pth_lt h) (at_get h))
  have Hfl := Lib.hid (fun k => flatW_len e ((partsL e.kind).take k))
  obtain ⟨i0, hi, hz0, hz1, hz2⟩ := info_parts infoS
  obtain ⟨L0, hL0⟩ : ∃ L0, wordL 2 e.kind = L0 := ⟨_, rfl⟩
  have HE : Hid (evW e = [L0] ++ (partsL e.kind).flatMap (partW e)) := by show _ = _; rw [← hL0]; rfl
  rw [hL0] at Hwd
  generalize evW e = LL at *
  clear hk hal hG hva hva' hf hv hL0
  go_enter Tryd.func23, Tryd.ntmps23
  go_wp2_with (first
    | (go_at_call 31; refine Hva.out.mono ?_; rintro e1 w1 ⟨rfl, hb1⟩; have hev1 := Hev.out.below' hb1; have Hb1 := Lib.hid (Hal.out.trans (hb1.mono Hal.out.size)); have Hev1 := Lib.hid hev1; obtain ⟨d0, d1, d2, d3, d4, d5, d6, d7⟩ := hev1; clear hb1 Hva d1 d2 d3 d4 d5 d6 d7)
    | (go_at_call 17; refine (Hwd.out _ (HG.out.below' Hb1.out).words).mono ?_; rintro e1 w2 ⟨rfl, rfl⟩; have hal2 : Below w1.heap.size w1 (w1.alloc (.cells #[tv L0] 9)) := (Below.refl _ _).alloc (Nat.le_refl _) _; have Hal2 := Lib.hid hal2; have hlt2 := Hev1.out.lt; clear hal2)
    | (go_at_call 28; refine (Hp.out _).mono ?_; rintro e1 w3 ⟨P, rfl, hP0, hP1, hP2⟩; have hPn : P < w3.heap.size := World.block_lt_of_cell? w3 _ (hP1 0 hpos.out).1))
  obtain ⟨v0, hv0⟩ : ∃ v0 : Value, v0 = .slice (some ⟨w1.heap.size, 0, none⟩) 1 1 := ⟨_, rfl⟩
  have hw3 : Hid (LRel w P (partsL e.kind) e [L0] v0 w3) := by
    have hev := (Hev1.out.below' Hal2.out).below' hP2
    have h12 := Hb1.out.trans (Hal2.out.mono Hb1.out.size)
    have hs : (w1.alloc (.cells #[tv L0] 9)).heap.size = w1.heap.size + 1 := Array.size_push ..
    refine ⟨hev, hP1, h12.trans (hP2.mono h12.size), ?_, ?_, ?_⟩
    · rw [hv0]; exact row_below (row_one w1 L0 (w.heap.size + 1) hlt2) hP2
    · rw [hv0]; intro h; have : w1.heap.size = P := by simpa [Value.ownBlock] using h
      rw [hs] at hP0; omega
    · exact hPn
  clear hP0 hP1 hP2 Hp d0 hlt2 hPn
  rw [← hv0]
  clear hv0
  generalize partsL e.kind = ps at *
  go_loopw [5, 27] (fun v i wr => ∃ k : Nat, k ≤ ps.length ∧ i = .int .i64 k ∧ Hid (LRel w P ps e ([L0] ++ (ps.take k).flatMap (partW e)) v wr)) (fun _ i _ => ps.length - (intOf i).toNat)
  case atStart => exact ⟨0, Nat.zero_le _, rfl, (by have := hw3.out; simpa using this : LRel w P ps e ([L0] ++ (ps.take 0).flatMap (partW e)) v0 w3)⟩
  case round =>
    obtain ⟨k, hk, rfl, Hr⟩ := hrel
    by_cases hlt : k < ps.length
    · have hlt7 := (Hat.out k hlt).1
      have hpt := Hr.out.parts.read hlt
      obtain ⟨f, hf⟩ : ∃ f, (pth ps k).1 = f := ⟨_, rfl⟩
      obtain ⟨g, hg⟩ : ∃ g, (pth ps k).2 = g := ⟨_, rfl⟩
      obtain ⟨c0, c1⟩ := hpt
      change wr.cell? _ = some (.int .i64 ((pth ps k).1 : Nat)) at c0
      change wr.cell? _ = some (.func (.func (54 + (pth ps k).2)) #[] #[]) at c1
      rw [hf] at c0 hlt7
      rw [hg] at c1 hlt7
      have hxk : ps[k]? = some (f, g) := by rw [(Hat.out k hlt).2, ← hf, ← hg]
      have Hxk := Lib.hid hxk
      have hwn := whenIs hlt7.2
      have hboxb : Below wr.heap.size wr (wr.alloc (.cells #[.int .i64 f, .func (.func (54 + g)) #[] #[]] 64)) := (Below.refl _ _).alloc (Nat.le_refl _) _
      have hev := Hr.out.ev
      have hlt2 : w.heap.size < wr.heap.size := hev.lt
      have HrW := Lib.hid (Hr.out.below' hboxb)
      have Hbox := Lib.hid (box_cells wr f (.func (.func (54 + g)) #[] #[]))
      have Heg := Lib.hid hwn.eg
      have Hct := Lib.hid hwn.ct
      have Hlt7 := Lib.hid hlt7
      obtain ⟨d0, d1, d2, d3, d4, d5, d6, d7⟩ := hev
      have eg := Heg.out
      have Hk5 := Hfl.out k
      have hsl : (ps.take k).length ≤ 5 := by rw [List.length_take]; omega
      have hlb : ([L0] ++ (ps.take k).flatMap (partW e)).length ≤ 6 := by rw [List.length_append]; simp only [List.length_cons, List.length_nil]; omega
      have Hlb := Lib.hid hlb
      clear hf hg hwn hlt7 hxk hboxb hsl hlb Hk5
      obtain ⟨L, hL⟩ : ∃ L, [L0] ++ (ps.take k).flatMap (partW e) = L := ⟨_, rfl⟩
      have hstep : [L0] ++ (ps.take (k + 1)).flatMap (partW e) = L ++ partW e (f, g) := by rw [flat_take _ Hxk.out, ← List.append_assoc, hL]
      have hrW := HrW.out
      have hlbL := Hlb.out
      rw [hL] at hrW hlbL
      have Hstep := Lib.hid hstep
      have HrL := Lib.hid hrW
      clear hL hstep hrW HrW Hlb
      by_cases hwb : whenB g e = true
      · have hct : ∀ W, Calls Tryd.prog (54 + g) #[e.agg] W (Makes (.bool true) W) := fun W => by rw [← hwb]; exact Hct.out e W
        have HCt := Lib.hid hct
        have hpb : partW e (f, g) = [writeL f (e.at (fcell f))] := by unfold partW; rw [if_pos hwb]
        have hst2 := Hstep.out
        rw [hpb] at hst2
        have Hin := Lib.hid (fun W => in_any f Hlt7.out.1 w.heap.size W)
        have Hwr := Lib.hid (fun W hW => HwrA.out f Hlt7.out.1 (fcell f) (fcell_lt f) W hW)
        have Hdc := Lib.hid (fun (W : World) (h : EvAt W w.heap.size e) => h.at (fcell f) (fcell_lt f))
        generalize fcell f = c at *
        generalize e.at c = x at *
        generalize writeL f x = y at *
        have Hst2 := Lib.hid hst2
        clear hct hwb hpb hst2 Hstep
        go_wp2_with (first
          | (refine (HCt.out _).mono ?_; rintro e2 w4 ⟨rfl, hb3⟩; have hbx := box_below Hbox.out hb3; obtain ⟨q0, q1⟩ := hbx; have dc := Hdc.out w4 (HrL.out.ev.below' hb3); have Hr4 := Lib.hid (HrL.out.below' hb3); have hq4 : wr.heap.size < w4.heap.size := World.block_lt_of_cell? w4 _ q0; clear HCt hb3 d0 d1 d2 d3 d4 d5 d6 d7 q1))
        refine wp_region_held_drew (S := (fun w' => w'.cell? ⟨wr.heap.size, 0, none⟩ = some (.int .i64 (f : Int)) ∧ w'.cell? ⟨w.heap.size, c, none⟩ = some (.int .i64 x))) (by kernel_rfl) (And.intro q0 dc) (fun hHeld => ?_)
        refine held_take 0 (some 35) ?_ rfl rfl (by kernel_rfl) (by kernel_rfl) (by kernel_rfl) (fun _ _ _ h => h) (by kernel_rfl) ?_ (by assumption) ?_
        rotate_left
        · intro w hSw; (try dsimp only at hSw); go_simp <;> (try with_reducible rfl)
        simp only [Act.put, List.setIfInBounds_toArray, List.set_cons_zero, List.set_cons_succ]
        refine held_take 1 (some 36) ?_ rfl rfl (by kernel_rfl) (by kernel_rfl) (by kernel_rfl) (fun _ _ _ h => h) (by kernel_rfl) ?_ (by assumption) ?_
        rotate_left
        · intro w hSw; (try dsimp only at hSw); go_simp <;> (try with_reducible rfl)
        simp only [Act.put, List.setIfInBounds_toArray, List.set_cons_zero, List.set_cons_succ]
        refine held_take 2 (some 37) ?_ rfl rfl (by kernel_rfl) (by kernel_rfl) (by kernel_rfl) (fun _ _ _ h => h) (by kernel_rfl) ?_ (by assumption) ?_
        rotate_left
        · intro w hSw; (try dsimp only at hSw); go_simp <;> (try with_reducible rfl)
        simp only [Act.put, List.setIfInBounds_toArray, List.set_cons_zero, List.set_cons_succ]
        refine held_take 3 (some 38) ?_ rfl rfl (by kernel_rfl) (by kernel_rfl) (by kernel_rfl) (fun _ _ _ h => h) (by kernel_rfl) ?_ (by assumption) ?_
        rotate_left
        · intro w hSw; (try dsimp only at hSw); go_simp <;> (try with_reducible rfl)
        simp only [Act.put, List.setIfInBounds_toArray, List.set_cons_zero, List.set_cons_succ]
        refine held_take 4 (some 39) ?_ rfl rfl (by kernel_rfl) (by kernel_rfl) (by kernel_rfl) (fun _ _ _ h => h) (by kernel_rfl) ?_ (by assumption) ?_
        rotate_left
        · intro w hSw; (try dsimp only at hSw); go_simp <;> (try with_reducible rfl)
        simp only [Act.put, List.setIfInBounds_toArray, List.set_cons_zero, List.set_cons_succ]
        refine wpAnyH_ready (rs := [5]) (by kernel_rfl) (by simp) (AllReadyH.cons rfl (fun K hK => ?_) AllReadyH.nil)
        go_simp
        (go_at_call 30; refine (Hin.out _).mono ?_; rintro e3 w5 ⟨rfl, rfl⟩)
        go_wp2_with fail
        refine hK.out _ _ hHeld (fun hHeld => ?_)
        clear hK K
        try simp only [Act.put, List.setIfInBounds_toArray, List.set_cons_zero, List.set_cons_succ]
        refine held_take 6 (some 41) ?_ rfl rfl (by kernel_rfl) (by kernel_rfl) (by kernel_rfl) (fun _ _ _ h => h) (by kernel_rfl) ?_ (by assumption) ?_
        rotate_left
        · intro w hSw; (try dsimp only at hSw); go_simp <;> (try with_reducible rfl)
        simp only [Act.put, List.setIfInBounds_toArray, List.set_cons_zero, List.set_cons_succ]
        refine held_take 7 (some 42) ?_ rfl rfl (by kernel_rfl) (by kernel_rfl) (by kernel_rfl) (fun _ _ _ h => h) (by kernel_rfl) ?_ (by assumption) ?_
        rotate_left
        · intro w hSw; (try dsimp only at hSw); go_simp <;> (try with_reducible rfl)
        simp only [Act.put, List.setIfInBounds_toArray, List.set_cons_zero, List.set_cons_succ]
        refine wpAnyH_ready (rs := [8]) (by kernel_rfl) (by simp) (AllReadyH.cons rfl (fun K hK => ?_) AllReadyH.nil)
        go_simp
        (go_at_call 33; refine (Hwr.out _ (HG.out.below' Hr4.out.below).drew).mono ?_; rintro e3 w5 ⟨rfl, hb5⟩)
        go_wp2_with fail
        refine hK.out _ _ (And.intro ((hb5.cell (p := ⟨wr.heap.size, 0, none⟩) (World.block_lt_of_cell? w4 _ q0)).trans q0) ((hb5.cell (p := ⟨w.heap.size, c, none⟩) (World.block_lt_of_cell? w4 _ dc)).trans dc)) (fun hHeld => ?_)
        clear hK K
        try simp only [Act.put, List.setIfInBounds_toArray, List.set_cons_zero, List.set_cons_succ]
        have q05 : w5.cell? ⟨wr.heap.size, 0, none⟩ = some (.int .i64 (f : Int)) := hHeld.1
        have dc5 : w5.cell? ⟨w.heap.size, c, none⟩ = some (.int .i64 x) := hHeld.2
        have hal5 : Below w5.heap.size w5 (w5.alloc (.cells #[tv y] 9)) := (Below.refl _ _).alloc (Nat.le_refl _) _
        have Hal5 := Lib.hid hal5
        have Hr5 := Lib.hid ((Hr4.out.drew.below' hb5).below' hal5)
        clear hal5 hb5
        refine wpAnyH_ready (rs := [9]) (by kernel_rfl) (by simp) (AllReadyH.cons rfl (fun K hK => ?_) AllReadyH.nil)
        go_simp
        refine hK.out _ _ (And.intro ((Hal5.out.cell (p := ⟨wr.heap.size, 0, none⟩) (World.block_lt_of_cell? w5 _ q05)).trans q05) ((Hal5.out.cell (p := ⟨w.heap.size, c, none⟩) (World.block_lt_of_cell? w5 _ dc5)).trans dc5)) (fun hHeld => ?_)
        clear hK K
        try simp only [Act.put, List.setIfInBounds_toArray, List.set_cons_zero, List.set_cons_succ]
        refine wpAnyH_ready (rs := [10]) (by kernel_rfl) (by simp) (AllReadyH.cons rfl (fun K hK => ?_) AllReadyH.nil)
        refine step_append_lies _ rfl (.tmp 35) (.tmp 44) 53 rfl (w.heap.size + 1) 9 i0 (.string ⟨#[]⟩) 1 16 under53 hi hz0 hz1 hz2 rfl (by decide) _ L.length (tc L) rfl Hr5.out.row ⟨w5.heap.size, 0, none⟩ 1 1 [tv y] rfl rfl (cell_one_new _ _ _) (by simp [Value.oneCell']) (by decide) (by unfold maxLen; omega) (by omega) (by have := Hr5.out.ev.lt; omega) _ rfl ?_
        intro g2 cap2 w6 hown6 hgrow6 hor6 hlt6
        have hQne : u5.ownBlock ≠ some wr.heap.size := fun e' => by have := (Hr.out.row.lt _ e').2; omega
        have hBne : u5.ownBlock ≠ some w.heap.size := fun e' => by have := (Hr.out.row.lt _ e').1; omega
        refine hK.out _ _ (And.intro (grown_cell hgrow6 ((Hal5.out.cell (p := ⟨wr.heap.size, 0, none⟩) (World.block_lt_of_cell? w5 _ q05)).trans q05) hQne) (grown_cell hgrow6 ((Hal5.out.cell (p := ⟨w.heap.size, c, none⟩) (World.block_lt_of_cell? w5 _ dc5)).trans dc5) hBne)) (fun hHeld => ?_)
        clear hK K
        try simp only [Act.put, List.setIfInBounds_toArray, List.set_cons_zero, List.set_cons_succ]
        have Hnew := Lib.hid (Hr5.out.grown hgrow6 hown6 hor6)
        rw [← Hst2.out] at Hnew
        clear hown6 hgrow6 hor6 hlt6 hQne hBne q05 dc5
        refine held_take 11 (some 5) ?_ rfl rfl (by kernel_rfl) (by kernel_rfl) (by kernel_rfl) (fun _ _ _ h => h) (by kernel_rfl) ?_ (by assumption) ?_
        rotate_left
        · intro w hSw; (try dsimp only at hSw); go_simp <;> (try with_reducible rfl)
        simp only [Act.put, List.setIfInBounds_toArray, List.set_cons_zero, List.set_cons_succ]
        refine wpAnyH_done (by kernel_rfl) ?_ _
        go_wp2
        go_roundw
        case rel => exact ⟨k + 1, by omega, by go_num, Hnew.out⟩
        case measure => simp [intOf]; omega
      · have hwb' : whenB g e = false := by simpa using hwb
        have hct : ∀ W, Calls Tryd.prog (54 + g) #[e.agg] W (Makes (.bool false) W) := fun W => by rw [← hwb']; exact Hct.out e W
        have HCt := Lib.hid hct
        have hpb : partW e (f, g) = [] := by unfold partW; rw [if_neg hwb]
        have hst2 := Hstep.out
        rw [hpb, List.append_nil] at hst2
        have Hst2 := Lib.hid hst2
        clear hct hwb hwb' hpb hst2 Hstep
        go_wp2_with (first
          | (refine (HCt.out _).mono ?_; rintro e2 w4 ⟨rfl, hb3'⟩; have hb3 := Lib.hid hb3'; clear HCt hb3' d0 d1 d2 d3 d4 d5 d6 d7))
        have hnew : LRel w P ps e ([L0] ++ (ps.take (k + 1)).flatMap (partW e)) u5 w4 := by
          rw [Hst2.out]
          exact HrL.out.below' hb3.out
        have Hnew := Lib.hid hnew
        clear hnew
        go_roundw
        case rel => exact ⟨k + 1, by omega, by go_num, Hnew.out⟩
        case measure => simp [intOf]; omega
    · have hkl : k = ps.length := by omega
      subst hkl
      have hfin := Hr.out
      rw [List.take_length, ← HE.out] at hfin
      obtain ⟨a, c, rfl, hta⟩ := tat_row hfin.row
      have Hfin := Lib.hid hfin.below
      have hcap : LL.length ≤ c := row_cap hfin.row
      have Hjn2 := Lib.hid (Hjn.out a c wr hta hcap)
      clear hfin hta hcap
      go_wp2_with (first | (go_at_call 34; refine Hjn2.out.mono ?_; rintro e2 w4 ⟨rfl, hb4⟩))
      go_ret2
      exact ⟨rfl, Hfin.out.trans (hb4.out.mono Hfin.out.size)⟩
end Go.Proofs.YtciajjjigigidaaDoor
