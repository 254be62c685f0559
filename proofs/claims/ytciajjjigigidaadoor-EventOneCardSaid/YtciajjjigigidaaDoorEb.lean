/- Bytes of an event, by contracts. -/
import Derived.Test.YtciajjjigigidaaDoorEva
import Derived.Test.YtciajjjigigidaaDoorWp
namespace Go.Proofs.YtciajjjigigidaaDoor
open Go.RowKit Go.Maps Go.WideMaps Go.WideElems Go.ChangeShapes Go.WideShapes

variable {T : TypeId} {er : Nat → Addr}

theorem row_below {w w' : World} {B : Nat} {e : TypeId} {k : Nat} {v : Value} {n : Nat} {xs : List Value} (h : w.ownsRow B e k v n xs) (hb : Below w.heap.size w w') : w'.ownsRow B e k v n xs := by
  refine ⟨h.1, ?_⟩
  rcases h.2 with h2 | ⟨g, cap, cur, e', hB, hg, rest⟩
  · exact .inl h2
  · exact .inr ⟨g, cap, cur, e', hB, (hb.block g ((h.lt g (by rw [e']; rfl)).2)).trans hg, rest⟩
theorem row_base {w : World} {B B' : Nat} {e : TypeId} {k : Nat} {v : Value} {n : Nat} {xs : List Value} (h : w.ownsRow B e k v n xs) (hB : B' ≤ B) : w.ownsRow B' e k v n xs := by
  refine ⟨h.1, ?_⟩
  rcases h.2 with h2 | ⟨g, cap, cur, e', hB', rest⟩
  · exact .inl h2
  · exact .inr ⟨g, cap, cur, e', Nat.le_trans hB hB', rest⟩

/-- The bytes that a part lays. -/
def partB (e : Ev) (p : Nat × Nat) : List Nat := if whenB p.2 e then vb (foldN (e.at (fcell p.1))) else []
/-- The bytes of an event. -/
def evB (e : Ev) : List Nat := vb (foldN e.kind) ++ (partsL e.kind).flatMap (partB e)

theorem flat_take {α β : Type} (g : α → List β) {l : List α} {k : Nat} {x : α} (h : l[k]? = some x) : (l.take (k + 1)).flatMap g = (l.take k).flatMap g ++ g x := by
  obtain ⟨hk, rfl⟩ := (List.getElem?_eq_some_iff.1 h)
  rw [List.take_succ_eq_append_getElem hk, List.flatMap_append]
  simp
theorem validN_kind {e : Ev} (h : validN e = 0) : isKind e.kind = true := by
  unfold validN at h
  by_cases hk : isKind e.kind = true
  · exact hk
  · rw [if_neg hk] at h; cases h
theorem fits_at {e : Ev} (h : e.Fits) (i : Nat) (hi : i < 8) : -9223372036854775808 ≤ e.at i ∧ e.at i ≤ 9223372036854775807 := h.all i hi
theorem partB_len {e : Ev} (h : e.Fits) (p : Nat × Nat) : (partB e p).length ≤ 10 := by
  unfold partB
  split
  · have := fits_at h (fcell p.1) (fcell_lt _)
    exact vb_len_10 _ (fold_lt _ this.1 this.2)
  · simp
theorem flat_len {e : Ev} (h : e.Fits) : ∀ l : List (Nat × Nat), (l.flatMap (partB e)).length ≤ 10 * l.length
  | [] => by simp
  | p :: l => by
    rw [List.flatMap_cons, List.length_append, List.length_cons]
    have := flat_len h l
    have := partB_len h p
    omega

theorem evBytes_bad (e : Ev) (hv : validN e ≠ 0) (w : World) (hG : Glob T er w) :
    Calls Tryd.prog 21 #[e.agg] w (Makes (.tuple #[.slice none 0 0, errV T er (validN e)]) w) := by
  have hal : Below w.heap.size w (w.alloc (.cells #[.int .i64 e.kind, .int .i64 e.tx, .int .i64 e.thread, .int .i64 e.obj, .int .i64 e.op, .int .i64 e.key, .int .i64 e.val, .int .i64 e.ret] 33)) := (Below.refl _ _).alloc (Nat.le_refl _) _
  have hva := valid_any e (w.alloc (.cells #[.int .i64 e.kind, .int .i64 e.tx, .int .i64 e.thread, .int .i64 e.obj, .int .i64 e.op, .int .i64 e.key, .int .i64 e.val, .int .i64 e.ret] 33)) (hG.below' hal)
  obtain ⟨a, ha⟩ : ∃ a, errV T er (validN e) = .iface T (.pointer (some a)) := by
    cases h : validN e with
    | zero => exact absurd h hv
    | succ k => exact ⟨_, rfl⟩
  rw [ha] at hva ⊢
  have Hva := Lib.hid hva
  have Hal := Lib.hid hal
  clear hva hal hv hG ha
  go_enter Tryd.func21, Tryd.ntmps21
  go_wp2_with (first | (go_at_call 31; refine Hva.out.mono ?_; rintro e1 w1 ⟨rfl, hb1⟩; have Hb1 := Lib.hid hb1; clear hb1))
  go_ret2
  exact ⟨rfl, Hal.out.trans (Hb1.out.mono Hal.out.size)⟩

set_option maxRecDepth 100000 in
set_option maxHeartbeats 4000000 in
theorem evBytes_ok (e : Ev) (hf : e.Fits) (hv : validN e = 0) (w : World) (hG : Glob T er w) :
    Calls Tryd.prog 21 #[e.agg] w fun e' w' => ∃ v, e' = .returned (.tuple #[v, .nilIface]) ∧ Hid (w'.ownsRow w.heap.size 5 1 v (evB e).length (bc (evB e)) ∧ Below w.heap.size w w') := by
  have hk := validN_kind hv
  have Hp := Lib.hid (fun w => partsOf_any e.kind hk w)
  have hal : Below w.heap.size w (w.alloc (.cells #[.int .i64 e.kind, .int .i64 e.tx, .int .i64 e.thread, .int .i64 e.obj, .int .i64 e.op, .int .i64 e.key, .int .i64 e.val, .int .i64 e.ret] 33)) := (Below.refl _ _).alloc (Nat.le_refl _) _
  have hva := valid_any e (w.alloc (.cells #[.int .i64 e.kind, .int .i64 e.tx, .int .i64 e.thread, .int .i64 e.obj, .int .i64 e.op, .int .i64 e.key, .int .i64 e.val, .int .i64 e.ret] 33)) (hG.below' hal)
  rw [hv] at hva
  have hva' : Calls Tryd.prog 31 #[e.agg] (w.alloc (.cells #[.int .i64 e.kind, .int .i64 e.tx, .int .i64 e.thread, .int .i64 e.obj, .int .i64 e.op, .int .i64 e.key, .int .i64 e.val, .int .i64 e.ret] 33)) (Makes .nilIface (w.alloc (.cells #[.int .i64 e.kind, .int .i64 e.tx, .int .i64 e.thread, .int .i64 e.obj, .int .i64 e.op, .int .i64 e.key, .int .i64 e.val, .int .i64 e.ret] 33))) := hva
  have Hev := Lib.hid (evAt_new w e)
  have Hva := Lib.hid hva'
  have Hal := Lib.hid hal
  have HG := Lib.hid hG
  have Hput := Lib.hid (fun a c l i (hi : i < 8) w => put_on a c l (e.at i) (fits_at hf i hi).1 (fits_at hf i hi).2 w)
  have Hput0 : Hid (∀ w, Calls Tryd.prog 32 #[.slice none 0 0, .int .i64 e.kind] w fun e' w' => ∃ v, e' = .returned v ∧ Hid (w'.ownsRow w.heap.size 5 1 v (vb (foldN e.kind)).length (bc (vb (foldN e.kind))) ∧ Below w.heap.size w w')) := fun w => Hput.out none 0 [] 0 (by decide) w (.inl rfl) (by decide)
  have hpl5 : (partsL e.kind).length ≤ 5 := partsL_len _
  have Hat := Lib.hid (fun i (h : i < (partsL e.kind).length) => And.intro (pth_lt h) (at_get h))
  have Hfl := Lib.hid (fun k => flat_len hf ((partsL e.kind).take k))
  have h10 := vb_len_10 (foldN e.kind) (fold_lt _ (fits_at hf 0 (by decide)).1 (fits_at hf 0 (by decide)).2)
  obtain ⟨L0, hL0⟩ : ∃ L0, vb (foldN e.kind) = L0 := ⟨_, rfl⟩
  have HE : Hid (evB e = L0 ++ (partsL e.kind).flatMap (partB e)) := by show _ = _; rw [← hL0]; rfl
  rw [hL0] at Hput0 h10
  clear hk hal hG hva hva' hf hv hL0
  go_enter Tryd.func21, Tryd.ntmps21
  go_wp2_with (first
    | (go_at_call 31; refine Hva.out.mono ?_; rintro e1 w1 ⟨rfl, hb1⟩; have hev1 := Hev.out.below' hb1; have Hb1 := Lib.hid (Hal.out.trans (hb1.mono Hal.out.size)); have Hev1 := Lib.hid hev1; obtain ⟨d0, d1, d2, d3, d4, d5, d6, d7⟩ := hev1; clear hb1 Hva d1 d2 d3 d4 d5 d6 d7)
    | (go_at_call 32; refine (Hput0.out _).mono ?_; rintro e1 w2 ⟨v0, rfl, hp⟩; have hev2 := Hev1.out.below' hp.out.2; have Hev2 := Lib.hid hev2; have c0 := hev2.c0; clear hev2 Hput0 d0)
    | (go_at_call 28; refine (Hp.out _).mono ?_; rintro e1 w3 ⟨P, rfl, hP0, hP1, hP2⟩))
  have hw3 : Hid (EvAt w3 w.heap.size e ∧ PartsAt w3 P (partsL e.kind) ∧ w.heap.size < w3.heap.size ∧ Below w.heap.size w w3 ∧ w3.ownsRow w.heap.size 5 1 v0 L0.length (bc L0)) := by
    have hev := Hev2.out.below' hP2
    have h12 := Hb1.out.trans (hp.out.2.mono Hb1.out.size)
    exact ⟨hev, hP1, hev.lt, h12.trans (hP2.mono h12.size), row_below (row_base hp.out.1 Hb1.out.size) hP2⟩
  clear hP0 hP1 hP2 Hp hp c0
  generalize partsL e.kind = ps at *
  go_loopw [5, 26] (fun v i wr => ∃ k : Nat, k ≤ ps.length ∧ i = .int .i64 k ∧ Hid (Below w3.heap.size w3 wr ∧ wr.ownsRow w.heap.size 5 1 v (L0 ++ (ps.take k).flatMap (partB e)).length (bc (L0 ++ (ps.take k).flatMap (partB e))))) (fun _ i _ => ps.length - (intOf i).toNat)
  case atStart => exact ⟨0, Nat.zero_le _, rfl, Below.refl _ _, by simpa using hw3.out.2.2.2.2⟩
  case round =>
    obtain ⟨k, hk, rfl, Hr⟩ := hrel
    by_cases hlt : k < ps.length
    · have hlt7 := (Hat.out k hlt).1
      have hpt := hw3.out.2.1.at_below hlt Hr.out.1
      obtain ⟨f, hf⟩ : ∃ f, (pth ps k).1 = f := ⟨_, rfl⟩
      obtain ⟨g, hg⟩ : ∃ g, (pth ps k).2 = g := ⟨_, rfl⟩
      obtain ⟨c0, c1⟩ := hpt
      change wr.cell? _ = some (.int .i64 ((pth ps k).1 : Nat)) at c0
      change wr.cell? _ = some (.func (.func (54 + (pth ps k).2)) #[] #[]) at c1
      rw [hf] at c0 hlt7
      rw [hg] at c1 hlt7
      have hxk : ps[k]? = some (f, g) := by rw [(Hat.out k hlt).2, ← hf, ← hg]
      have Hxk := Lib.hid hxk
      have hwn := whenIs hlt7.2
      have hsz := Hr.out.1.size
      have hboxb : Below wr.heap.size wr (wr.alloc (.cells #[.int .i64 f, .func (.func (54 + g)) #[] #[]] 64)) := (Below.refl _ _).alloc (Nat.le_refl _) _
      have hev := hw3.out.1.below' Hr.out.1
      have hevW := hev.below' hboxb
      have hlt2 : w.heap.size < wr.heap.size := hev.lt
      have HevW := Lib.hid hevW
      have HbW := Lib.hid (Hr.out.1.trans (hboxb.mono hsz))
      have HrW := Lib.hid (row_below Hr.out.2 hboxb)
      have Hbox := Lib.hid (box_cells wr f (.func (.func (54 + g)) #[] #[]))
      have Heg := Lib.hid hwn.eg
      have Hct := Lib.hid hwn.ct
      have Hlt7 := Lib.hid hlt7
      obtain ⟨d0, d1, d2, d3, d4, d5, d6, d7⟩ := hev
      have eg := Heg.out
      have Hk10 := Hfl.out k
      have hsl : (ps.take k).length ≤ 5 := by rw [List.length_take]; omega
      have hlb : (L0 ++ (ps.take k).flatMap (partB e)).length ≤ 1099511627776 := by rw [List.length_append]; omega
      have Hlb := Lib.hid hlb
      clear hf hg hwn hsz hlt7 hxk hboxb hevW hsl hlb Hk10
      obtain ⟨L, hL⟩ : ∃ L, L0 ++ (ps.take k).flatMap (partB e) = L := ⟨_, rfl⟩
      have hstep : L0 ++ (ps.take (k + 1)).flatMap (partB e) = L ++ partB e (f, g) := by rw [flat_take _ Hxk.out, ← List.append_assoc, hL]
      have hrW := HrW.out
      have hlbL := Hlb.out
      rw [hL] at hrW hlbL
      obtain ⟨a, c', rfl, hbat⟩ := bat_row hrW
      have Hstep := Lib.hid hstep
      have HrL := Lib.hid hrW
      have HlbL := Lib.hid hlbL
      have Hbat := Lib.hid hbat
      clear hL hstep hrW hlbL hbat HrW Hlb
      by_cases hwb : whenB g e = true
      · have hct : ∀ W, Calls Tryd.prog (54 + g) #[e.agg] W (Makes (.bool true) W) := fun W => by rw [← hwb]; exact Hct.out e W
        have HCt := Lib.hid hct
        have hpb : partB e (f, g) = vb (foldN (e.at (fcell f))) := by unfold partB; rw [if_pos hwb]
        have hst2 := Hstep.out
        rw [hpb] at hst2
        have Hin := Lib.hid (fun W => in_any f Hlt7.out.1 w.heap.size W)
        have HputF := Lib.hid (fun a c l w => Hput.out a c l (fcell f) (fcell_lt f) w)
        have Hdc := Lib.hid (fun (W : World) (h : EvAt W w.heap.size e) => h.at (fcell f) (fcell_lt f))
        generalize fcell f = c at *
        generalize e.at c = x at *
        have Hst2 := Lib.hid hst2
        clear hct hwb hpb hst2 Hstep
        go_wp2_with (first
          | (go_at_call 30; refine (Hin.out _).mono ?_; rintro e3 w5 ⟨rfl, rfl⟩)
          | (go_at_call 32; refine (HputF.out _ _ _ _ (Hbat.out.below' hb3.out) HlbL.out).mono ?_; rintro e3 w5 ⟨v5, rfl, h5⟩)
          | (refine (HCt.out _).mono ?_; rintro e2 w4 ⟨rfl, hb3'⟩; have hbx := box_below Hbox.out hb3'; obtain ⟨q0, q1⟩ := hbx; have dc := Hdc.out w4 (HevW.out.below' hb3'); have hb3 := Lib.hid hb3'; clear HCt hb3' d0 d1 d2 d3 d4 d5 d6 d7 q1))
        have hnew : Below w3.heap.size w3 w5 ∧ w5.ownsRow w.heap.size 5 1 v5 (L0 ++ (ps.take (k + 1)).flatMap (partB e)).length (bc (L0 ++ (ps.take (k + 1)).flatMap (partB e))) := by
          have hw4 := HbW.out.trans (hb3.out.mono HbW.out.size)
          rw [Hst2.out]
          exact ⟨hw4.trans (h5.out.2.mono hw4.size), row_base h5.out.1 (Nat.le_of_lt (HevW.out.below' hb3.out).lt)⟩
        have Hnew := Lib.hid hnew
        clear hnew h5
        go_roundw
        case rel => exact ⟨k + 1, by omega, by go_num, Hnew.out⟩
        case measure => simp [intOf]; omega
      · have hwb' : whenB g e = false := by simpa using hwb
        have hct : ∀ W, Calls Tryd.prog (54 + g) #[e.agg] W (Makes (.bool false) W) := fun W => by rw [← hwb']; exact Hct.out e W
        have HCt := Lib.hid hct
        have hpb : partB e (f, g) = [] := by unfold partB; rw [if_neg hwb]
        have hst2 := Hstep.out
        rw [hpb, List.append_nil] at hst2
        have Hst2 := Lib.hid hst2
        clear hct hwb hwb' hpb hst2 Hstep
        go_wp2_with (first
          | (refine (HCt.out _).mono ?_; rintro e2 w4 ⟨rfl, hb3'⟩; have hb3 := Lib.hid hb3'; clear HCt hb3' d0 d1 d2 d3 d4 d5 d6 d7))
        have hnew : Below w3.heap.size w3 w4 ∧ w4.ownsRow w.heap.size 5 1 (.slice a L.length c') (L0 ++ (ps.take (k + 1)).flatMap (partB e)).length (bc (L0 ++ (ps.take (k + 1)).flatMap (partB e))) := by
          rw [Hst2.out]
          exact ⟨HbW.out.trans (hb3.out.mono HbW.out.size), row_below HrL.out hb3.out⟩
        have Hnew := Lib.hid hnew
        clear hnew
        go_roundw
        case rel => exact ⟨k + 1, by omega, by go_num, Hnew.out⟩
        case measure => simp [intOf]; omega
    · have hkl : k = ps.length := by omega
      subst hkl
      have hfin := Hr.out
      rw [List.take_length, ← HE.out] at hfin
      have Hfin := Lib.hid (And.intro hfin.2 (hw3.out.2.2.2.1.trans (hfin.1.mono hw3.out.2.2.2.1.size)))
      clear hfin
      go_wp2
      go_ret2
      exact ⟨_, rfl, Hfin.out⟩
end Go.Proofs.YtciajjjigigidaaDoor
