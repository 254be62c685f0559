/- From, by a contract. -/
import Derived.Test.YtciajjjigigidaaDoorEb
import Derived.Laws.Rows
namespace Go.Proofs.YtciajjjigigidaaDoor
open Go.RowKit Go.Maps Go.WideMaps Go.WideElems Go.ChangeShapes Go.WideShapes

variable {T : TypeId} {er : Nat → Addr}

/-- An error. -/
abbrev errE (T : TypeId) (er : Nat → Addr) (n : Nat) : Value := .iface T (.pointer (some (er n)))

/-- What From finds, part by part: the event so far and its size; or an error. -/
def fstep (l : List Nat) (st : Except Nat (Ev × Nat)) (p : Nat × Nat) : Except Nat (Ev × Nat) := match st with
  | .error n => .error n
  | .ok (e, s) => if whenB p.2 e then
      match getL 0 0 (l.drop s) with
      | .long => .error 0
      | .endd => .error 1
      | .ok u m => if fnone p.1 (unfoldN u) then .error 3 else .ok (e.put (fcell p.1) (unfoldN u), s + m)
    else .ok (e, s)
/-- What From answers: an error, or the event and its size. -/
def fromR (l : List Nat) : Except Nat (Ev × Nat) := match getL 0 0 l with
  | .long => .error 0
  | .endd => .error 1
  | .ok u s => if isKind (unfoldN u) then
      match (partsL (unfoldN u)).foldl (fstep l) (.ok (⟨unfoldN u, 0, 0, 0, 0, 0, 0, 0⟩, s)) with
      | .error n => .error n
      | .ok (e, s) => if validN e = 0 then .ok (e, s) else .error (validN e)
    else .error 3
/-- Its value. -/
def fromV (T : TypeId) (er : Nat → Addr) : Except Nat (Ev × Nat) → Value
  | .error n => .tuple #[Ev.zero.agg, .int .i64 0, errE T er n]
  | .ok (e, s) => .tuple #[e.agg, .int .i64 s, .nilIface]

/-- An event laid over another one. -/
def World.setEv (w : World) (Z : Nat) (e : Ev) : World := (((((((w.setCell ⟨Z, 0, none⟩ (.int .i64 e.kind)).setCell ⟨Z, 1, none⟩ (.int .i64 e.tx)).setCell ⟨Z, 2, none⟩ (.int .i64 e.thread)).setCell ⟨Z, 3, none⟩ (.int .i64 e.obj)).setCell ⟨Z, 4, none⟩ (.int .i64 e.op)).setCell ⟨Z, 5, none⟩ (.int .i64 e.key)).setCell ⟨Z, 6, none⟩ (.int .i64 e.val)).setCell ⟨Z, 7, none⟩ (.int .i64 e.ret)
theorem evOwn_set {w : World} {Z : Nat} {d : Ev} (h : EvOwn w Z d) (e : Ev) : EvOwn (World.setEv w Z e) Z e := by
  have := (((((((h.set (c := 0) (by decide) e.kind).set (c := 1) (by decide) e.tx).set (c := 2) (by decide) e.thread).set (c := 3) (by decide) e.obj).set (c := 4) (by decide) e.op).set (c := 5) (by decide) e.key).set (c := 6) (by decide) e.val).set (c := 7) (by decide) e.ret
  have k : (((((((d.put 0 e.kind).put 1 e.tx).put 2 e.thread).put 3 e.obj).put 4 e.op).put 5 e.key).put 6 e.val).put 7 e.ret = e := by cases d; cases e; rfl
  rw [k] at this
  unfold World.setEv
  exact this
theorem below_setEv {B : Nat} {a w : World} (h : Below B a w) {Z : Nat} (hZ : B ≤ Z) (e : Ev) : Below B a (World.setEv w Z e) :=
  (((((((h.setCell (p := ⟨Z, 0, none⟩) hZ _).setCell (p := ⟨Z, 1, none⟩) hZ _).setCell (p := ⟨Z, 2, none⟩) hZ _).setCell (p := ⟨Z, 3, none⟩) hZ _).setCell (p := ⟨Z, 4, none⟩) hZ _).setCell (p := ⟨Z, 5, none⟩) hZ _).setCell (p := ⟨Z, 6, none⟩) hZ _).setCell (p := ⟨Z, 7, none⟩) hZ _

theorem setEv_far (w : World) (Z : Nat) (e : Ev) (g i : Nat) (h : Z ≠ g) : (World.setEv w Z e).cell? ⟨g, i, none⟩ = w.cell? ⟨g, i, none⟩ := by
  unfold World.setEv
  have k : ∀ (W : World) (j : Nat) (v : Value), (W.setCell ⟨Z, j, none⟩ v).cell? ⟨g, i, none⟩ = W.cell? ⟨g, i, none⟩ := fun W j v => World.cell?_setCell_other _ _ _ _ (by intro h'; injection h' with h1; exact h h1)
  rw [k, k, k, k, k, k, k, k]
theorem load_ev {W : World} {Z : Nat} {e : Ev} (h : EvAt W Z e) : (loadVar 33 ⟨Z, 0, none⟩).run Tryd.prog W = .ok e.agg W := by
  obtain ⟨c0, c1, c2, c3, c4, c5, c6, c7⟩ := h
  go_simp
theorem res19 (tmps : Array Value) (W : World) (Z : Nat) (e : Ev) (v3 v4 : Value) (h : EvAt W Z e) (h2 : tmps.getD 2 undef = .pointer (some ⟨Z, 0, none⟩)) (h3 : tmps.getD 3 undef = v3) (h4 : tmps.getD 4 undef = v4) : (results Tryd.f19 tmps).run Tryd.prog W = .ok (.tuple #[e.agg, v3, v4]) W := by
  have hl := load_ev h
  clear h
  have h2' : tmps[2]?.getD undef = .pointer (some ⟨Z, 0, none⟩) := by simpa using h2
  have h3' : tmps[3]?.getD undef = v3 := by simpa using h3
  have h4' : tmps[4]?.getD undef = v4 := by simpa using h4
  simp [results, Tryd.results19, h2', h3', h4', asAddr, hl]

set_option maxHeartbeats 1000000 in
theorem from_getbad (a : Option Addr) (c : Nat) (l : List Nat) (n : Nat) (hn : (getL 0 0 l = .long ∧ n = 0) ∨ (getL 0 0 l = .endd ∧ n = 1)) (w : World) (hl : l.length ≤ 9223372036854775807) (hb : ∀ x ∈ l, x < 256) (hc : BAt w a l) (hG : GlobX T er w) :
    Calls Tryd.prog 19 #[.slice a l.length c] w (Makes (fromV T er (.error n)) w) := by
  have hal : Below w.heap.size w (w.alloc (.cells #[.int .i64 0, .int .i64 0, .int .i64 0, .int .i64 0, .int .i64 0, .int .i64 0, .int .i64 0, .int .i64 0] 33)) := (Below.refl _ _).alloc (Nat.le_refl _) _
  have hGa := hG.below' hal
  have hg := get_any a c l _ hl hb (hc.below' hal) T T (.pointer (some (er 0))) (.pointer (some (er 1))) hGa.eLong hGa.eEnd
  have hg' : Calls Tryd.prog 27 #[.slice a l.length c] (w.alloc (.cells #[.int .i64 0, .int .i64 0, .int .i64 0, .int .i64 0, .int .i64 0, .int .i64 0, .int .i64 0, .int .i64 0] 33)) fun e w' => e = .returned (.tuple #[.int .i64 0, .int .i64 0, errE T er n]) ∧ ∃ q, (w.alloc (.cells #[.int .i64 0, .int .i64 0, .int .i64 0, .int .i64 0, .int .i64 0, .int .i64 0, .int .i64 0, .int .i64 0] 33)).drewN q = w' := by
    rcases hn with ⟨h, rfl⟩ | ⟨h, rfl⟩
    · rw [h] at hg; exact hg
    · rw [h] at hg; exact hg
  have Hg := Lib.hid hg'
  have Hal := Lib.hid hal
  clear hal hGa hg hg' hG hn hc hb hl
  go_enter Tryd.func19, Tryd.ntmps19
  go_wp2_with (first | (go_at_call 27; refine Hg.out.mono ?_; rintro e1 w1 ⟨rfl, q, rfl⟩))
  have hz := (evOwn_new w Ev.zero)
  have hz2 : EvOwn ((w.alloc (.cells #[.int .i64 0, .int .i64 0, .int .i64 0, .int .i64 0, .int .i64 0, .int .i64 0, .int .i64 0, .int .i64 0] 33)).drewN q) w.heap.size Ev.zero := ⟨⟨hz.ev.c0, hz.ev.c1, hz.ev.c2, hz.ev.c3, hz.ev.c4, hz.ev.c5, hz.ev.c6, hz.ev.c7⟩, hz.free⟩
  exact bodyPost_ret (res19 _ _ w.heap.size Ev.zero _ _ (evOwn_set hz2 Ev.zero).ev rfl rfl rfl) rfl ⟨rfl, below_setEv (below_drewN Hal.out q) (Nat.le_refl _) Ev.zero⟩

/-- What lies behind the first bytes of a slice. -/
theorem cut_run (a : Option Addr) (c : Nat) (l : List Nat) (s : Nat) (hs : s ≤ l.length) (hcap : l.length ≤ c) : ∃ a', (∀ w, (Instr.slice 31 (.slice a l.length c) (some (.int .i64 (s : Int))) none none).run Tryd.prog w = .ok (.slice a' (l.drop s).length (c - s)) w) ∧ ∀ W, BAt W a l → BAt W a' (l.drop s) := by
  refine ⟨if c = s then a else a.map (·.add (s * 1)), fun w => ?_, fun W h => ?_⟩
  · have hb : (Instr.sliceBounds true l.length c (some (.int .i64 (s : Int))) none none).run Tryd.prog w = .ok (s, l.length, c) w := by
      unfold Instr.sliceBounds
      have := run_sliceBound (P := Tryd.prog) (w := w) .i64 (s : Int) l.length (.sliceB) (by omega) (by omega)
      simp [this]
    have hsz : (sizeOf 5).run Tryd.prog w = .ok 1 w := by kernel_rfl
    unfold Instr.slice
    simp only [Sem.run_bind, run_underlying under31 w, Result.andThen_ok, hb, hsz, Sem.run_pure, List.length_drop]
  · rcases h with rfl | ⟨b, off, rfl, h⟩
    · exact .inl (by simp)
    · by_cases hcs : c = s
      · have : l.drop s = [] := List.drop_eq_nil_iff.2 (by omega)
        exact .inl this
      · rw [if_neg hcs]
        refine .inr ⟨b, off + s, ?_, fun i hi => ?_⟩
        · simp only [Option.map_some, Nat.mul_one]
          unfold Addr.add
          split
          · rename_i h; subst h; rfl
          · rfl
        · have hi' : s + i < l.length := by rw [List.length_drop] at hi; omega
          have := h (s + i) hi'
          rw [← Nat.add_assoc] at this
          rw [this]
          simp

/-- How the bytes lie for From. -/
structure FromIn (w : World) (a : Option Addr) (c : Nat) (l : List Nat) : Prop where
  at_ : BAt w a l
  cap : l.length ≤ c
  len : l.length ≤ 9223372036854775807
  byte : ∀ x ∈ l, x < 256

/-- Get of what lies behind the first bytes, in whatever world that stands below. -/
theorem get_behind {w : World} {a : Option Addr} {c : Nat} {l : List Nat} (h : FromIn w a c l) (hG : GlobX T er w) {s : Nat} (hs : s ≤ l.length) : ∃ (a' : Option Addr) (c' : Nat) (l' : List Nat), l' = l.drop s ∧ (∀ w, (Instr.slice 31 (.slice a l.length c) (some (.int .i64 (s : Int))) none none).run Tryd.prog w = .ok (.slice a' l'.length c') w) ∧
    ∀ W, Below w.heap.size w W → Calls Tryd.prog 27 #[.slice a' l'.length c'] W fun e w' => e = .returned (gval (errE T er 0) (errE T er 1) (getL 0 0 l')) ∧ ∃ q, W.drewN q = w' := by
  obtain ⟨a', h1, h2⟩ := cut_run a c l s hs h.cap
  refine ⟨a', c - s, _, rfl, h1, fun W hb => ?_⟩
  have hGW := hG.below' hb
  exact get_any a' (c - s) (l.drop s) W (by have := h.len; rw [List.length_drop]; omega) (fun x hx => h.byte x (List.mem_of_mem_drop hx)) (h2 W (h.at_.below' hb)) T T _ _ hGW.eLong hGW.eEnd

theorem fold_err (l : List Nat) (n : Nat) : ∀ ps : List (Nat × Nat), ps.foldl (fstep l) (.error n) = .error n
  | [] => rfl
  | _ :: ps => by rw [List.foldl_cons]; exact fold_err l n ps
theorem fold_stop (l : List Nat) (b : Except Nat (Ev × Nat)) (n : Nat) {ps : List (Nat × Nat)} {k : Nat} (h : (ps.take k).foldl (fstep l) b = .error n) : ps.foldl (fstep l) b = .error n := by
  rw [← List.take_append_drop k ps, List.foldl_append, h, fold_err]

/-- What has become of the world when the kind has been read. -/
structure FromW (T : TypeId) (er : Nat → Addr) (w : World) (W : World) : Prop where
  below : Below w.heap.size w W
  own : EvOwn W w.heap.size Ev.zero

set_option maxRecDepth 100000 in
set_option maxHeartbeats 1000000 in
theorem from_nokind (a : Option Addr) (c : Nat) (l : List Nat) (u s : Nat) (hg : getL 0 0 l = .ok u s) (hk : isKind (unfoldN u) = false) (w : World) (hF : FromIn w a c l) (hG : GlobX T er w) :
    Calls Tryd.prog 19 #[.slice a l.length c] w (Makes (fromV T er (.error 3)) w) := by
  have hal : Below w.heap.size w (w.alloc (.cells #[.int .i64 0, .int .i64 0, .int .i64 0, .int .i64 0, .int .i64 0, .int .i64 0, .int .i64 0, .int .i64 0] 33)) := (Below.refl _ _).alloc (Nat.le_refl _) _
  have hGa := hG.below' hal
  have h1 := get_any a c l _ hF.len hF.byte (hF.at_.below' hal) T T (.pointer (some (er 0))) (.pointer (some (er 1))) hGa.eLong hGa.eEnd
  rw [hg] at h1
  have h' : unfoldN u < 1 ∨ 7 < unfoldN u := by unfold isKind at hk; simp at hk; omega
  have Hg : Hid (Calls Tryd.prog 27 #[.slice a l.length c] (w.alloc (.cells #[.int .i64 0, .int .i64 0, .int .i64 0, .int .i64 0, .int .i64 0, .int .i64 0, .int .i64 0, .int .i64 0] 33)) fun e w' => e = .returned (.tuple #[.int .i64 (unfoldN u), .int .i64 (s : Int), .nilIface]) ∧ ∃ q, (w.alloc (.cells #[.int .i64 0, .int .i64 0, .int .i64 0, .int .i64 0, .int .i64 0, .int .i64 0, .int .i64 0, .int .i64 0] 33)).drewN q = w') := h1
  have Hp := Lib.hid (fun w => partsOf_no (unfoldN u) h' w)
  have Hw : Hid (∀ q, FromW T er w ((w.alloc (.cells #[.int .i64 0, .int .i64 0, .int .i64 0, .int .i64 0, .int .i64 0, .int .i64 0, .int .i64 0, .int .i64 0] 33)).drewN q)) := fun q => by
    have hz := (evOwn_new w Ev.zero)
    exact ⟨below_drewN hal q, ⟨⟨hz.ev.c0, hz.ev.c1, hz.ev.c2, hz.ev.c3, hz.ev.c4, hz.ev.c5, hz.ev.c6, hz.ev.c7⟩, hz.free⟩⟩
  have HG := Lib.hid hG
  generalize unfoldN u = kd at *
  clear hal hGa h1 hG hg hk h' hF
  go_enter Tryd.func19, Tryd.ntmps19
  go_wp2_with (first | (go_at_call 27; refine Hg.out.mono ?_; rintro e1 w1 ⟨rfl, q, rfl⟩; have hW := Hw.out q; generalize (w.alloc (.cells #[.int .i64 0, .int .i64 0, .int .i64 0, .int .i64 0, .int .i64 0, .int .i64 0, .int .i64 0, .int .i64 0] 33)).drewN q = W at *; have HW := Lib.hid hW; clear hW Hw) | (go_at_call 28; refine (Hp.out _).mono ?_; rintro e1 w2 ⟨rfl, hb⟩; have hb2 := HW.out.below.trans (hb.mono HW.out.below.size); have hz2 := HW.out.own.below' hb; have Hb2 := Lib.hid hb2; have Hz2 := Lib.hid hz2; have c1 := (HG.out.below' hb2).eCode; clear hb hb2 hz2))
  obtain ⟨d0, d1, d2, d3, d4, d5, d6, d7⟩ := Hz2.out.ev
  have fr := Hz2.out.free
  refine wp_region_held_drew (S := (fun w' => w'.cell? ⟨1, 0, none⟩ = some (errE T er 3))) (by kernel_rfl) c1 (fun hHeld => ?_)
  refine held_take 0 (some 34) ?_ rfl rfl (by kernel_rfl) (by kernel_rfl) (by kernel_rfl) (fun _ _ _ h => h) (by kernel_rfl) ?_ (by assumption) ?_
  rotate_left
  · intro w hSw; (try dsimp only at hSw); go_simp <;> (try with_reducible rfl)
  simp only [Act.put, List.setIfInBounds_toArray, List.set_cons_zero, List.set_cons_succ]
  refine held_take 1 (some 35) ?_ rfl rfl (by kernel_rfl) (by kernel_rfl) (by kernel_rfl) (fun _ _ _ h => h) (by kernel_rfl) ?_ (by assumption) ?_
  rotate_left
  · intro w hSw; (try dsimp only at hSw); go_simp <;> (try with_reducible rfl)
  simp only [Act.put, List.setIfInBounds_toArray, List.set_cons_zero, List.set_cons_succ]
  refine wpAnyH_ready (rs := [2]) (by kernel_rfl) (by simp) (AllReadyH.cons rfl (fun K hK => ?_) AllReadyH.nil)
  go_simp
  refine hK.out _ _ ?_ (fun hHeld => ?_)
  · (try dsimp only); rw [World.cell?_drew]; exact ((setEv_far w2 w.heap.size Ev.zero 1 0 (by have := HG.out.size; omega)).trans c1)
  clear hK K
  try simp only [Act.put, List.setIfInBounds_toArray, List.set_cons_zero, List.set_cons_succ]
  refine held_take 3 (some 3) ?_ rfl rfl (by kernel_rfl) (by kernel_rfl) (by kernel_rfl) (fun _ _ _ h => h) (by kernel_rfl) ?_ (by assumption) ?_
  rotate_left
  · intro w hSw; (try dsimp only at hSw); go_simp <;> (try with_reducible rfl)
  simp only [Act.put, List.setIfInBounds_toArray, List.set_cons_zero, List.set_cons_succ]
  refine held_take 4 (some 4) ?_ rfl rfl (by kernel_rfl) (by kernel_rfl) (by kernel_rfl) (fun _ _ _ h => h) (by kernel_rfl) ?_ (by assumption) ?_
  rotate_left
  · intro w hSw; (try dsimp only at hSw); go_simp <;> (try with_reducible rfl)
  simp only [Act.put, List.setIfInBounds_toArray, List.set_cons_zero, List.set_cons_succ]
  refine wpAnyH_done (by kernel_rfl) ?_ _
  go_wp2
  exact bodyPost_ret (res19 _ _ w.heap.size Ev.zero _ _ (evOwn_set Hz2.out Ev.zero).drew.ev rfl rfl rfl) rfl ⟨rfl, below_drew (below_setEv Hb2.out (Nat.le_refl _) Ev.zero)⟩
end Go.Proofs.YtciajjjigigidaaDoor
