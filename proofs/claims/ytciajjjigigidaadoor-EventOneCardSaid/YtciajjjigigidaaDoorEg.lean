/- From, where the kind is one, by a contract. -/
import Derived.Test.YtciajjjigigidaaDoorEf
namespace Go.Proofs.YtciajjjigigidaaDoor
open Go.RowKit Go.Maps Go.WideMaps Go.WideElems Go.ChangeShapes Go.WideShapes

variable {T : TypeId} {er : Nat → Addr}

theorem errV_bad {n : Nat} (h : n ≠ 0) : errV T er n = errE T er n := by cases n with | zero => exact absurd rfl h | succ n => rfl

theorem EvAt.drewN {w : World} {B : Nat} {e : Ev} (h : EvAt w B e) (q : Nat) : EvAt (w.drewN q) B e := ⟨h.c0, h.c1, h.c2, h.c3, h.c4, h.c5, h.c6, h.c7⟩
theorem EvOwn.drewN {w : World} {B : Nat} {e : Ev} (h : EvOwn w B e) (q : Nat) : EvOwn (w.drewN q) B e := ⟨h.ev.drewN q, h.free⟩
theorem getL_le {l : List Nat} {s u m : Nat} (hb : ∀ x ∈ l, x < 256) (hs : s ≤ l.length) (h : getL 0 0 (l.drop s) = .ok u m) : s + m ≤ l.length := by
  have := (get_ok (fun c hc => hb c (List.mem_of_mem_drop hc)) h).2.2.2.2
  rw [List.length_drop] at this
  omega

/-- What holds at the head of a round. -/
structure FRel (T : TypeId) (er : Nat → Addr) (w wo : World) (E : Nat) (l : List Nat) (ps : List (Nat × Nat)) (b : Except Nat (Ev × Nat)) (k s : Nat) (r : Ev) (wr : World) : Prop where
  below : Below E wo wr
  own : EvOwn wr E r
  fold : (ps.take k).foldl (fstep l) b = .ok (r, s)
  le : s ≤ l.length

set_option maxRecDepth 100000 in
set_option maxHeartbeats 4000000 in
theorem from_kind (a : Option Addr) (c : Nat) (l : List Nat) (u s0 : Nat) (hg : getL 0 0 l = .ok u s0) (hk : isKind (unfoldN u) = true) (w : World) (hF : FromIn w a c l) (hG : GlobX T er w) :
    Calls Tryd.prog 19 #[.slice a l.length c] w (Makes (fromV T er (fromR l)) w) := by
  have hal : Below w.heap.size w (w.alloc (.cells #[.int .i64 0, .int .i64 0, .int .i64 0, .int .i64 0, .int .i64 0, .int .i64 0, .int .i64 0, .int .i64 0] 33)) := (Below.refl _ _).alloc (Nat.le_refl _) _
  have hGa := hG.below' hal
  have h1 := get_any a c l _ hF.len hF.byte (hF.at_.below' hal) T T (.pointer (some (er 0))) (.pointer (some (er 1))) hGa.eLong hGa.eEnd
  rw [hg] at h1
  have Hg : Hid (Calls Tryd.prog 27 #[.slice a l.length c] (w.alloc (.cells #[.int .i64 0, .int .i64 0, .int .i64 0, .int .i64 0, .int .i64 0, .int .i64 0, .int .i64 0, .int .i64 0] 33)) fun e w' => e = .returned (.tuple #[.int .i64 (unfoldN u), .int .i64 (s0 : Int), .nilIface]) ∧ ∃ q, (w.alloc (.cells #[.int .i64 0, .int .i64 0, .int .i64 0, .int .i64 0, .int .i64 0, .int .i64 0, .int .i64 0, .int .i64 0] 33)).drewN q = w') := h1
  have Hp := Lib.hid (fun w => partsOf_any (unfoldN u) hk w)
  have Hw : Hid (∀ q, FromW T er w ((w.alloc (.cells #[.int .i64 0, .int .i64 0, .int .i64 0, .int .i64 0, .int .i64 0, .int .i64 0, .int .i64 0, .int .i64 0] 33)).drewN q)) := fun q => by
    have hz := (evOwn_new w Ev.zero)
    exact ⟨below_drewN hal q, hz.drewN q⟩
  have HG := Lib.hid hG
  have HF := Lib.hid hF
  have hs0 : s0 ≤ l.length := by have := getL_le (s := 0) hF.byte (Nat.zero_le _) hg; omega
  have hlen := hF.len
  obtain ⟨R, hR⟩ : ∃ R, R = fromV T er (fromR l) := ⟨_, rfl⟩
  rw [← hR]
  unfold fromR at hR
  rw [hg] at hR
  simp only [hk, if_true] at hR
  have HR := Lib.hid hR
  have hpl5 : (partsL (unfoldN u)).length ≤ 5 := partsL_len _
  have Hat := Lib.hid (fun i (h : i < (partsL (unfoldN u)).length) => And.intro (pth_lt h) (at_get h))
  generalize unfoldN u = kd at *
  clear hal hGa h1 hG hg hk hF hR
  go_enter Tryd.func19, Tryd.ntmps19
  go_wp2_with (first
    | (go_at_call 27; refine Hg.out.mono ?_; rintro e1 w1 ⟨rfl, q, rfl⟩; have hW := Hw.out q; generalize (w.alloc (.cells #[.int .i64 0, .int .i64 0, .int .i64 0, .int .i64 0, .int .i64 0, .int .i64 0, .int .i64 0, .int .i64 0] 33)).drewN q = W at *; have HW := Lib.hid hW; clear hW Hw Hg)
    | (go_at_call 28; refine (Hp.out _).mono ?_; rintro e1 wo ⟨P, rfl, hP0, hP1, hP2⟩; have hbo := HW.out.below.trans (hP2.mono HW.out.below.size); have hwo : Hid (Below w.heap.size w wo ∧ EvOwn wo w.heap.size Ev.zero ∧ PartsAt wo P (partsL kd)) := ⟨hbo, HW.out.own.below' hP2, hP1⟩; clear hP0 hP1 hP2 hbo HW Hp))
  have hev0 : Hid (EvOwn (wo.alloc (.cells #[.int .i64 kd, .int .i64 0, .int .i64 0, .int .i64 0, .int .i64 0, .int .i64 0, .int .i64 0, .int .i64 0] 33)) wo.heap.size ⟨kd, 0, 0, 0, 0, 0, 0, 0⟩) := evOwn_new wo ⟨kd, 0, 0, 0, 0, 0, 0, 0⟩
  have hbe : Hid (Below wo.heap.size wo (wo.alloc (.cells #[.int .i64 kd, .int .i64 0, .int .i64 0, .int .i64 0, .int .i64 0, .int .i64 0, .int .i64 0, .int .i64 0] 33))) := (Below.refl _ _).alloc (Nat.le_refl _) _
  generalize wo.alloc (.cells #[.int .i64 kd, .int .i64 0, .int .i64 0, .int .i64 0, .int .i64 0, .int .i64 0, .int .i64 0, .int .i64 0] 33) = W0 at *
  obtain ⟨E, hE⟩ : ∃ E, wo.heap.size = E := ⟨_, rfl⟩
  have hzE : w.heap.size < E := by rw [← hE]; exact hwo.out.2.1.ev.lt
  rw [hE] at hev0 hbe ⊢
  have HE := Lib.hid hE
  clear hE
  generalize hps : partsL kd = ps at *
  clear hps
  obtain ⟨b0, hb0⟩ : ∃ b0 : Except Nat (Ev × Nat), Except.ok (⟨kd, 0, 0, 0, 0, 0, 0, 0⟩, s0) = b0 := ⟨_, rfl⟩
  rw [hb0] at HR
  have Hb0 := Lib.hid hb0
  clear hb0
  go_loopw [6, 40] (fun sz i wr => ∃ (k s : Nat) (r : Ev), k ≤ ps.length ∧ i = .int .i64 k ∧ sz = .int .i64 s ∧ Hid (FRel T er w wo E l ps b0 k s r wr)) (fun _ i _ => ps.length - (intOf i).toNat)
  case atStart => exact ⟨0, s0, _, Nat.zero_le _, rfl, rfl, hbe.out, hev0.out, by rw [← Hb0.out]; rfl, hs0⟩
  case round =>
    obtain ⟨k, s, r, hk, rfl, rfl, Hr⟩ := hrel
    by_cases hlt : k < ps.length
    · have hlt7 := (Hat.out k hlt).1
      have hpt := hwo.out.2.2 k hlt
      obtain ⟨f, hf⟩ : ∃ f, (pth ps k).1 = f := ⟨_, rfl⟩
      obtain ⟨g, hg⟩ : ∃ g, (pth ps k).2 = g := ⟨_, rfl⟩
      rw [Nat.mul_comm] at hpt
      change wo.cell? _ = some (.int .i64 ((pth ps k).1 : Nat)) ∧ wo.cell? _ = some (.func (.func (54 + (pth ps k).2)) #[] #[]) at hpt
      rw [hf, hg] at hpt
      rw [hf, hg] at hlt7
      have hxk : ps[k]? = some (f, g) := by rw [(Hat.out k hlt).2, ← hf, ← hg]
      have Hxk := Lib.hid hxk
      have hPl : P < E := by rw [← HE.out]; exact World.block_lt_of_cell? wo _ hpt.1
      have c0 : wr.cell? ⟨P, k * 2, none⟩ = some (.int .i64 (f : Int)) := (Hr.out.below.cell (p := ⟨P, k * 2, none⟩) hPl).trans hpt.1
      have c1 : wr.cell? ⟨P, k * 2 + 1, none⟩ = some (.func (.func (54 + g)) #[] #[]) := (Hr.out.below.cell (p := ⟨P, k * 2 + 1, none⟩) hPl).trans hpt.2
      have hwn := whenIs hlt7.2
      have hElt := Hr.out.own.ev.lt
      have hboxb : Below wr.heap.size wr (wr.alloc (.cells #[.int .i64 f, .func (.func (54 + g)) #[] #[]] 64)) := (Below.refl _ _).alloc (Nat.le_refl _) _
      have HownW := Lib.hid (Hr.out.own.below' hboxb)
      have HbW := Lib.hid (Hr.out.below.trans (hboxb.mono (Nat.le_of_lt hElt)))
      have Hbox := Lib.hid (box_cells wr f (.func (.func (54 + g)) #[] #[]))
      have Heg := Lib.hid hwn.eg
      have Hct := Lib.hid hwn.ct
      have Hlt7 := Lib.hid hlt7
      obtain ⟨d0, d1, d2, d3, d4, d5, d6, d7⟩ := Hr.out.own.ev
      have eg := Heg.out
      clear hf hg hwn hlt7 hxk hboxb hpt hPl
      by_cases hwb : whenB g r = true
      · have hct : ∀ W, Calls Tryd.prog (54 + g) #[r.agg] W (Makes (.bool true) W) := fun W => by rw [← hwb]; exact Hct.out r W
        have HCt := Lib.hid hct
        obtain ⟨a', c', l', hl', hsl, hget⟩ := get_behind HF.out HG.out Hr.out.le
        have Hst : Hid (fstep l (.ok (r, s)) (f, g) = match getL 0 0 l' with | .long => .error 0 | .endd => .error 1 | .ok u m => if fnone f (unfoldN u) then .error 3 else .ok (r.put (fcell f) (unfoldN u), s + m)) := by
          show _ = _
          unfold fstep
          simp only [hwb, if_true, hl']
          rfl
        have Hbw : Hid (∀ W, Below (wr.alloc (.cells #[.int .i64 f, .func (.func (54 + g)) #[] #[]] 64)).heap.size (wr.alloc (.cells #[.int .i64 f, .func (.func (54 + g)) #[] #[]] 64)) W → Below E wo W ∧ Below w.heap.size w W) := fun W h => by
          have h1 := HbW.out.trans (h.mono (Nat.le_of_lt HownW.out.ev.lt))
          exact ⟨h1, hwo.out.1.trans (h1.mono (Nat.le_of_lt hzE))⟩
        have Hget := Lib.hid hget
        have Hl' := Lib.hid hl'
        clear hct hwb hget hl'
        have Hfd : Hid (∀ n, fstep l (.ok (r, s)) (f, g) = .error n → R = fromV T er (.error n)) := fun n h => by
          rw [HR.out, fold_stop l b0 n (k := k + 1)]
          rw [take_step _ _ Hxk.out, Hr.out.fold, h]
        cases hgl : getL 0 0 l' with
        | long =>
          have HRR : Hid (R = fromV T er (.error 0)) := Hfd.out 0 (by rw [Hst.out, hgl])
          have Hget' : Hid (∀ W, Below w.heap.size w W → Calls Tryd.prog 27 #[.slice a' l'.length c'] W fun e w' => e = .returned (.tuple #[.int .i64 0, .int .i64 0, errE T er 0]) ∧ ∃ q, W.drewN q = w') := fun W hb => by have := Hget.out W hb; rw [hgl] at this; exact this
          clear hgl Hget
          go_wp2_with (first
            | (go_at_call 27; refine (Hget'.out _ Hb4.out.2).mono ?_; rintro e3 w5' ⟨rfl, q, rfl⟩; have Hb5 := Lib.hid (And.intro (below_drewN Hb4.out.1 q) (below_drewN Hb4.out.2 q)); generalize w4.drewN q = w5 at *; have Hz5 : Hid (EvOwn w5 w.heap.size Ev.zero) := hwo.out.2.1.below Hb5.out.1 hzE; obtain ⟨z0, z1, z2, z3, z4, z5, z6, z7⟩ := Hz5.out.ev; have fr := Hz5.out.free)
            | (refine (HCt.out _).mono ?_; rintro e2 w4 ⟨rfl, hb4⟩; have Hb4 := Lib.hid (Hbw.out w4 hb4); clear HCt hb4 d0 d1 d2 d3 d4 d5 d6 d7))
          exact bodyPost_ret (res19 _ _ w.heap.size Ev.zero _ _ (evOwn_set Hz5.out Ev.zero).ev rfl rfl rfl) rfl ⟨congrArg _ HRR.out.symm, below_setEv Hb5.out.2 (Nat.le_refl _) Ev.zero⟩
        | endd =>
          have HRR : Hid (R = fromV T er (.error 1)) := Hfd.out 1 (by rw [Hst.out, hgl])
          have Hget' : Hid (∀ W, Below w.heap.size w W → Calls Tryd.prog 27 #[.slice a' l'.length c'] W fun e w' => e = .returned (.tuple #[.int .i64 0, .int .i64 0, errE T er 1]) ∧ ∃ q, W.drewN q = w') := fun W hb => by have := Hget.out W hb; rw [hgl] at this; exact this
          clear hgl Hget
          go_wp2_with (first
            | (go_at_call 27; refine (Hget'.out _ Hb4.out.2).mono ?_; rintro e3 w5' ⟨rfl, q, rfl⟩; have Hb5 := Lib.hid (And.intro (below_drewN Hb4.out.1 q) (below_drewN Hb4.out.2 q)); generalize w4.drewN q = w5 at *; have Hz5 : Hid (EvOwn w5 w.heap.size Ev.zero) := hwo.out.2.1.below Hb5.out.1 hzE; obtain ⟨z0, z1, z2, z3, z4, z5, z6, z7⟩ := Hz5.out.ev; have fr := Hz5.out.free)
            | (refine (HCt.out _).mono ?_; rintro e2 w4 ⟨rfl, hb4⟩; have Hb4 := Lib.hid (Hbw.out w4 hb4); clear HCt hb4 d0 d1 d2 d3 d4 d5 d6 d7))
          exact bodyPost_ret (res19 _ _ w.heap.size Ev.zero _ _ (evOwn_set Hz5.out Ev.zero).ev rfl rfl rfl) rfl ⟨congrArg _ HRR.out.symm, below_setEv Hb5.out.2 (Nat.le_refl _) Ev.zero⟩
        | ok u2 m =>
          have Hget' : Hid (∀ W, Below w.heap.size w W → Calls Tryd.prog 27 #[.slice a' l'.length c'] W fun e w' => e = .returned (.tuple #[.int .i64 (unfoldN u2), .int .i64 (m : Int), .nilIface]) ∧ ∃ q, W.drewN q = w') := fun W hb => by have := Hget.out W hb; rw [hgl] at this; exact this
          have hsm : s + m ≤ l.length := getL_le HF.out.byte Hr.out.le (by rw [← Hl'.out]; exact hgl)
          have hst2 := Hst.out
          rw [hgl] at hst2
          have hst3 : fstep l (.ok (r, s)) (f, g) = if fnone f (unfoldN u2) then .error 3 else .ok (r.put (fcell f) (unfoldN u2), s + m) := hst2
          have Hst3 := Lib.hid hst3
          have Hno := Lib.hid (fun (W1 : World) (hW1 : WordsAt W1) => none_any f Hlt7.out.1 (unfoldN u2) W1 hW1)
          clear hgl Hget Hst hst2 hst3
          generalize unfoldN u2 = n at *
          by_cases hnn : fnone f n = true
          · have HRR : Hid (R = fromV T er (.error 3)) := Hfd.out 3 (by rw [Hst3.out, hnn]; rfl)
            have Hno' : Hid (∀ W1, WordsAt W1 → Calls Tryd.prog 29 #[.int .i64 f, .int .i64 n] W1 fun e w' => e = .returned (.bool true) ∧ W1 = w') := fun W1 h => by rw [← hnn]; exact Hno.out W1 h
            clear hnn Hno Hst3
            go_wp2_with (first
              | (go_at_call 27; refine (Hget'.out _ Hb4.out.2).mono ?_; rintro e3 w5' ⟨rfl, q, rfl⟩; have q0 : (w4.drewN q).cell? ⟨wr.heap.size, 0, none⟩ = some (.int .i64 (f : Int)) := Hb4q.out; have Hb5 := Lib.hid (And.intro (below_drewN Hb4.out.1 q) (below_drewN Hb4.out.2 q)); generalize w4.drewN q = w5 at *)
              | (go_at_call 29; refine (Hno'.out _ (HG.out.below' Hb5.out.2).words).mono ?_; rintro e3 w6 ⟨rfl, rfl⟩)
              | (refine (HCt.out _).mono ?_; rintro e2 w4 ⟨rfl, hb4⟩; have Hb4q := Lib.hid (box_below Hbox.out hb4).1; have Hb4 := Lib.hid (Hbw.out w4 hb4); clear HCt hb4 d0 d1 d2 d3 d4 d5 d6 d7))
            have c1 := (HG.out.below' Hb5.out.2).eCode
            have Hz5 : Hid (EvOwn w5 w.heap.size Ev.zero) := hwo.out.2.1.below Hb5.out.1 hzE
            obtain ⟨d0, d1, d2, d3, d4, d5, d6, d7⟩ := Hz5.out.ev
            have fr := Hz5.out.free
            refine wp_region_held_drew (S := (fun w' => w'.cell? ⟨1, 0, none⟩ = some (errE T er 3))) (by kernel_rfl) c1 (fun hHeld => ?_)
            refine held_take 0 (some 65) ?_ rfl rfl (by kernel_rfl) (by kernel_rfl) (by kernel_rfl) (fun _ _ _ h => h) (by kernel_rfl) ?_ (by assumption) ?_
            rotate_left
            · intro w hSw; (try dsimp only at hSw); go_simp <;> (try with_reducible rfl)
            simp only [Act.put, List.setIfInBounds_toArray, List.set_cons_zero, List.set_cons_succ]
            refine held_take 1 (some 66) ?_ rfl rfl (by kernel_rfl) (by kernel_rfl) (by kernel_rfl) (fun _ _ _ h => h) (by kernel_rfl) ?_ (by assumption) ?_
            rotate_left
            · intro w hSw; (try dsimp only at hSw); go_simp <;> (try with_reducible rfl)
            simp only [Act.put, List.setIfInBounds_toArray, List.set_cons_zero, List.set_cons_succ]
            refine wpAnyH_ready (rs := [2]) (by kernel_rfl) (by simp) (AllReadyH.cons rfl (fun K hK => ?_) AllReadyH.nil)
            go_simp
            refine hK.out _ _ ?_ (fun hHeld => ?_)
            · (try dsimp only); rw [World.cell?_drew]; exact ((setEv_far w5 w.heap.size Ev.zero 1 0 (by have := HG.out.size; omega)).trans c1)
            clear hK K
            try simp only [Act.put, List.setIfInBounds_toArray, List.set_cons_zero, List.set_cons_succ]
            refine held_take 3 (some 3) ?_ rfl rfl (by kernel_rfl) (by kernel_rfl) (by kernel_rfl) (fun _ _ _ h => h) (by kernel_rfl) ?_ (by assumption) ?_
            rotate_left
            · intro w hSw; (try dsimp only at hSw); go_simp <;> (try with_reducible rfl)
            simp only [Act.put, List.setIfInBounds_toArray, List.set_cons_zero, List.set_cons_succ]
            refine held_take 4 (some 4) ?_ rfl rfl (by kernel_rfl) (by kernel_rfl) (by kernel_rfl) (fun _ _ _ h => h) (by kernel_rfl) ?_ (by assumption) ?_
            rotate_left
            · intro w hSw; (try dsimp only at hSw); go_simp <;> (try with_reducible rfl)
            simp only [Act.put, List.setIfInBounds_toArray, List.set_cons_zero, List.set_cons_succ]
            refine wpAnyH_done (by kernel_rfl) ?_ _
            go_wp2
            exact bodyPost_ret (res19 _ _ w.heap.size Ev.zero _ _ (evOwn_set Hz5.out Ev.zero).drew.ev rfl rfl rfl) rfl ⟨congrArg _ HRR.out.symm, below_drew (below_setEv Hb5.out.2 (Nat.le_refl _) Ev.zero)⟩
          · have hnn' : fnone f n = false := by simpa using hnn
            have Hno' : Hid (∀ W1, WordsAt W1 → Calls Tryd.prog 29 #[.int .i64 f, .int .i64 n] W1 fun e w' => e = .returned (.bool false) ∧ W1 = w') := fun W1 h => by rw [← hnn']; exact Hno.out W1 h
            have Hst4 : Hid (fstep l (.ok (r, s)) (f, g) = .ok (r.put (fcell f) n, s + m)) := by show _ = _; rw [Hst3.out, hnn']; rfl
            have Hin := Lib.hid (fun W => in_any f Hlt7.out.1 E W)
            have Hset := Lib.hid (fun (W : World) (h : EvOwn W E r) => And.intro (h.set (fcell_lt f) n) (And.intro (h.ev.at (fcell f) (fcell_lt f)) (h.free (fcell f))))
            generalize fcell f = cf at *
            clear hnn hnn' Hno Hst3 Hfd
            go_wp2_with (first
              | (go_at_call 27; refine (Hget'.out _ Hb4.out.2).mono ?_; rintro e3 w5' ⟨rfl, q, rfl⟩; have q0 : (w4.drewN q).cell? ⟨wr.heap.size, 0, none⟩ = some (.int .i64 (f : Int)) := Hb4q.out; have Hb5 := Lib.hid (And.intro (below_drewN Hb4.out.1 q) (below_drewN Hb4.out.2 q)); have ho5 := Ho4.out.drewN q; generalize w4.drewN q = w5 at *; have Hs5 := Lib.hid (Hset.out w5 ho5); obtain ⟨dc, fc⟩ := Hs5.out.2; clear ho5)
              | (go_at_call 29; refine (Hno'.out _ (HG.out.below' Hb5.out.2).words).mono ?_; rintro e3 w6 ⟨rfl, rfl⟩)
              | (go_at_call 30; refine (Hin.out _).mono ?_; rintro e3 w6 ⟨rfl, rfl⟩)
              | (refine (HCt.out _).mono ?_; rintro e2 w4 ⟨rfl, hb4⟩; have Hb4q := Lib.hid (box_below Hbox.out hb4).1; have Hb4 := Lib.hid (Hbw.out w4 hb4); have Ho4 := Lib.hid (HownW.out.below' hb4); clear HCt hb4 d0 d1 d2 d3 d4 d5 d6 d7))
            have hnew : FRel T er w wo E l ps b0 (k + 1) (s + m) (r.put cf n) (w5.setCell ⟨E, cf, none⟩ (.int .i64 n)) :=
              ⟨Hb5.out.1.setCell (Nat.le_refl _) _, Hs5.out.1, by rw [take_step _ _ Hxk.out, Hr.out.fold, Hst4.out], hsm⟩
            have Hnew := Lib.hid hnew
            clear hnew
            go_roundw
            case rel => exact ⟨k + 1, s + m, _, by omega, by go_num, by go_num, Hnew.out⟩
            case measure => simp [intOf]; omega
      · have hwb' : whenB g r = false := by simpa using hwb
        have hct : ∀ W, Calls Tryd.prog (54 + g) #[r.agg] W (Makes (.bool false) W) := fun W => by rw [← hwb']; exact Hct.out r W
        have HCt := Lib.hid hct
        have Hst : Hid (fstep l (.ok (r, s)) (f, g) = .ok (r, s)) := by show _ = _; unfold fstep; simp only [hwb', Bool.false_eq_true, if_false]
        clear hct hwb hwb'
        go_wp2_with (first | (refine (HCt.out _).mono ?_; rintro e2 w4 ⟨rfl, hb4⟩; clear HCt))
        have hnew : FRel T er w wo E l ps b0 (k + 1) s r w4 :=
          ⟨HbW.out.trans (hb4.mono (Nat.le_of_lt HownW.out.ev.lt)), HownW.out.below' hb4, by rw [take_step _ _ Hxk.out, Hr.out.fold, Hst.out], Hr.out.le⟩
        have Hnew := Lib.hid hnew
        clear hnew hb4
        go_roundw
        case rel => exact ⟨k + 1, s, r, by omega, by go_num, rfl, Hnew.out⟩
        case measure => simp [intOf]; omega
    · have hkl : k = ps.length := by omega
      subst hkl
      have hfold := Hr.out.fold
      rw [List.take_length] at hfold
      have hRR := HR.out
      rw [hfold] at hRR
      have hRR2 : R = fromV T er (if validN r = 0 then .ok (r, s) else .error (validN r)) := hRR
      have HRR := Lib.hid hRR2
      have hbw := hwo.out.1.trans (Hr.out.below.mono (Nat.le_of_lt hzE))
      have hva := valid_any r wr (HG.out.below' hbw).toGlob
      have Hbw := Lib.hid hbw
      obtain ⟨d0, d1, d2, d3, d4, d5, d6, d7⟩ := Hr.out.own.ev
      by_cases hv : validN r = 0
      · rw [hv] at hva
        have Hva : Hid (Calls Tryd.prog 31 #[r.agg] wr (Makes .nilIface wr)) := hva
        have HR3 : Hid (R = fromV T er (.ok (r, s))) := by show _ = _; rw [HRR.out, if_pos hv]
        clear hfold hRR hRR2 hbw hva hv
        go_wp2_with (first | (go_at_call 31; refine Hva.out.mono ?_; rintro e2 w4 ⟨rfl, hb4⟩; have Ho4 := Lib.hid (Hr.out.own.below' hb4); have Hb4 := Lib.hid (Hbw.out.trans (hb4.mono Hbw.out.size)); have Hz4 : Hid (EvOwn w4 w.heap.size Ev.zero) := hwo.out.2.1.below (Hr.out.below.trans (hb4.mono (Nat.le_of_lt Hr.out.own.ev.lt))) hzE; clear hb4 d0 d1 d2 d3 d4 d5 d6 d7; obtain ⟨d0, d1, d2, d3, d4, d5, d6, d7⟩ := Ho4.out.ev; obtain ⟨z0, z1, z2, z3, z4, z5, z6, z7⟩ := Hz4.out.ev; have fr := Hz4.out.free))
        exact bodyPost_ret (res19 _ _ w.heap.size r _ _ (evOwn_set Hz4.out r).ev rfl rfl rfl) rfl ⟨congrArg _ HR3.out.symm, below_setEv Hb4.out (Nat.le_refl _) r⟩
      · rw [errV_bad hv] at hva
        have Hva : Hid (Calls Tryd.prog 31 #[r.agg] wr (Makes (errE T er (validN r)) wr)) := hva
        have HR3 : Hid (R = fromV T er (.error (validN r))) := by show _ = _; rw [HRR.out, if_neg hv]
        generalize validN r = nv at *
        clear hfold hRR hRR2 hbw hva hv
        go_wp2_with (first | (go_at_call 31; refine Hva.out.mono ?_; rintro e2 w4 ⟨rfl, hb4⟩; have Hb4 := Lib.hid (Hbw.out.trans (hb4.mono Hbw.out.size)); have Hz4 : Hid (EvOwn w4 w.heap.size Ev.zero) := hwo.out.2.1.below (Hr.out.below.trans (hb4.mono (Nat.le_of_lt Hr.out.own.ev.lt))) hzE; clear hb4 d0 d1 d2 d3 d4 d5 d6 d7; obtain ⟨z0, z1, z2, z3, z4, z5, z6, z7⟩ := Hz4.out.ev; have fr := Hz4.out.free))
        exact bodyPost_ret (res19 _ _ w.heap.size Ev.zero _ _ (evOwn_set Hz4.out Ev.zero).ev rfl rfl rfl) rfl ⟨congrArg _ HR3.out.symm, below_setEv Hb4.out (Nat.le_refl _) Ev.zero⟩

theorem from_any (a : Option Addr) (c : Nat) (l : List Nat) (w : World) (hF : FromIn w a c l) (hG : GlobX T er w) :
    Calls Tryd.prog 19 #[.slice a l.length c] w (Makes (fromV T er (fromR l)) w) := by
  cases hg : getL 0 0 l with
  | long =>
    have := from_getbad a c l 0 (.inl ⟨hg, rfl⟩) w hF.len hF.byte hF.at_ hG
    unfold fromR; rw [hg]; exact this
  | endd =>
    have := from_getbad a c l 1 (.inr ⟨hg, rfl⟩) w hF.len hF.byte hF.at_ hG
    unfold fromR; rw [hg]; exact this
  | ok u s =>
    cases hk : isKind (unfoldN u) with
    | true => exact from_kind a c l u s hg hk w hF hG
    | false =>
      have := from_nokind a c l u s hg hk w hF hG
      unfold fromR; rw [hg]; simp only [hk, Bool.false_eq_true, if_false]; exact this
end Go.Proofs.YtciajjjigigidaaDoor
