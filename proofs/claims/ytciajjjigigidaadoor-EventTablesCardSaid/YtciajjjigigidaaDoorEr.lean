/- Read and ObjectLine at the chapter's examples, by contracts. -/
import Derived.Test.YtciajjjigigidaaDoorEg
import Derived.Test.YtciajjjigigidaaDoorEl
import Derived.Test.YtciajjjigigidaaDoorEc
namespace Go.Proofs.YtciajjjigigidaaDoor
open Go.RowKit Go.Maps Go.WideMaps Go.WideElems Go.ChangeShapes Go.WideShapes

variable {T : TypeId} {er : Nat → Addr}

theorem dec_one {u : Nat} (h : u < 10) : Lib.decDigits u = [UInt8.ofNat (48 + u)] := by rw [Lib.decDigits, dif_pos h]
theorem itoa_d (n : Nat) (h : n < 10) : Lib.itoa (n : Int) = [UInt8.ofNat (48 + n)] := by unfold Lib.itoa; rw [if_neg (by omega), Int.toNat_natCast, dec_one h]
theorem itoa_m5 : Lib.itoa (-5) = [45, 53] := by unfold Lib.itoa; rw [if_pos (by decide), show (-5 : Int).natAbs = 5 by rfl, dec_one (by decide)]; rfl
theorem itoa_3 : Lib.itoa 3 = [51] := itoa_d 3 (by decide)
theorem num_3 : numR [51] = some 3 := by
  have h : Lib.atoiAll [51] = .ok 3 := by rw [← itoa_3]; exact atoi_itoa _ (by decide) (by decide)
  unfold numR; rw [h]; simp only; rw [if_pos ⟨itoa_3, by decide, by decide⟩]

theorem read_three (w : World) (hG : Glob T er w) : Calls Tryd.prog 52 #[.int .i64 0, tv [51]] w (Makes (.tuple #[.int .i64 3, .nilIface]) w) := by
  have hn := number_any [51] (by decide) w hG
  rw [num_3] at hn
  have Hn : Hid (Calls Tryd.prog 62 #[tv [51]] w fun e w' => e = .returned (.tuple #[.int .i64 3, .nilIface]) ∧ Hid (Below w.heap.size w w')) := hn
  have Ht : Hid (Calls Tryd.prog 45 #[.int .i64 0] w fun e w' => e = .returned (.int .i64 0) ∧ w = w') := table_any 0 (by decide) w
  clear hn hG
  go_enter Tryd.func52, Tryd.ntmps52
  go_wp2_with (first | (go_at_call 45; refine Ht.out.mono ?_; rintro e w' ⟨rfl, rfl⟩) | (go_at_call 62; refine Hn.out.mono ?_; rintro e w' ⟨rfl, hb⟩))
  go_ret2
  exact ⟨rfl, hb.out⟩

theorem add_flat' (b o n : Nat) : (⟨b, o, none⟩ : Addr).add n = ⟨b, o + n, none⟩ := by
  unfold Addr.add
  split
  · rename_i h; subst h; rfl
  · rfl

/-- The event of the example. -/
abbrev try3 : Ev := ⟨4, 3, 0, 0, 0, 0, 0, 0⟩

theorem res36 (tmps : Array Value) (W : World) (Z : Nat) (e : Ev) (v5 : Value) (h : EvAt W Z e) (h2 : tmps.getD 4 undef = .pointer (some ⟨Z, 0, none⟩)) (h3 : tmps.getD 5 undef = v5) : (results Tryd.f36 tmps).run Tryd.prog W = .ok (.tuple #[e.agg, v5]) W := by
  have hl := load_ev h
  clear h
  have h2' : tmps[4]?.getD undef = .pointer (some ⟨Z, 0, none⟩) := by simpa using h2
  have h3' : tmps[5]?.getD undef = v5 := by simpa using h3
  simp [results, Tryd.results36, h2', h3', asAddr, hl]
theorem res24 (tmps : Array Value) (W : World) (Z : Nat) (e : Ev) (v5 : Value) (h : EvAt W Z e) (h2 : tmps.getD 2 undef = .pointer (some ⟨Z, 0, none⟩)) (h3 : tmps.getD 3 undef = v5) : (results Tryd.f24 tmps).run Tryd.prog W = .ok (.tuple #[e.agg, v5]) W := by
  have hl := load_ev h
  clear h
  have h2' : tmps[2]?.getD undef = .pointer (some ⟨Z, 0, none⟩) := by simpa using h2
  have h3' : tmps[3]?.getD undef = v5 := by simpa using h3
  simp [results, Tryd.results24, h2', h3', asAddr, hl]

set_option maxRecDepth 100000 in
set_option maxHeartbeats 4000000 in
theorem readFields_try (A o : Nat) (w : World) (hA : w.cell? ⟨A, o, none⟩ = some (tv [51])) (hG : Glob T er w) :
    Calls Tryd.prog 36 #[.int .i64 4, .slice (some ⟨A, o, none⟩) 1 1] w (Makes (.tuple #[try3.agg, .nilIface]) w) := by
  have Hp := Lib.hid (fun w => partsOf_any 4 (by decide) w)
  have hal : Below w.heap.size w (w.alloc (.cells #[.int .i64 0, .int .i64 0, .int .i64 0, .int .i64 0, .int .i64 0, .int .i64 0, .int .i64 0, .int .i64 0] 33)) := (Below.refl _ _).alloc (Nat.le_refl _) _
  have hz := evOwn_new w Ev.zero
  have hE := evOwn_new (w.alloc (.cells #[.int .i64 0, .int .i64 0, .int .i64 0, .int .i64 0, .int .i64 0, .int .i64 0, .int .i64 0, .int .i64 0] 33)) ⟨4, 0, 0, 0, 0, 0, 0, 0⟩
  have hal2 : Below (w.alloc (.cells #[.int .i64 0, .int .i64 0, .int .i64 0, .int .i64 0, .int .i64 0, .int .i64 0, .int .i64 0, .int .i64 0] 33)).heap.size (w.alloc (.cells #[.int .i64 0, .int .i64 0, .int .i64 0, .int .i64 0, .int .i64 0, .int .i64 0, .int .i64 0, .int .i64 0] 33)) ((w.alloc (.cells #[.int .i64 0, .int .i64 0, .int .i64 0, .int .i64 0, .int .i64 0, .int .i64 0, .int .i64 0, .int .i64 0] 33)).alloc (.cells #[.int .i64 4, .int .i64 0, .int .i64 0, .int .i64 0, .int .i64 0, .int .i64 0, .int .i64 0, .int .i64 0] 33)) := (Below.refl _ _).alloc (Nat.le_refl _) _
  have hsz : (w.alloc (.cells #[.int .i64 0, .int .i64 0, .int .i64 0, .int .i64 0, .int .i64 0, .int .i64 0, .int .i64 0, .int .i64 0] 33)).heap.size = w.heap.size + 1 := Array.size_push ..
  have H0 : Hid (EvOwn ((w.alloc (.cells #[.int .i64 0, .int .i64 0, .int .i64 0, .int .i64 0, .int .i64 0, .int .i64 0, .int .i64 0, .int .i64 0] 33)).alloc (.cells #[.int .i64 4, .int .i64 0, .int .i64 0, .int .i64 0, .int .i64 0, .int .i64 0, .int .i64 0, .int .i64 0] 33)) w.heap.size Ev.zero ∧ EvOwn ((w.alloc (.cells #[.int .i64 0, .int .i64 0, .int .i64 0, .int .i64 0, .int .i64 0, .int .i64 0, .int .i64 0, .int .i64 0] 33)).alloc (.cells #[.int .i64 4, .int .i64 0, .int .i64 0, .int .i64 0, .int .i64 0, .int .i64 0, .int .i64 0, .int .i64 0] 33)) (w.heap.size + 1) ⟨4, 0, 0, 0, 0, 0, 0, 0⟩ ∧ Below w.heap.size w ((w.alloc (.cells #[.int .i64 0, .int .i64 0, .int .i64 0, .int .i64 0, .int .i64 0, .int .i64 0, .int .i64 0, .int .i64 0] 33)).alloc (.cells #[.int .i64 4, .int .i64 0, .int .i64 0, .int .i64 0, .int .i64 0, .int .i64 0, .int .i64 0, .int .i64 0] 33))) := by
    rw [hsz] at hE
    exact ⟨hz.below' hal2, hE, hal.trans (hal2.mono hal.size)⟩
  have HG := Lib.hid hG
  have HA := Lib.hid hA
  clear hal hz hE hal2 hsz hG hA
  go_enter Tryd.func36, Tryd.ntmps36
  go_wp2_with (first | (go_at_call 28; refine (Hp.out _).mono ?_; rintro e1 w2 ⟨P, rfl, hP0, hP1, hP2⟩; have h2 : Hid (EvOwn w2 w.heap.size Ev.zero ∧ EvOwn w2 (w.heap.size + 1) ⟨4, 0, 0, 0, 0, 0, 0, 0⟩ ∧ Below w.heap.size w w2) := ⟨H0.out.1.below' hP2, H0.out.2.1.below' hP2, H0.out.2.2.trans (hP2.mono H0.out.2.2.size)⟩; have hp := hP1 0 (by decide); clear H0 hP0 hP1 hP2 Hp))
  change w2.cell? ⟨P, 0, none⟩ = some (.int .i64 0) ∧ w2.cell? ⟨P, 1, none⟩ = some (.func (.func 54) #[] #[]) at hp
  rw [show (partsL 4).length = 1 by rfl]
  obtain ⟨p0, p1⟩ := hp
  have hEl := h2.out.2.1.ev.lt
  have hboxb : Hid (Below w2.heap.size w2 (w2.alloc (.cells #[.int .i64 ((0 : Nat) : Int), .func (.func (54 + 0)) #[] #[]] 64))) := (Below.refl _ _).alloc (Nat.le_refl _) _
  have Hbox := Lib.hid (box_cells w2 0 (.func (.func (54 + 0)) #[] #[]))
  refine wp_loop_rounds 2 ?_
  rw [rounds_succ]
  obtain ⟨d0, d1, d2, d3, d4, d5, d6, d7⟩ := h2.out.2.1.ev
  have Hal := Lib.hid (always_any ⟨4, 0, 0, 0, 0, 0, 0, 0⟩)
  go_wp2_with (first | (go_at_call 54; refine (Hal.out _).mono ?_; rintro e2 w4 ⟨rfl, hb4⟩; have h4 : Hid (EvOwn w4 w.heap.size Ev.zero ∧ EvOwn w4 (w.heap.size + 1) ⟨4, 0, 0, 0, 0, 0, 0, 0⟩ ∧ Below w.heap.size w w4) := ⟨(h2.out.1.below' hboxb.out).below' hb4, (h2.out.2.1.below' hboxb.out).below' hb4, h2.out.2.2.trans ((hboxb.out.trans (hb4.mono hboxb.out.size)).mono h2.out.2.2.size)⟩; have q0 : w4.cell? ⟨w2.heap.size, 0, none⟩ = some (.int .i64 0) := (box_below Hbox.out hb4).1; have a4 : w4.cell? ⟨A, o, none⟩ = some (tv [51]) := (h4.out.2.2.cell (p := ⟨A, o, none⟩) (World.block_lt_of_cell? w _ HA.out)).trans HA.out; have HG4 := Lib.hid (HG.out.below' h4.out.2.2); clear hb4 d0 d1 d2 d3 d4 d5 d6 d7 p0 p1))
  refine wp_region_held_drew (S := (fun w' => w'.cell? ⟨w2.heap.size, 0, none⟩ = some (.int .i64 0) ∧ w'.cell? ⟨A, o, none⟩ = some (tv [51]))) (by kernel_rfl) (And.intro q0 a4) (fun hHeld => ?_)
  refine held_take 0 (some 37) ?_ rfl rfl (by kernel_rfl) (by kernel_rfl) (by kernel_rfl) (fun _ _ _ h => h) (by kernel_rfl) ?_ (by assumption) ?_
  rotate_left
  · intro w hSw; (try dsimp only at hSw); go_simp <;> (try with_reducible rfl)
  simp only [Act.put, List.setIfInBounds_toArray, List.set_cons_zero, List.set_cons_succ]
  refine held_take 1 (some 38) ?_ rfl rfl (by kernel_rfl) (by kernel_rfl) (by kernel_rfl) (fun _ _ _ h => h) (by kernel_rfl) ?_ (by assumption) ?_
  rotate_left
  · intro w hSw; (try dsimp only at hSw); go_simp <;> (try with_reducible rfl)
  simp only [Act.put, List.setIfInBounds_toArray, List.set_cons_zero, List.set_cons_succ]
  refine held_take 2 (some 39) ?_ rfl rfl (by kernel_rfl) (by kernel_rfl) (by kernel_rfl) (fun _ _ _ h => h) (by kernel_rfl) ?_ (by assumption) ?_
  rotate_left
  · intro w hSw; (try dsimp only at hSw); go_simp <;> (try with_reducible rfl)
  simp only [Act.put, List.setIfInBounds_toArray, List.set_cons_zero, List.set_cons_succ]
  refine held_take 3 (some 40) ?_ rfl rfl (by kernel_rfl) (by kernel_rfl) (by kernel_rfl) (fun _ _ _ h => h) (by kernel_rfl) ?_ (by assumption) ?_
  rotate_left
  · intro w hSw; (try dsimp only at hSw); go_simp <;> (try with_reducible rfl)
  simp only [Act.put, List.setIfInBounds_toArray, List.set_cons_zero, List.set_cons_succ]
  refine held_take 4 (some 41) ?_ rfl rfl (by kernel_rfl) (by kernel_rfl) (by kernel_rfl) (fun _ _ _ h => h) (by kernel_rfl) ?_ (by assumption) ?_
  rotate_left
  · intro w hSw; (try dsimp only at hSw); go_simp <;> (try with_reducible rfl)
  simp only [Act.put, List.setIfInBounds_toArray, List.set_cons_zero, List.set_cons_succ]
  refine wpAnyH_ready (rs := [5]) (by kernel_rfl) (by simp) (AllReadyH.cons rfl (fun K hK => ?_) AllReadyH.nil)
  go_simp
  (go_at_call 52; refine (read_three _ HG4.out.drew).mono ?_; rintro e3 w5 ⟨rfl, hb5⟩)
  go_wp2_with fail
  refine hK.out _ _ (And.intro ((hb5.cell (p := ⟨w2.heap.size, 0, none⟩) (World.block_lt_of_cell? w4 _ q0)).trans q0) ((hb5.cell (p := ⟨A, o, none⟩) (World.block_lt_of_cell? w4 _ a4)).trans a4)) (fun hHeld => ?_)
  clear hK K
  try simp only [Act.put, List.setIfInBounds_toArray, List.set_cons_zero, List.set_cons_succ]
  refine held_take 6 (some 36) ?_ rfl rfl (by kernel_rfl) (by kernel_rfl) (by kernel_rfl) (fun _ _ _ h => h) (by kernel_rfl) ?_ (by assumption) ?_
  rotate_left
  · intro w hSw; (try dsimp only at hSw); go_simp <;> (try with_reducible rfl)
  simp only [Act.put, List.setIfInBounds_toArray, List.set_cons_zero, List.set_cons_succ]
  refine held_take 7 (some 43) ?_ rfl rfl (by kernel_rfl) (by kernel_rfl) (by kernel_rfl) (fun _ _ _ h => h) (by kernel_rfl) ?_ (by assumption) ?_
  rotate_left
  · intro w hSw; (try dsimp only at hSw); go_simp <;> (try with_reducible rfl)
  simp only [Act.put, List.setIfInBounds_toArray, List.set_cons_zero, List.set_cons_succ]
  refine held_take 8 (some 44) ?_ rfl rfl (by kernel_rfl) (by kernel_rfl) (by kernel_rfl) (fun _ _ _ h => h) (by kernel_rfl) ?_ (by assumption) ?_
  rotate_left
  · intro w hSw; (try dsimp only at hSw); go_simp <;> (try with_reducible rfl)
  simp only [Act.put, List.setIfInBounds_toArray, List.set_cons_zero, List.set_cons_succ]
  refine held_take 9 (some 11) ?_ rfl rfl (by kernel_rfl) (by kernel_rfl) (by kernel_rfl) (fun _ _ _ h => h) (by kernel_rfl) ?_ (by assumption) ?_
  rotate_left
  · intro w hSw; (try dsimp only at hSw); go_simp <;> (try with_reducible rfl)
  simp only [Act.put, List.setIfInBounds_toArray, List.set_cons_zero, List.set_cons_succ]
  refine held_take 10 (some 12) ?_ rfl rfl (by kernel_rfl) (by kernel_rfl) (by kernel_rfl) (fun _ _ _ h => h) (by kernel_rfl) ?_ (by assumption) ?_
  rotate_left
  · intro w hSw; (try dsimp only at hSw); go_simp <;> (try with_reducible rfl)
  simp only [Act.put, List.setIfInBounds_toArray, List.set_cons_zero, List.set_cons_succ]
  refine wpAnyH_done (by kernel_rfl) ?_ _
  have h5 : Hid (EvOwn w5 w.heap.size Ev.zero ∧ EvOwn w5 (w.heap.size + 1) ⟨4, 0, 0, 0, 0, 0, 0, 0⟩ ∧ Below w.heap.size w w5) := ⟨h4.out.1.drew.below' hb5, h4.out.2.1.drew.below' hb5, (below_drew h4.out.2.2).trans (hb5.mono h4.out.2.2.size)⟩
  have q5 : w5.cell? ⟨w2.heap.size, 0, none⟩ = some (.int .i64 0) := hHeld.1
  have Hin : Hid (∀ W, Calls Tryd.prog 30 #[.int .i64 0, .pointer (some ⟨w.heap.size + 1, 0, none⟩)] W fun e w' => e = .returned (.pointer (some ⟨w.heap.size + 1, 1, none⟩)) ∧ W = w') := fun W => in_any 0 (by decide) (w.heap.size + 1) W
  have e1 := h5.out.2.1.ev.c1
  have f1 := h5.out.2.1.free 1
  have h6 : Hid (EvOwn (w5.setCell ⟨w.heap.size + 1, 1, none⟩ (.int .i64 3)) w.heap.size Ev.zero ∧ EvOwn (w5.setCell ⟨w.heap.size + 1, 1, none⟩ (.int .i64 3)) (w.heap.size + 1) try3 ∧ Below w.heap.size w (w5.setCell ⟨w.heap.size + 1, 1, none⟩ (.int .i64 3))) :=
    ⟨h5.out.1.below ((Below.refl (w.heap.size + 1) w5).setCell (Nat.le_refl _) _) (by omega), h5.out.2.1.set (c := 1) (by decide) 3, h5.out.2.2.setCell (by show w.heap.size ≤ w.heap.size + 1; omega) _⟩
  clear hb5 hEl q0 a4
  go_wp2_with (first | (go_at_call 30; refine (Hin.out _).mono ?_; rintro e2 w' ⟨rfl, rfl⟩))
  clear e1 f1 q5
  generalize w5.setCell ⟨w.heap.size + 1, 1, none⟩ (.int .i64 3) = w6 at *
  obtain ⟨d0, d1, d2, d3, d4, d5, d6, d7⟩ := h6.out.2.1.ev
  obtain ⟨z0, z1, z2, z3, z4, z5, z6, z7⟩ := h6.out.1.ev
  have fr := h6.out.1.free
  rw [rounds_succ]
  go_wp2
  exact bodyPost_ret (res36 _ _ w.heap.size try3 _ (evOwn_set h6.out.1 try3).ev rfl rfl) rfl ⟨rfl, below_setEv h6.out.2.2 (Nat.le_refl _) try3⟩

theorem words_ex : wordsL [32, 32, 116, 114, 121, 32, 32, 32, 51, 32] = [[116, 114, 121], [51]] := by decide
theorem code_try : codeL 2 [116, 114, 121] = some 4 := by decide
theorem valid_try3 : validN try3 = 0 := by decide

set_option maxRecDepth 100000 in
set_option maxHeartbeats 4000000 in
theorem read_try (w : World) (hG : Glob T er w) :
    Calls Tryd.prog 24 #[tv [32, 32, 116, 114, 121, 32, 32, 32, 51, 32]] w (Makes (.tuple #[try3.agg, .nilIface]) w) := by
  have hal : Below w.heap.size w (w.alloc (.cells #[.int .i64 0, .int .i64 0, .int .i64 0, .int .i64 0, .int .i64 0, .int .i64 0, .int .i64 0, .int .i64 0] 33)) := (Below.refl _ _).alloc (Nat.le_refl _) _
  have hz := evOwn_new w Ev.zero
  have hwd := words_any [32, 32, 116, 114, 121, 32, 32, 32, 51, 32] (by decide) (w.alloc (.cells #[.int .i64 0, .int .i64 0, .int .i64 0, .int .i64 0, .int .i64 0, .int .i64 0, .int .i64 0, .int .i64 0] 33))
  rw [words_ex] at hwd
  have Hwd : Hid (Calls Tryd.prog 35 #[tv [32, 32, 116, 114, 121, 32, 32, 32, 51, 32]] (w.alloc (.cells #[.int .i64 0, .int .i64 0, .int .i64 0, .int .i64 0, .int .i64 0, .int .i64 0, .int .i64 0, .int .i64 0] 33)) fun e w' => ∃ A : Nat, e = .returned (.slice (some ⟨A, 0, none⟩) 2 2) ∧ Hid (w'.ownsRow (w.alloc (.cells #[.int .i64 0, .int .i64 0, .int .i64 0, .int .i64 0, .int .i64 0, .int .i64 0, .int .i64 0, .int .i64 0] 33)).heap.size 9 1 (.slice (some ⟨A, 0, none⟩) 2 2) 2 (tc [[116, 114, 121], [51]]) ∧ Below (w.alloc (.cells #[.int .i64 0, .int .i64 0, .int .i64 0, .int .i64 0, .int .i64 0, .int .i64 0, .int .i64 0, .int .i64 0] 33)).heap.size (w.alloc (.cells #[.int .i64 0, .int .i64 0, .int .i64 0, .int .i64 0, .int .i64 0, .int .i64 0, .int .i64 0, .int .i64 0] 33)) w')) := hwd
  have Hal := Lib.hid hal
  have Hz := Lib.hid hz
  have HG := Lib.hid hG
  have Hcd : Hid (∀ W, WordsAt W → Calls Tryd.prog 7 #[.int .i64 2, tv [116, 114, 121]] W fun e w' => e = .returned (.tuple #[.int .i64 4, .bool true]) ∧ W = w') := fun W h => by
    have := code_any 2 [116, 114, 121] W h
    rw [code_try] at this
    exact this
  have Hva : Hid (∀ W, Glob T er W → Calls Tryd.prog 31 #[try3.agg] W (Makes .nilIface W)) := fun W h => by
    have := valid_any try3 W h
    rw [valid_try3] at this
    exact this
  clear hal hz hwd hG
  go_enter Tryd.func24, Tryd.ntmps24
  go_wp2_with (first
    | (go_at_call 35; refine Hwd.out.mono ?_; rintro e1 w1 ⟨A, rfl, h⟩; have h1 : Hid (EvOwn w1 w.heap.size Ev.zero ∧ Below w.heap.size w w1) := ⟨Hz.out.below' h.out.2, Hal.out.trans (h.out.2.mono Hal.out.size)⟩; have a0 : w1.cell? ⟨A, 0, none⟩ = some (tv [116, 114, 121]) := by (have := h.out.1.cells (g := A) rfl 0 (tv [116, 114, 121]) rfl; rw [add_flat'] at this; exact this))
    | (go_at_call 7; refine (Hcd.out _ (HG.out.below' h1.out.2).words).mono ?_; rintro e1 w' ⟨rfl, rfl⟩; have a1 : w1.cell? ⟨A, 1, none⟩ = some (tv [51]) := (by have := h.out.1.cells (g := A) rfl 1 (tv [51]) rfl; rw [add_flat'] at this; exact this))
    | (go_at_call 36; refine (readFields_try A 1 _ a1 (HG.out.below' h1.out.2)).mono ?_; rintro e1 w2 ⟨rfl, hb2⟩; have h2 : Hid (EvOwn w2 w.heap.size Ev.zero ∧ Below w.heap.size w w2) := ⟨h1.out.1.below' hb2, h1.out.2.trans (hb2.mono h1.out.2.size)⟩; have hn2 := evOwn_new w2 try3; have hal2 : Below w2.heap.size w2 (w2.alloc (.cells #[.int .i64 4, .int .i64 3, .int .i64 0, .int .i64 0, .int .i64 0, .int .i64 0, .int .i64 0, .int .i64 0] 33)) := (Below.refl _ _).alloc (Nat.le_refl _) _; have Hn2 := Lib.hid hn2; have Hal2 := Lib.hid hal2; clear hb2 hn2 hal2 a0 a1)
    | (go_at_call 31; refine (Hva.out _ ((HG.out.below' h2.out.2).below' Hal2.out)).mono ?_; rintro e1 w4 ⟨rfl, hb4⟩; have h4 : Hid (EvOwn w4 w.heap.size Ev.zero ∧ EvOwn w4 w2.heap.size try3 ∧ Below w.heap.size w w4) := ⟨(h2.out.1.below' Hal2.out).below' hb4, Hn2.out.below' hb4, h2.out.2.trans ((Hal2.out.trans (hb4.mono Hal2.out.size)).mono h2.out.2.size)⟩; clear hb4; obtain ⟨d0, d1, d2, d3, d4, d5, d6, d7⟩ := h4.out.2.1.ev; obtain ⟨z0, z1, z2, z3, z4, z5, z6, z7⟩ := h4.out.1.ev; have fr := h4.out.1.free))
  exact bodyPost_ret (res24 _ _ w.heap.size try3 _ (evOwn_set h4.out.1 try3).ev rfl rfl) rfl ⟨rfl, below_setEv h4.out.2.2 (Nat.le_refl _) try3⟩

/-- An object: a register that begins with five. -/
abbrev reg5 : Value := .agg #[.int .i64 1, .int .i64 5]
theorem begins_one (w : World) : Calls Tryd.prog 38 #[.int .i64 1] w fun e w' => e = .returned (.bool true) ∧ w = w' := by
  go_enter Tryd.func38, Tryd.ntmps38
  go_wp2
  go_ret
  exact ⟨rfl, rfl⟩
theorem validObject_reg (w : World) (hG : Glob T er w) : Calls Tryd.prog 37 #[reg5] w (Makes .nilIface w) := by
  have hal : Below w.heap.size w (w.alloc (.cells #[.int .i64 1, .int .i64 5] 50)) := (Below.refl _ _).alloc (Nat.le_refl _) _
  have hGa := hG.below' hal
  have Hw : Hid (Calls Tryd.prog 17 #[.int .i64 1, .int .i64 1] (w.alloc (.cells #[.int .i64 1, .int .i64 5] 50)) fun e w' => e = .returned (tv [114, 101, 103, 105, 115, 116, 101, 114]) ∧ (w.alloc (.cells #[.int .i64 1, .int .i64 5] 50)) = w') := word_any 1 1 _ hGa.words
  have Hi : Hid (Calls Tryd.prog 46 #[.int .i64 6, .int .i64 5] (w.alloc (.cells #[.int .i64 1, .int .i64 5] 50)) fun e w' => e = .returned (.bool true) ∧ (w.alloc (.cells #[.int .i64 1, .int .i64 5] 50)) = w') := inside_any 6 (by decide) 5 _ hGa.bounds
  have Hb := Lib.hid begins_one
  have Hal := Lib.hid hal
  clear hal hGa hG
  go_enter Tryd.func37, Tryd.ntmps37
  go_wp2_with (first | (go_at_call 17; refine Hw.out.mono ?_; rintro e w' ⟨rfl, rfl⟩) | (go_at_call 46; refine Hi.out.mono ?_; rintro e w' ⟨rfl, rfl⟩) | (go_at_call 38; refine (Hb.out _).mono ?_; rintro e w' ⟨rfl, rfl⟩))
  go_ret
  exact ⟨rfl, Hal.out⟩
theorem joinObj : Lib.join [[111, 98, 106, 101, 99, 116], [114, 101, 103, 105, 115, 116, 101, 114], [53]] [32] = [111, 98, 106, 101, 99, 116, 32, 114, 101, 103, 105, 115, 116, 101, 114, 32, 53] := by decide
theorem row_two (w : World) (x y : List UInt8) (B : Nat) (hB : B ≤ w.heap.size) : (w.alloc (.cells #[tv x, tv y] 9)).ownsRow B 9 1 (.slice (some ⟨w.heap.size, 0, none⟩) 2 2) 2 (tc [x, y]) :=
  ⟨rfl, .inr ⟨w.heap.size, 2, #[tv x, tv y], rfl, hB, by show (w.heap.push _)[w.heap.size]? = _; exact Array.getElem?_push_size, Nat.le_refl _, by decide, rfl, rfl⟩⟩

set_option maxRecDepth 100000 in
set_option maxHeartbeats 4000000 in
theorem objectLine_reg (w : World) (hG : Glob T er w) : Calls Tryd.prog 25 #[reg5] w (Makes (.tuple #[tv [111, 98, 106, 101, 99, 116, 32, 114, 101, 103, 105, 115, 116, 101, 114, 32, 53], .nilIface]) w) := by
  have hal : Below w.heap.size w (w.alloc (.cells #[.int .i64 1, .int .i64 5] 50)) := (Below.refl _ _).alloc (Nat.le_refl _) _
  have hc0 : (w.alloc (.cells #[.int .i64 1, .int .i64 5] 50)).cell? ⟨w.heap.size, 0, none⟩ = some (.int .i64 1) := by rw [World.cell?_alloc_new]; rfl
  have hc1 : (w.alloc (.cells #[.int .i64 1, .int .i64 5] 50)).cell? ⟨w.heap.size, 1, none⟩ = some (.int .i64 5) := by rw [World.cell?_alloc_new]; rfl
  have Hv := Lib.hid (validObject_reg (w.alloc (.cells #[.int .i64 1, .int .i64 5] 50)) (hG.below' hal))
  have Hc := Lib.hid (And.intro hc0 hc1)
  have Hal := Lib.hid hal
  have HG := Lib.hid hG
  have Hw : Hid (∀ W, WordsAt W → Calls Tryd.prog 17 #[.int .i64 1, .int .i64 1] W fun e w' => e = .returned (tv [114, 101, 103, 105, 115, 116, 101, 114]) ∧ W = w') := fun W h => word_any 1 1 W h
  have Hb := Lib.hid begins_one
  have Hp : Hid (∀ W, Glob T er W → Calls Tryd.prog 39 #[.int .i64 5] W fun e w' => e = .returned (tv [53]) ∧ Hid (Below W.heap.size W w')) := fun W h => by
    have := print_any 5 (by decide) (by decide) W h
    rw [show Lib.itoa 5 = [53] from itoa_d 5 (by decide)] at this
    exact this
  obtain ⟨i0, hi, hz0, hz1, hz2⟩ := info_parts infoS
  clear hal hc0 hc1 hG
  go_enter Tryd.func25, Tryd.ntmps25
  go_wp2_with (first
    | (go_at_call 37; refine Hv.out.mono ?_; rintro e1 w1 ⟨rfl, hb1⟩; have H1 := Lib.hid (Hal.out.trans (hb1.mono Hal.out.size)); have hlt1 : w.heap.size < (w.alloc (.cells #[.int .i64 1, .int .i64 5] 50)).heap.size := World.block_lt_of_cell? _ _ Hc.out.1; have k0 := (hb1.cell (p := ⟨w.heap.size, 0, none⟩) hlt1).trans Hc.out.1; have k1 := (hb1.cell (p := ⟨w.heap.size, 1, none⟩) hlt1).trans Hc.out.2; have hlt1' : w.heap.size < w1.heap.size := Nat.lt_of_lt_of_le hlt1 hb1.size; clear hb1 hlt1)
    | (go_at_call 17; refine (Hw.out _ (HG.out.below' H1.out).words).mono ?_; rintro e1 w' ⟨rfl, rfl⟩)
    | (go_at_call 38; refine (Hb.out _).mono ?_; rintro e1 w' ⟨rfl, rfl⟩)
    | (go_at_call 39; have hal1 : Below w1.heap.size w1 (w1.alloc (.cells #[tv [111, 98, 106, 101, 99, 116], tv [114, 101, 103, 105, 115, 116, 101, 114]] 9)) := (Below.refl _ _).alloc (Nat.le_refl _) _; refine (Hp.out _ ((HG.out.below' H1.out).below' hal1)).mono ?_; rintro e1 w3 ⟨rfl, hb3⟩; have H3 := Lib.hid (H1.out.trans ((hal1.trans (hb3.out.mono hal1.size)).mono H1.out.size)); have Hr3 := Lib.hid (row_below (row_two w1 [111, 98, 106, 101, 99, 116] [114, 101, 103, 105, 115, 116, 101, 114] w.heap.size H1.out.size) hb3.out); clear hal1 hb3 k0 k1 hlt1')
    | (at_builtin; refine wpList_append_own _ rfl _ _ 53 rfl w.heap.size 9 i0 (.string ⟨#[]⟩) 1 16 under53 hi hz0 hz1 hz2 rfl (by decide) _ 2 _ rfl (Hr3.out.alloc _) ⟨w3.heap.size, 0, none⟩ 1 1 [tv [53]] rfl rfl (cell_one_new _ _ _) (by simp [Value.oneCell']) (by unfold maxLen; omega) (by omega) (by have := H3.out.size; simp; omega) ?_; intro v4 w4 hown4 hgrow4 _; have H4 := Lib.hid ((H3.out.alloc H3.out.size (.cells #[tv [53]] 9)).grown hgrow4 (by have := H3.out.size; simp; omega) (fun j ej => (Hr3.out.lt j ej).1)); have Hr4 : Hid (w4.ownsRow w.heap.size 9 1 v4 3 (tc [[111, 98, 106, 101, 99, 116], [114, 101, 103, 105, 115, 116, 101, 114], [53]])) := hown4; obtain ⟨a4, c4, rfl, ht4⟩ := tat_row (l := [[111, 98, 106, 101, 99, 116], [114, 101, 103, 105, 115, 116, 101, 114], [53]]) Hr4.out; have Ht4 := Lib.hid (And.intro ht4 (row_cap Hr4.out)); clear hown4 hgrow4 ht4)
    | (go_at_call 34; refine (join_any a4 c4 [[111, 98, 106, 101, 99, 116], [114, 101, 103, 105, 115, 116, 101, 114], [53]] _ Ht4.out.1 Ht4.out.2 (by decide) (by decide)).mono ?_; rintro e1 w5 ⟨rfl, hb5⟩))
  go_ret2
  exact ⟨by rw [joinObj]; rfl, H4.out.trans (hb5.out.mono H4.out.size)⟩

set_option maxHeartbeats 2000000 in
theorem sameEvent_eq (e : Ev) (w : World) : Calls Tryd.prog 20 #[e.agg, e.agg] w (Makes (.bool true) w) := by
  go_enter Tryd.func20, Tryd.ntmps20
  go_wp2
  go_ret
  exact ⟨by simp, ((Below.refl _ _).alloc (Nat.le_refl _) _).alloc (by simp) _⟩
end Go.Proofs.YtciajjjigigidaaDoor
