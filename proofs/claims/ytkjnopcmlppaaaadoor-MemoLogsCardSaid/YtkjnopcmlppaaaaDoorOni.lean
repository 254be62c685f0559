/- The function that the statement on logs hands to Once, and Once with it, by contracts. -/
import Derived.Test.YtkjnopcmlppaaaaDoorLgi
namespace Go.Proofs.YtkjnopcmlppaaaaDoor
open Go.RowKit Go.Maps Go.WideMaps Go.WideElems Go.ChangeShapes Go.WideShapes

/-- The closure where the kind is not 4: it counts, and answers the value. -/
theorem fun24_plain (rb cb : Nat) (lp : Value) (K A V r : Int) (w : World) (hr : w.heap[rb]? = some (.cells #[.int .i64 r] 3 (0, 0))) (hc : w.heap[cb]? = some (.cells #[.int .i64 K, .int .i64 A, .int .i64 V] 44 (0, 0))) (hk : (K == 4) = false) (hr0 : 0 ≤ r) (hr1 : r ≤ 10) :
    Calls Tryd.prog 24 #[.pointer (some ⟨rb, 0, none⟩), .pointer (some ⟨cb, 0, none⟩), lp] w fun e w' => e = .returned (.int .i64 V) ∧ w.setCell ⟨rb, 0, none⟩ (.int .i64 (r + 1)) = w' := by
  have c0 := cell_of_one hr
  have f0 := free_of_one hr
  have hne : cb ≠ rb := by rintro rfl; rw [hr] at hc; cases hc
  have k0 : w.cell? ⟨cb, 0, none⟩ = some (.int .i64 K) := by simp [World.cell?, hc]
  have k2 : w.cell? ⟨cb, 2, none⟩ = some (.int .i64 V) := by simp [World.cell?, hc]
  clear hr hc
  go_enter Tryd.func24, Tryd.ntmps24
  go_wp2
  go_ret
  exact ⟨rfl, rfl⟩

set_option maxHeartbeats 800000 in
/-- .. where it is 4: it counts, notes the value and one, and answers the value. -/
theorem fun24_four (B rb cb lb n : Nat) (mv : Value) (f : Lit → Option Int) (A V r : Int) (w : World) (hr : w.heap[rb]? = some (.cells #[.int .i64 r] 3 (0, 0))) (hc : w.heap[cb]? = some (.cells #[.int .i64 4, .int .i64 A, .int .i64 V] 44 (0, 0))) (hr0 : 0 ≤ r) (hr1 : r ≤ 10)
    (hA : (Lit.int .i64 A).wf = true) (h : LogI 3 53 B w lb mv n f) (hin : (f (.int .i64 A)).isSome = false) (hsm : n < 1000000) (hB : B ≤ w.heap.size) (hrl : ¬ lfoot lb mv rb) (hcl : ¬ lfoot lb mv cb) :
    Calls Tryd.prog 24 #[.pointer (some ⟨rb, 0, none⟩), .pointer (some ⟨cb, 0, none⟩), .pointer (some ⟨lb, 0, none⟩)] w fun e w' => e = .returned (.int .i64 V) ∧ ∃ mv', LogPost 3 53 B (w.setCell ⟨rb, 0, none⟩ (.int .i64 (r + 1))) lb mv w' mv' (n + 1) (upd f (.int .i64 A) (wrap64 (V + 1))) := by
  have c0 := cell_of_one hr
  have f0 := free_of_one hr
  have hne : cb ≠ rb := by rintro rfl; rw [hr] at hc; cases hc
  have hc1 : (w.setCell ⟨rb, 0, none⟩ (.int .i64 (r + 1))).heap[cb]? = some (.cells #[.int .i64 4, .int .i64 A, .int .i64 V] 44 (0, 0)) := by rw [Below.heap_setCell _ _ _ _ hne]; exact hc
  have k0 : (w.setCell ⟨rb, 0, none⟩ (.int .i64 (r + 1))).cell? ⟨cb, 0, none⟩ = some (.int .i64 4) := by simp [World.cell?, hc1]
  have k1 : (w.setCell ⟨rb, 0, none⟩ (.int .i64 (r + 1))).cell? ⟨cb, 1, none⟩ = some (.int .i64 A) := by simp [World.cell?, hc1]
  have k2 : (w.setCell ⟨rb, 0, none⟩ (.int .i64 (r + 1))).cell? ⟨cb, 2, none⟩ = some (.int .i64 V) := by simp [World.cell?, hc1]
  have h1 := h.only (Only.of_setCell w ⟨rb, 0, none⟩ (.int .i64 (r + 1))) (fun i hi e => hrl (by rw [← show i = rb from e]; exact hi))
  have hnote := fun x => lgi_note_new B lb mv n f A x _ hA h1 hin hsm (by simpa [World.setCell] using hB)
  have Hnote := Lib.hid hnote
  have Hc1 := Lib.hid hc1
  have Hcl := Lib.hid hcl
  clear hnote hc hc1 h h1 hin hcl hrl
  go_enter Tryd.func24, Tryd.ntmps24
  go_wp2_with fail
  refine (Hnote.out _).mono ?_
  rintro e w2 ⟨rfl, mv', hp⟩
  have hc2 : w2.heap[cb]? = some (.cells #[.int .i64 4, .int .i64 A, .int .i64 V] 44 (0, 0)) := by
    rw [hp.only.block cb (lt_of_block Hc1.out) (fun e => Hcl.out e)]
    exact Hc1.out
  have k22 : w2.cell? ⟨cb, 2, none⟩ = some (.int .i64 V) := by simp [World.cell?, hc2]
  have Hp := Lib.hid hp
  clear hp hc2 k0 k1 k2
  go_wp2
  go_ret
  exact ⟨rfl, mv', Hp.out⟩

/-- What Once leaves where the key is new. -/
structure OncePost (B : Nat) (w : World) (lb rb : Nat) (mv : Value) (w' : World) (mv' : Value) (n' : Nat) (f' : Lit → Option Int) : Prop where
  log : LogI 3 53 B w' lb mv' n' f'
  only : Only (fun i => lfoot lb mv i ∨ i = rb) w w'
  from' : ∀ i, lfoot lb mv' i → lfoot lb mv i ∨ w.heap.size ≤ i
  ran : w'.cell? ⟨rb, 0, none⟩ = some (.int .i64 1)

set_option maxHeartbeats 400000 in
theorem oni_old (B lb : Nat) (mv : Value) (n : Nat) (f : Lit → Option Int) (s : Int) (fv : Value) (x : Int) (w : World) (hs : (Lit.int .i64 s).wf = true) (h : LogI 3 53 B w lb mv n f) (hin : f (.int .i64 s) = some x) :
    Calls Tryd.prog 23 #[.pointer (some ⟨lb, 0, none⟩), .int .i64 s, fv] w fun e w' => e = .returned (.int .i64 x) ∧ Only (fun _ => False) w w' := by
  have hget := lgi_get B lb mv n f s w hs h
  simp only [hin, Option.getD_some, Option.isSome_some] at hget
  have Hget := Lib.hid hget
  clear hget h hin
  go_enter Tryd.func23, Tryd.ntmps23
  go_wp2_with (go_at_call 22; refine Hget.out.mono ?_; rintro e w' ⟨rfl, rfl⟩)
  go_ret
  exact ⟨rfl, Only.of_alloc _ _⟩

set_option maxHeartbeats 800000 in
theorem oni_plain (B lb rb cb : Nat) (mv : Value) (n : Nat) (f : Lit → Option Int) (K A V : Int) (w : World) (hA : (Lit.int .i64 A).wf = true) (h : LogI 3 53 B w lb mv n f) (hin : f (.int .i64 A) = none) (hsm : n < 1000000) (hB : B ≤ w.heap.size)
    (hr : w.heap[rb]? = some (.cells #[.int .i64 0] 3 (0, 0))) (hc : w.heap[cb]? = some (.cells #[.int .i64 K, .int .i64 A, .int .i64 V] 44 (0, 0))) (hk : (K == 4) = false) (hrl : ¬ lfoot lb mv rb) :
    Calls Tryd.prog 23 #[.pointer (some ⟨lb, 0, none⟩), .int .i64 A, .func (.func 24) #[] #[.pointer (some ⟨rb, 0, none⟩), .pointer (some ⟨cb, 0, none⟩), .pointer (some ⟨lb, 0, none⟩)]] w fun e w' => e = .returned (.int .i64 V) ∧ ∃ mv', OncePost B w lb rb mv w' mv' (n + 1) (upd f (.int .i64 A) V) := by
  have hget := lgi_get B lb mv n f A w hA h
  simp only [hin, Option.getD_none, Option.isSome_none] at hget
  have ho := Only.of_alloc w (.cells #[.int .i64 0] 85)
  have hr1 : (w.alloc (.cells #[.int .i64 0] 85)).heap[rb]? = some (.cells #[.int .i64 0] 3 (0, 0)) := by rw [Below.heap_alloc _ _ _ (lt_of_block hr)]; exact hr
  have hc1 : (w.alloc (.cells #[.int .i64 0] 85)).heap[cb]? = some (.cells #[.int .i64 K, .int .i64 A, .int .i64 V] 44 (0, 0)) := by rw [Below.heap_alloc _ _ _ (lt_of_block hc)]; exact hc
  have h1 := h.only ho (fun _ _ x => x)
  have hs1 := ho.size
  have hlt := lt_of_block hr
  have Hget := Lib.hid hget
  generalize w.alloc (.cells #[.int .i64 0] 85) = w1 at *
  have hfun := fun24_plain rb cb (.pointer (some ⟨lb, 0, none⟩)) K A V 0 w1 hr1 hc1 hk (by omega) (by omega)
  have o2 := Only.of_setCell w1 ⟨rb, 0, none⟩ (.int .i64 (0 + 1))
  have h2 := h1.only o2 (fun i hi e => hrl (by rw [← show i = rb from e]; exact hi))
  have hnote := lgi_note_new B lb mv n f A V _ hA h2 (by rw [hin]; rfl) hsm (by have := o2.size; omega)
  have hran : (w1.setCell ⟨rb, 0, none⟩ (.int .i64 (0 + 1))).heap[rb]? = some (.cells #[.int .i64 1] 3 (0, 0)) := one_setCell hr1
  generalize w1.setCell ⟨rb, 0, none⟩ (.int .i64 (0 + 1)) = w2 at *
  have Hfun := Lib.hid hfun
  have Hnote := Lib.hid hnote
  have Ho := Lib.hid ho
  have Ho2 := Lib.hid o2
  have HA := Lib.hid hA
  have Hran := Lib.hid hran
  have Hrl := Lib.hid hrl
  clear hget h hin h1 h2 ho o2 hnote hfun hr hc hr1 hc1 hA hran hrl
  go_enter Tryd.func23, Tryd.ntmps23
  go_wp2_with (first | (go_at_call 22; refine Hget.out.mono ?_; rintro e w' ⟨rfl, rfl⟩) | (go_at_call 24; refine Hfun.out.mono ?_; rintro e w' ⟨rfl, rfl⟩) | (go_at_call 21; refine Hnote.out.mono ?_; rintro e w3 ⟨rfl, mv', hp⟩; have hget3 := lgi_get B lb mv' (n + 1) _ A w3 HA.out hp.log; simp only [upd, WideAt.sameKey_self (isKeyI _), if_true, Option.getD_some, Option.isSome_some] at hget3; have Hp := Lib.hid hp; have Hget3 := Lib.hid hget3; clear hp hget3))
  refine Hget3.out.mono ?_
  rintro e w4 ⟨rfl, rfl⟩
  go_wp2
  go_ret
  have hp := Hp.out
  have oa := Only.of_alloc w3 (.cells #[.int .i64 V] 85)
  have hr3 : w3.heap[rb]? = some (.cells #[.int .i64 1] 3 (0, 0)) := by rw [hp.only.block rb (lt_of_block Hran.out) (fun e => Hrl.out e)]; exact Hran.out
  have s2 := Ho2.out.size
  refine ⟨rfl, mv', hp.log.only oa (fun _ _ x => x), ?_, fun i hi => (hp.from' i hi).imp id (fun x => by omega), ?_⟩
  · exact ((Ho.out.trans Ho2.out (H := fun i => lfoot lb mv i ∨ i = rb) (fun _ (h : False) => h.elim) (fun i hi => .inl (.inr hi))).trans hp.only (fun _ h => h) (fun i hi => .inl (.inl hi))).trans oa (fun _ h => h) (fun _ (h : False) => h.elim)
  · exact cell_of_one (by rw [Below.heap_alloc _ _ _ (lt_of_block hr3)]; exact hr3)

set_option maxHeartbeats 800000 in
theorem oni_four (B lb rb cb : Nat) (mv : Value) (n : Nat) (f : Lit → Option Int) (A V : Int) (w : World) (hA : (Lit.int .i64 A).wf = true) (h : LogI 3 53 B w lb mv n f) (hin : f (.int .i64 A) = none) (hsm : n < 1000000) (hB : B ≤ w.heap.size)
    (hr : w.heap[rb]? = some (.cells #[.int .i64 0] 3 (0, 0))) (hc : w.heap[cb]? = some (.cells #[.int .i64 4, .int .i64 A, .int .i64 V] 44 (0, 0))) (hrl : ¬ lfoot lb mv rb) (hcl : ¬ lfoot lb mv cb) :
    Calls Tryd.prog 23 #[.pointer (some ⟨lb, 0, none⟩), .int .i64 A, .func (.func 24) #[] #[.pointer (some ⟨rb, 0, none⟩), .pointer (some ⟨cb, 0, none⟩), .pointer (some ⟨lb, 0, none⟩)]] w fun e w' => e = .returned (.int .i64 (wrap64 (V + 1))) ∧ ∃ mv', OncePost B w lb rb mv w' mv' (n + 1) (upd f (.int .i64 A) (wrap64 (V + 1))) := by
  have hget := lgi_get B lb mv n f A w hA h
  simp only [hin, Option.getD_none, Option.isSome_none] at hget
  have ho := Only.of_alloc w (.cells #[.int .i64 0] 85)
  have hr1 : (w.alloc (.cells #[.int .i64 0] 85)).heap[rb]? = some (.cells #[.int .i64 0] 3 (0, 0)) := by rw [Below.heap_alloc _ _ _ (lt_of_block hr)]; exact hr
  have hc1 : (w.alloc (.cells #[.int .i64 0] 85)).heap[cb]? = some (.cells #[.int .i64 4, .int .i64 A, .int .i64 V] 44 (0, 0)) := by rw [Below.heap_alloc _ _ _ (lt_of_block hc)]; exact hc
  have h1 := h.only ho (fun _ _ x => x)
  have hs1 := ho.size
  have hlt := lt_of_block hr
  have Hget := Lib.hid hget
  generalize w.alloc (.cells #[.int .i64 0] 85) = w1 at *
  have hfun := fun24_four B rb cb lb n mv f A V 0 w1 hr1 hc1 (by omega) (by omega) hA h1 (by rw [hin]; rfl) hsm (by omega) hrl hcl
  have o2 := Only.of_setCell w1 ⟨rb, 0, none⟩ (.int .i64 (0 + 1))
  have hran : (w1.setCell ⟨rb, 0, none⟩ (.int .i64 (0 + 1))).heap[rb]? = some (.cells #[.int .i64 1] 3 (0, 0)) := one_setCell hr1
  generalize hy : wrap64 (V + 1) = y at *
  generalize w1.setCell ⟨rb, 0, none⟩ (.int .i64 (0 + 1)) = w2 at *
  have Hfun := Lib.hid hfun
  have Ho := Lib.hid ho
  have Ho2 := Lib.hid o2
  have HA := Lib.hid hA
  have Hran := Lib.hid hran
  have Hrl := Lib.hid hrl
  clear hget h hin h1 ho o2 hfun hr hc hr1 hc1 hA hran hrl hcl hy
  go_enter Tryd.func23, Tryd.ntmps23
  go_wp2_with (go_at_call 22; refine Hget.out.mono ?_; rintro e w' ⟨rfl, rfl⟩)
  refine Hfun.out.mono ?_
  rintro e w3 ⟨rfl, mv', hp⟩
  have hu : upd f (.int .i64 A) y (.int .i64 A) = some y := by simp only [upd, WideAt.sameKey_self (isKeyI _), if_true]
  have hold := lgi_note_old B lb mv' (n + 1) _ A V w3 HA.out hp.log (by rw [hu]; rfl)
  have Hp := Lib.hid hp
  have Hu := Lib.hid hu
  have Hold := Lib.hid hold
  clear hp hu hold
  go_wp2_with fail
  refine Hold.out.mono ?_
  rintro e w4 ⟨rfl, ho4⟩
  have hget4 := lgi_get B lb mv' (n + 1) _ A w4 HA.out (Hp.out.log.only ho4 (fun _ _ x => x))
  rw [Hu.out] at hget4
  simp only [Option.getD_some, Option.isSome_some] at hget4
  have Hget4 := Lib.hid hget4
  have Ho4 := Lib.hid ho4
  clear hget4 ho4
  go_wp2_with fail
  refine Hget4.out.mono ?_
  rintro e w5 ⟨rfl, rfl⟩
  go_wp2
  go_ret
  have hp := Hp.out
  have oa := Only.of_alloc w4 (.cells #[.int .i64 y] 85)
  have hr3 : w3.heap[rb]? = some (.cells #[.int .i64 1] 3 (0, 0)) := by rw [hp.only.block rb (lt_of_block Hran.out) (fun e => Hrl.out e)]; exact Hran.out
  have hr4 : w4.heap[rb]? = some (.cells #[.int .i64 1] 3 (0, 0)) := by rw [Ho4.out.block rb (lt_of_block hr3) (fun h => h)]; exact hr3
  have s2 := Ho2.out.size
  refine ⟨rfl, mv', (hp.log.only Ho4.out (fun _ _ x => x)).only oa (fun _ _ x => x), ?_, fun i hi => (hp.from' i hi).imp id (fun x => by omega), ?_⟩
  · exact (((Ho.out.trans Ho2.out (H := fun i => lfoot lb mv i ∨ i = rb) (fun _ (h : False) => h.elim) (fun i hi => .inl (.inr hi))).trans hp.only (fun _ h => h) (fun i hi => .inl (.inl hi))).trans Ho4.out (fun _ h => h) (fun _ (h : False) => h.elim)).trans oa (fun _ h => h) (fun _ (h : False) => h.elim)
  · exact cell_of_one (by rw [Below.heap_alloc _ _ _ (lt_of_block hr4)]; exact hr4)
end Go.Proofs.YtkjnopcmlppaaaaDoor
