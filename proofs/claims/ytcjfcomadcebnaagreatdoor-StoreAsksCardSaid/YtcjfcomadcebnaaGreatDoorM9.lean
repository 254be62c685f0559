/- Helpers, joined: Rd, Re, Rg, Tr, Ts, Tk, Tl, Tm, Tn, To, Ha, Hb, Ba, Bb. -/
import Derived.Test.YtcjfcomadcebnaaGreatDoorM4
import Derived.Test.YtcjfcomadcebnaaGreatDoorM8
import Derived.Lib.AppendStr
import Derived.Lib.ConvBytes
import Derived.Laws.BytesArg

/- The document's judgement of objects. -/
namespace Go.Proofs.YtcjfcomadcebnaaGreatDoor
open Go.RowKit Go.Maps Go.WideMaps Go.WideElems Go.ChangeShapes Go.WideShapes

theorem results_row1 {P : Program} {fn : Func} {p : Tmp} {ty : TypeId} (h : fn.results = #[.cell p ty]) (tmps : Array Value) (w : World) (g : Nat) (t : TypeId) (cs : Array Value) (fr : Nat × Nat) (d : TypeDesc)
    (hp : tmps.getD p undef = .pointer (some ⟨g, 0, none⟩)) (hg : w.heap[g]? = some (.cells cs t fr))
    (hu : P.underlying ty = some d) (hd : (match d with | .struct _ | .array _ _ => true | _ => false) = true) (hi : (P.info? ty).map (·.size) = some cs.size) :
    (results fn tmps).run P w = .ok (.agg cs) w := by
  have hp' : tmps[p]?.getD undef = .pointer (some ⟨g, 0, none⟩) := by simpa using hp
  simp only [results, h]
  simp [hp', asAddr, run_loadVar_row w g t ty cs fr d hg hu hd hi]
/-- A box of two, written. -/
theorem box_put2 {w V : World} {rb : Nat} {x y : Value} {t : TypeId} (p q : Value) (hM : V.heap[rb]? = some (.cells #[x, y] t)) (hr : w.heap.size ≤ rb) :
    ∃ V1 V2, V.setCell ⟨rb, 0, none⟩ p = V1 ∧ V1.setCell ⟨rb, 1, none⟩ q = V2 ∧ ((V.cell? ⟨rb, 0, none⟩ = some x ∧ V.frozen? ⟨rb, 0, none⟩ = false) ∧ (V1.cell? ⟨rb, 1, none⟩ = some y ∧ V1.frozen? ⟨rb, 1, none⟩ = false)) ∧ Hid (V2.heap[rb]? = some (.cells #[p, q] t)) ∧ Hid (Below w.heap.size V V2) := by
  have h1 : (V.setCell ⟨rb, 0, none⟩ p).heap[rb]? = some (.cells #[p, y] t) := heap_setCell_same V rb 0 _ t p hM
  exact ⟨_, _, rfl, rfl, ⟨⟨(cell_of_row _ _ 0 _ _ _ hM).trans rfl, frozen_of_row _ rb 0 _ t hM⟩, ⟨(cell_of_row _ _ 1 _ _ _ h1).trans rfl, frozen_of_row _ rb 1 _ t h1⟩⟩, heap_setCell_same _ rb 1 _ t q h1, ((Below.refl _ V).setCell (p := ⟨rb, 0, none⟩) hr _).setCell (p := ⟨rb, 1, none⟩) hr _⟩

set_option maxRecDepth 100000 in
set_option maxHeartbeats 2000000 in
theorem rfine (w : World) : Calls Tryz.prog 77 #[] w fun e w' => e = .returned (.agg #[.int .i64 0, .slice none 0 0]) ∧ Hid (Below w.heap.size w w') := by
  obtain ⟨W, hW, Hb, hs, Hx⟩ := cells_new w #[.int .i64 0, .slice none 0 0] 78
  obtain ⟨F1, F2, hF1, hF2, ⟨⟨f0, e0⟩, ⟨f1, e1⟩⟩, HF, HE⟩ := box_put2 (w := w) (.int .i64 0) (.slice none 0 0) Hx.out (Nat.le_refl _)
  go_enter Tryz.func77, Tryz.ntmps77
  go_wp2_with fail
  refine bodyPost_ret (results_row1 rfl _ _ w.heap.size 78 _ (0, 0) _ rfl HF.out Tryz.underlying78 rfl (by kernel_rfl)) rfl ?_
  exact ⟨rfl, Hb.out.trans HE.out⟩
set_option maxRecDepth 100000 in
set_option maxHeartbeats 2000000 in
theorem rbare (c : Int) (w : World) : Calls Tryz.prog 73 #[.int .i64 c] w fun e w' => e = .returned (.agg #[.int .i64 c, .slice none 0 0]) ∧ Hid (Below w.heap.size w w') := by
  obtain ⟨W, hW, Hb, hs, Hx⟩ := cells_new w #[.int .i64 0, .slice none 0 0] 78
  obtain ⟨F1, F2, hF1, hF2, ⟨⟨f0, e0⟩, ⟨f1, e1⟩⟩, HF, HE⟩ := box_put2 (w := w) (.int .i64 c) (.slice none 0 0) Hx.out (Nat.le_refl _)
  go_enter Tryz.func73, Tryz.ntmps73
  go_wp2_with fail
  refine bodyPost_ret (results_row1 rfl _ _ w.heap.size 78 _ (0, 0) _ rfl HF.out Tryz.underlying78 rfl (by kernel_rfl)) rfl ?_
  exact ⟨rfl, Hb.out.trans HE.out⟩
set_option maxRecDepth 100000 in
set_option maxHeartbeats 2000000 in
theorem rplaced (c p : Int) (hc : c ≠ 0) (w : World) : Calls Tryz.prog 75 #[.int .i64 c, .int .i64 p] w fun e w' => ∃ a n m, e = .returned (.agg #[.int .i64 c, .slice (some a) n m]) ∧ Hid (Below w.heap.size w w') := by
  obtain ⟨W, hW, Hb, hs, Hx⟩ := cells_new w #[.int .i64 0, .slice none 0 0] 78
  obtain ⟨W2, hW2, Hb2, hs2, Hx2⟩ := cells_new W #[.int .i64 p] 3
  obtain ⟨F1, F2, hF1, hF2, ⟨⟨f0, e0⟩, ⟨f1, e1⟩⟩, HF, HE⟩ := box_put2 (w := w) (V := W2) (.int .i64 c) (.slice (some ⟨W.heap.size, 0, none⟩) 1 1) (keepB Hb2.out Hx.out) (Nat.le_refl _)
  have hcb : (c == 0) = false := by simpa using hc
  clear hc
  go_enter Tryz.func75, Tryz.ntmps75
  go_wp2_with fail
  refine bodyPost_ret (results_row1 rfl _ _ w.heap.size 78 _ (0, 0) _ rfl HF.out Tryz.underlying78 rfl (by kernel_rfl)) rfl ?_
  exact ⟨_, _, _, rfl, (stepB Hb.out Hb2.out).trans HE.out⟩

/-- What a judgement of objects gives: no fault just if they are fit. -/
def FaultRes (good : Prop) (w : World) (e : Ending) (w' : World) : Prop := ∃ (c : Int) (a : Option Addr) (n m : Nat), e = .returned (.agg #[.int .i64 c, .slice a n m]) ∧ (c = 0 ↔ good) ∧ Hid (Below w.heap.size w w')
end Go.Proofs.YtcjfcomadcebnaaGreatDoor

/- The document's judgement of a history of objects alone. -/
namespace Go.Proofs.YtcjfcomadcebnaaGreatDoor
open Go.RowKit Go.Maps Go.WideMaps Go.WideElems Go.ChangeShapes Go.WideShapes

set_option maxHeartbeats 1000000 in
set_option maxRecDepth 100000 in
theorem rvalid_many (a : Option Addr) (n c : Nat) (hn : 8 < n) (w : World) : Calls Tryz.prog 56 #[.agg #[.slice a n c, .slice none 0 0]] w fun e w' => e = .returned (.agg #[.int .i64 105, .slice none 0 0]) ∧ Hid (Below w.heap.size w w') := by
  obtain ⟨W, hW, Hb, hs, Hx⟩ := cells_new w #[.slice a n c, .slice none 0 0] 102
  obtain ⟨W2, hW2, Hb2, hs2, Hx2⟩ := cells_new W #[.int .i64 0, .slice none 0 0] 78
  have hx := keepB Hb2.out Hx.out
  have x0 : W2.cell? ⟨w.heap.size, 0, none⟩ = some (.slice a n c) := (cell_of_row _ _ 0 _ _ _ hx).trans rfl
  have x1 : W2.cell? ⟨w.heap.size, 1, none⟩ = some (.slice none 0 0) := (cell_of_row _ _ 1 _ _ _ hx).trans rfl
  have HB := Lib.hid (rbare 105 W2)
  have hd8 : decide (8 < (n : Int)) = true := by simp; omega
  clear hx
  go_enter Tryz.func56, Tryz.ntmps56
  go_wp2_with (first
    | (go_at_call 73; (with_reducible refine HB.out.mono ?_); rintro e w4 ⟨rfl, h4⟩
       have B4 : Hid (Below w.heap.size w w4) := stepB (stepB Hb.out Hb2.out) h4.out
       obtain ⟨F1, F2, hF1, hF2, ⟨⟨f0, e0⟩, ⟨f1, e1⟩⟩, HF, HE⟩ := box_put2 (w := w) (V := w4) (.int .i64 105) (.slice none 0 0) (keepB h4.out Hx2.out) Hb.out.size))
  refine bodyPost_ret (results_row1 rfl _ _ W.heap.size 78 _ (0, 0) _ rfl HF.out Tryz.underlying78 rfl (by kernel_rfl)) rfl ?_
  exact ⟨rfl, B4.out.trans HE.out⟩

set_option maxHeartbeats 2000000 in
set_option maxRecDepth 100000 in
theorem rvalid_few (a : Option Addr) (c : Nat) (os : List (Int × Int)) (hn : os.length ≤ 8) (w : World) (h : SlAt w a (obs os)) :
    Calls Tryz.prog 56 #[.agg #[.slice a os.length c, .slice none 0 0]] w (FaultRes (∀ o ∈ os, validO o.1 o.2 = true) w) := by
  obtain ⟨n, hnn⟩ : ∃ n, os.length = n := ⟨_, rfl⟩
  rw [hnn] at hn ⊢
  obtain ⟨W0, hW0, Hb0, hs0, Hx0⟩ := cells_new w #[.slice a n c, .slice none 0 0] 102
  obtain ⟨W, hW, Hb1, hs1, Hx1⟩ := cells_new W0 #[.int .i64 0, .slice none 0 0] 78
  have Hb : Hid (Below w.heap.size w W) := stepB Hb0.out Hb1.out
  have hs : Hid (w.heap.size < W.heap.size) := Nat.lt_trans hs0.out hs1.out
  have Hx := Lib.hid (keepB Hb1.out Hx0.out)
  have Hob : Hid (∀ k, k < n → ∀ W', Below W.heap.size W W' → ∃ b off p q, a = some ⟨b, off, none⟩ ∧ os[k]? = some (p, q) ∧ W'.cell? ⟨b, off + k * 2, none⟩ = some (.int .i64 p) ∧ W'.cell? ⟨b, off + k * 2 + 1, none⟩ = some (.int .i64 q)) := by
    intro k hk W' hb'
    have hk' : k < os.length := by omega
    have g0 : (obs os)[k * 2]? = some (.int .i64 os[k].1) := (obs_get os k hk').1
    have g1 : (obs os)[k * 2 + 1]? = some (.int .i64 os[k].2) := (obs_get os k hk').2
    rcases h with ⟨_, h0⟩ | ⟨b, off, rfl, hbl, hc⟩
    · rw [h0] at g0; simp at g0
    have hb2 : b < w.heap.size := hbl (by intro e; rw [e] at g0; simp at g0)
    refine ⟨b, off, _, _, rfl, List.getElem?_eq_getElem hk', ?_, ?_⟩
    · exact (hb'.cell (p := ⟨b, off + k * 2, none⟩) (Nat.lt_trans hb2 hs.out)).trans ((Hb.out.cell (p := ⟨b, off + k * 2, none⟩) hb2).trans (hc _ _ g0))
    · exact (hb'.cell (p := ⟨b, off + (k * 2 + 1), none⟩) (Nat.lt_trans hb2 hs.out)).trans ((Hb.out.cell (p := ⟨b, off + (k * 2 + 1), none⟩) hb2).trans (hc _ _ g1))
  have Hg : Hid ((∀ k, k < n → ∀ p q, os[k]? = some (p, q) → validO p q = true) → ∀ o ∈ os, validO o.1 o.2 = true) := fun hall o ho => by
    obtain ⟨i, hi, e⟩ := List.getElem_of_mem ho
    exact hall i (by omega) o.1 o.2 (by rw [List.getElem?_eq_getElem hi, e])
  have Hbad : Hid (∀ (k : Nat) (p q : Int), os[k]? = some (p, q) → validO p q ≠ true → ¬ ∀ o ∈ os, validO o.1 o.2 = true) := fun k p q he hv hall => hv (hall (p, q) (List.mem_of_getElem? he))
  clear h
  have x0 : W.cell? ⟨w.heap.size, 0, none⟩ = some (.slice a n c) := (cell_of_row _ _ 0 _ _ _ Hx.out).trans rfl
  have x1 : W.cell? ⟨w.heap.size, 1, none⟩ = some (.slice none 0 0) := (cell_of_row _ _ 1 _ _ _ Hx.out).trans rfl
  have hd8 : decide (8 < (n : Int)) = false := by simp; omega
  go_enter Tryz.func56, Tryz.ntmps56
  go_wp2_with fail
  go_loopw [3] (fun i wr => ∃ k : Nat, k ≤ n ∧ i = .int .i64 k ∧ Hid (Below W.heap.size W wr ∧ ∀ j, j < k → ∀ p q, os[j]? = some (p, q) → validO p q = true)) (fun i _ => n - (intOf i).toNat)
  case atStart => exact ⟨0, Nat.zero_le _, rfl, Below.refl _ _, fun j hj => by omega⟩
  case round =>
    obtain ⟨k, hk, rfl, Hr⟩ := hrel
    have z0 : wr.cell? ⟨w.heap.size, 0, none⟩ = some (.slice a n c) := (Hr.out.1.cell (p := ⟨w.heap.size, 0, none⟩) hs.out).trans x0
    by_cases hlt : k < n
    · obtain ⟨b, off, p, q, rfl, hos, c0, c1⟩ := Hob.out k hlt wr Hr.out.1
      have HV0 := Lib.hid (rvalidO p q wr)
      by_cases hvv : validO p q = true
      · have hval : objC p q = 0 := by unfold objC; rw [if_pos hvv]
        rw [hval] at HV0
        have Hnext : Hid (∀ j, j < k + 1 → ∀ p q, os[j]? = some (p, q) → validO p q = true) := fun j hj p' q' he => by
          by_cases hjk : j < k
          · exact Hr.out.2 j hjk p' q' he
          · have hjk : j = k := by omega
            subst hjk
            rw [hos] at he
            cases he
            exact hvv
        clear hval hvv hos
        go_wp2_with (first | (go_at_call 74; (with_reducible refine HV0.out.mono ?_); rintro e w2 ⟨rfl, h2⟩))
        have Hr2 : Hid (Below W.heap.size W w2) := stepB Hr.out.1 h2.out
        clear Hr h2 c0 c1 HV0
        go_roundw
        case rel => exact ⟨k + 1, by omega, by go_num, Hr2.out, Hnext.out⟩
        case measure => simp [intOf]; omega
      · have hval : objC p q = 109 := by unfold objC; rw [if_neg hvv]
        rw [hval] at HV0
        have Hno := Lib.hid (Hbad.out k p q hos hvv)
        clear hval hvv hos
        go_wp2_with (first
          | (go_at_call 74; (with_reducible refine HV0.out.mono ?_); rintro e w2 ⟨rfl, h2⟩)
          | (go_at_call 75; (with_reducible refine (rplaced 109 k (by decide) _).mono ?_); rintro e w4 ⟨pa, pn, pm, rfl, h4⟩
             have B4 : Hid (Below W.heap.size W w4) := stepB (stepB Hr.out.1 h2.out) h4.out
             obtain ⟨F1, F2, hF1, hF2, ⟨⟨f0, e0⟩, ⟨f1, e1⟩⟩, HF, HE⟩ := box_put2 (w := w) (V := w4) (.int .i64 109) (.slice (some pa) pn pm) (keepB B4.out Hx1.out) Hb0.out.size))
        refine bodyPost_ret (results_row1 rfl _ _ W0.heap.size 78 _ (0, 0) _ rfl HF.out Tryz.underlying78 rfl (by kernel_rfl)) rfl ?_
        exact ⟨109, some pa, pn, pm, rfl, ⟨fun e => absurd e (by decide), fun e => absurd e Hno.out⟩, (stepB Hb.out B4.out).trans HE.out⟩
    · have hkn : k = n := by omega
      subst hkn
      have y1 : wr.cell? ⟨w.heap.size, 1, none⟩ = some (.slice none 0 0) := (Hr.out.1.cell (p := ⟨w.heap.size, 1, none⟩) hs.out).trans x1
      go_wp2_with fail
      refine wp_loop_rounds 1 ?_
      rw [rounds_succ]
      go_wp2_with (first
        | (go_at_call 77; (with_reducible refine (rfine _).mono ?_); rintro e w4 ⟨rfl, h4⟩
           have B4 : Hid (Below W.heap.size W w4) := stepB Hr.out.1 h4.out
           obtain ⟨F1, F2, hF1, hF2, ⟨⟨f0, e0⟩, ⟨f1, e1⟩⟩, HF, HE⟩ := box_put2 (w := w) (V := w4) (.int .i64 0) (.slice none 0 0) (keepB B4.out Hx1.out) Hb0.out.size))
      refine bodyPost_ret (results_row1 rfl _ _ W0.heap.size 78 _ (0, 0) _ rfl HF.out Tryz.underlying78 rfl (by kernel_rfl)) rfl ?_
      exact ⟨0, none, 0, 0, rfl, ⟨fun _ => Hg.out Hr.out.2, fun _ => rfl⟩, (stepB Hb.out B4.out).trans HE.out⟩

theorem rvalid (a : Option Addr) (c : Nat) (os : List (Int × Int)) (w : World) (h : SlAt w a (obs os)) :
    Calls Tryz.prog 56 #[.agg #[.slice a os.length c, .slice none 0 0]] w (FaultRes (os.length ≤ 8 ∧ ∀ o ∈ os, validO o.1 o.2 = true) w) := by
  by_cases hn : os.length ≤ 8
  · refine (rvalid_few a c os hn w h).mono fun e w' hr => ?_
    obtain ⟨c', a', n', m', he, hi, hb⟩ := hr
    exact ⟨c', a', n', m', he, ⟨fun e => ⟨hn, hi.1 e⟩, fun e => hi.2 e.2⟩, hb⟩
  · refine (rvalid_many a os.length c (by omega) w).mono fun e w' hr => ?_
    exact ⟨105, none, 0, 0, hr.1, ⟨fun e => absurd e (by decide), fun e => absurd e.1 hn⟩, hr.2⟩
end Go.Proofs.YtcjfcomadcebnaaGreatDoor

/- The document's stores as they begin. -/
namespace Go.Proofs.YtcjfcomadcebnaaGreatDoor
open Go.RowKit Go.Maps Go.WideMaps Go.WideElems Go.ChangeShapes Go.WideShapes

theorem results_tmp_row {P : Program} {fn : Func} {p u : Tmp} {ty : TypeId} (h : fn.results = #[.tmp u, .cell p ty]) (tmps : Array Value) (w : World) (g : Nat) (t : TypeId) (cs : Array Value) (fr : Nat × Nat) (d : TypeDesc)
    (hp : tmps.getD p undef = .pointer (some ⟨g, 0, none⟩)) (hg : w.heap[g]? = some (.cells cs t fr))
    (hu : P.underlying ty = some d) (hd : (match d with | .struct _ | .array _ _ => true | _ => false) = true) (hi : (P.info? ty).map (·.size) = some cs.size) :
    (results fn tmps).run P w = .ok (.tuple #[tmps.getD u undef, .agg cs]) w := by
  have hp' : tmps[p]?.getD undef = .pointer (some ⟨g, 0, none⟩) := by simpa using hp
  simp only [results, h]
  simp [hp', asAddr, run_loadVar_row w g t ty cs fr d hg hu hd hi, Result.andThen]
/-- A store as it begins. -/
def startS (os : List (Int × Int)) : List PS := os.map fun o => ⟨o.1, o.2, [], []⟩
def std (os : List (Int × Int)) : List Value := os.flatMap fun o => [.int .i64 o.1, .int .i64 o.2, .slice none 0 0, .slice none 0 0]
theorem std_len (os : List (Int × Int)) : (std os).length = os.length * 4 := by
  induction os with
  | nil => rfl
  | cons o os ih => show (_ :: _ :: _ :: _ :: std os).length = _; simp [ih]; omega
theorem std_one (os : List (Int × Int)) : ∀ u ∈ std os, u.oneCell' = true := by
  intro u hu
  obtain ⟨o, _, h⟩ := List.mem_flatMap.1 hu
  simp only [List.mem_cons, List.not_mem_nil, or_false] at h
  rcases h with rfl | rfl | rfl | rfl <;> rfl
theorem std_get : ∀ (os : List (Int × Int)) (k : Nat) (p q : Int), os[k]? = some (p, q) → (std os)[k * 4]? = some (.int .i64 p) ∧ (std os)[k * 4 + 1]? = some (.int .i64 q) ∧ (std os)[k * 4 + 2]? = some (.slice none 0 0) ∧ (std os)[k * 4 + 3]? = some (.slice none 0 0)
  | [], k, p, q, h => by simp at h
  | o :: os, 0, p, q, h => by
    simp at h
    subst h
    exact ⟨rfl, rfl, rfl, rfl⟩
  | o :: os, k + 1, p, q, h => by
    have ih := std_get os k p q (by simpa using h)
    have e : (k + 1) * 4 = k * 4 + 4 := by omega
    rw [e]
    exact ih
theorem std_step (os : List (Int × Int)) (k : Nat) (p q : Int) (h : os[k]? = some (p, q)) : (std os).take ((k + 1) * 4) = (std os).take (k * 4) ++ [.int .i64 p, .int .i64 q, .slice none 0 0, .slice none 0 0] := by
  have hk : k < os.length := (List.getElem?_eq_some_iff.1 h).1
  obtain ⟨a, b, c, d, ⟨h1, h2, h3, h4⟩, e⟩ := four_at (std_len os) hk
  obtain ⟨g1, g2, g3, g4⟩ := std_get os k p q h
  rw [h1] at g1
  rw [h2] at g2
  rw [h3] at g3
  rw [h4] at g4
  cases g1
  cases g2
  cases g3
  cases g4
  exact e
theorem start_ds (W : World) (os : List (Int × Int)) : DsAt W (startS os) (std os) := by
  refine ⟨by rw [std_len]; simp [startS], std_one os, fun i s hs => ?_⟩
  have hs' : (os.map fun o => (⟨o.1, o.2, [], []⟩ : PS))[i]? = some s := hs
  rw [List.getElem?_map] at hs'
  rcases ho : os[i]? with _ | ⟨p, q⟩
  · rw [ho] at hs'; simp at hs'
  · rw [ho] at hs'
    simp at hs'
    subst hs'
    exact ⟨_, _, _, _, std_get os i p q ho, none, 0, none, 0, rfl, .inl rfl, .inl rfl, fun _ => rfl, fun _ => rfl, Nat.le_refl _, Nat.le_refl _⟩

set_option maxHeartbeats 2000000 in
set_option maxRecDepth 100000 in
theorem rnew7_bad (a : Option Addr) (c : Nat) (os : List (Int × Int)) (hbad : ¬ (os.length ≤ 8 ∧ ∀ o ∈ os, validO o.1 o.2 = true)) (w : World) (h : SlAt w a (obs os)) :
    Calls Tryz.prog 35 #[.slice a os.length c] w fun e w' => ∃ (x : Int) (b : Option Addr) (n m : Nat), e = .returned (.tuple #[.slice none 0 0, .agg #[.int .i64 x, .slice b n m]]) ∧ x ≠ 0 ∧ Hid (Below w.heap.size w w') := by
  obtain ⟨W, hW, Hb, hs, Hx⟩ := cells_new w #[.int .i64 0, .slice none 0 0] 78
  have HV := Lib.hid (rvalid a c os W (h.below Hb.out))
  have Hbad := Lib.hid hbad
  clear h hbad
  obtain ⟨n, hn⟩ : ∃ n, os.length = n := ⟨_, rfl⟩
  rw [hn] at HV ⊢
  have Hn := Lib.hid hn
  clear hn
  go_enter Tryz.func35, Tryz.ntmps35
  go_wp2_with (first
    | (go_at_call 56; (with_reducible refine HV.out.mono ?_); rintro e w2 ⟨x, b, n2, m2, rfl, hx, h2⟩
       have Hx0 : Hid (x ≠ 0) := fun e => Hbad.out (by have h9 := hx.1 e; rw [Hn.out]; exact h9)
       have hxb : (x == 0) = false := by simpa using Hx0.out
       clear hx
       have B2 : Hid (Below w.heap.size w w2) := stepB Hb.out h2.out
       obtain ⟨V3, hV3, b3, -, TB⟩ := cells_new w2 #[.int .i64 0, .slice none 0 0] 78
       obtain ⟨F1, F2, hF1, hF2, ⟨⟨f0, e0⟩, ⟨f1, e1⟩⟩, HF, HE⟩ := box_put2 (w := w2) (V := V3) (.int .i64 x) (.slice b n2 m2) TB.out (Nat.le_refl _)
       have BF : Hid (Below w2.heap.size w2 F2) := b3.out.trans HE.out
       have t0 : F2.cell? ⟨w2.heap.size, 0, none⟩ = some (.int .i64 x) := (cell_of_row _ _ 0 _ _ _ HF.out).trans rfl
       have t1 : F2.cell? ⟨w2.heap.size, 1, none⟩ = some (.slice b n2 m2) := (cell_of_row _ _ 1 _ _ _ HF.out).trans rfl
       obtain ⟨G1, G2, hG1, hG2, ⟨⟨g0, d0⟩, ⟨g1, d1⟩⟩, HG, HGE⟩ := box_put2 (w := w) (V := F2.drew) (.int .i64 x) (.slice b n2 m2) (keepD (keepB BF.out (keepB h2.out Hx.out))) (Nat.le_refl _)))
  go_region_with (fail)
  all_goals
    go_wp2_with fail
    refine bodyPost_ret (results_tmp_row rfl _ _ w.heap.size 78 _ (0, 0) _ rfl HG.out Tryz.underlying78 rfl (by kernel_rfl)) rfl ?_
    exact ⟨x, b, n2, m2, rfl, Hx0.out, (stepB B2.out BF.out).drew.trans HGE.out⟩
end Go.Proofs.YtcjfcomadcebnaaGreatDoor

/- Texts built up as bytes, behind '[]byte(s)' too: a row whose frozen mark lies behind its cells. -/
namespace Go.Proofs.YtcjfcomadcebnaaGreatDoor
open Go.RowKit Go.Maps Go.WideMaps Go.WideElems Go.ChangeShapes Go.WideShapes

/-- Bytes as cells. -/
def cs8 (l : List UInt8) : List Value := l.map fun b => Value.int .u8 b.toNat
theorem cs8_len (l : List UInt8) : (cs8 l).length = l.length := by simp [cs8]
theorem cs8_one (l : List UInt8) : ∀ u ∈ cs8 l, u.oneCell' = true := by
  intro u hu
  obtain ⟨b, _, rfl⟩ := List.mem_map.1 hu
  rfl
theorem cs8_str (l : List UInt8) : Lib.strCells ⟨l.toArray⟩ = cs8 l := by simp [Lib.strCells, cs8]
theorem elem5 : (Tryz.prog.info? 5).map (fun i => (i.zero, i.size, i.bytes)) = some (some (.int .u8 0), 1, 1) := by kernel_rfl
/-- A text's row of one's own. -/
def TRow (w : World) (base : Nat) (v : Value) (l : List UInt8) : Prop :=
  ∃ g cap cur fz, v = .slice (some ⟨g, 0, none⟩) l.length cap ∧ base ≤ g ∧ w.heap[g]? = some (.cells cur 5 fz) ∧ (fz.2 = 0 ∨ cur.size ≤ fz.1) ∧ l.length ≤ cap ∧ cap ≤ maxLen ∧ cur.size = cap ∧ cur.toList.take l.length = cs8 l

theorem free_store (P : Program) (g o : Nat) (t : TypeId) (fz : Nat × Nat) : ∀ (vs : List Value) (i : Nat) (cur : Array Value) (w : World), w.heap[g]? = some (.cells cur t fz) → (fz.2 = 0 ∨ cur.size ≤ fz.1) → o + i + vs.length ≤ cur.size → (∀ v ∈ vs, v.oneCell' = true) →
    (storeCells ⟨g, o, none⟩ vs i).run P w = .ok () (w.setRow g (cur.toList.take (o + i) ++ vs ++ cur.toList.drop (o + i + vs.length)).toArray)
  | [], i, cur, w, hg, _, _, _ => by
    simp only [storeCells, List.append_nil, List.length_nil, Nat.add_zero, List.take_append_drop, Array.toArray_toList]
    rw [setRow_self w g cur t fz hg]
    rfl
  | v :: rest, i, cur, w, hg, hfz, hl, h1 => by
    have hi : o + i < cur.size := by simp at hl; omega
    have hadd : (⟨g, o, none⟩ : Addr).add i = ⟨g, o + i, none⟩ := by unfold Addr.add; split <;> simp_all
    have hcell : w.cell? ⟨g, o + i, none⟩ = some cur[o + i] := by simp [World.cell?, hg, hi]
    have hfro : w.frozen? ⟨g, o + i, none⟩ = false := by
      obtain ⟨lo, hi'⟩ := fz
      simp only [World.frozen?, hg, Bool.and_eq_false_iff, decide_eq_false_iff_not]
      simp only at hfz
      omega
    have hst : (store ((⟨g, o, none⟩ : Addr).add i) v).run P w = .ok () (w.setRow g (cur.setIfInBounds (o + i) v)) := by
      rw [hadd, run_store P w _ v _ (h1 v (by simp)), hcell]
      simp [hfro, setCell_eq_setRow w g (o + i) cur t fz v hg]
    have ih := free_store P g o t fz rest (i + 1) (cur.setIfInBounds (o + i) v) (w.setRow g (cur.setIfInBounds (o + i) v)) (setRow_heap w g cur _ t _ hg) (by simpa using hfz) (by simp at hl ⊢; omega) (fun x hx => h1 x (by simp [hx]))
    simp only [storeCells, Sem.run_bind, hst, Result.andThen_ok, ih, setRow_setRow]
    congr 3
    have e := list_seg_step cur.toList (o + i) v rest (by simp at hl ⊢; omega)
    simpa [Array.toList_setIfInBounds, Nat.add_assoc] using e

/-- The row with room, written behind. -/
theorem trow_room {w : World} {base g cap : Nat} {cur : Array Value} {fz : Nat × Nat} {l m : List UInt8} (hb : base ≤ g) (hg : w.heap[g]? = some (.cells cur 5 fz)) (hf : fz.2 = 0 ∨ cur.size ≤ fz.1) (hm : cap ≤ maxLen) (hs : cur.size = cap) (ht : cur.toList.take l.length = cs8 l) (hr : l.length + m.length ≤ cap) :
    TRow (w.setRow g (cur.toList.take l.length ++ cs8 m ++ cur.toList.drop (l.length + m.length)).toArray) base (.slice (some ⟨g, 0, none⟩) (l.length + m.length) cap) (l ++ m) ∧ w.grownBy (w.setRow g (cur.toList.take l.length ++ cs8 m ++ cur.toList.drop (l.length + m.length)).toArray) (some g) := by
  have hsz : (cur.toList.take l.length ++ cs8 m ++ cur.toList.drop (l.length + m.length)).toArray.size = cap := by
    simp only [List.size_toArray, List.length_append, List.length_take, List.length_drop, Array.length_toList, cs8_len]
    omega
  refine ⟨⟨g, cap, _, fz, by rw [List.length_append], hb, setRow_heap w g cur _ 5 _ hg, by rw [hsz, ← hs]; exact hf, by rw [List.length_append]; exact hr, hm, hsz, ?_⟩, ⟨rfl, rfl, rfl, by simp, fun k _ hk => setRow_other w g k _ (fun e => hk (by rw [e]))⟩⟩
  have e : (cs8 l ++ cs8 m).length = (l ++ m).length := by rw [List.length_append, cs8_len, cs8_len, List.length_append]
  have e2 : cs8 (l ++ m) = cs8 l ++ cs8 m := by simp [cs8]
  show List.take _ _ = _
  rw [ht, e2, ← e]
  exact List.take_left
/-- The row grown. -/
theorem trow_grow {w : World} {base old : Nat} {l m : List UInt8} (hb : base ≤ w.heap.size) (h63 : l.length + m.length ≤ maxLen) :
    TRow (w.drew.alloc (.cells ((cs8 l).toArray ++ (cs8 m).toArray ++ Builtin.zeroCells (Value.int .u8 0).cells (grownCap w (l.length + m.length) old 5 - (l.length + m.length))) 5)) base (.slice (some ⟨w.heap.size, 0, none⟩) (l.length + m.length) (grownCap w (l.length + m.length) old 5)) (l ++ m) ∧
    ∀ row, w.grownBy (w.drew.alloc (.cells ((cs8 l).toArray ++ (cs8 m).toArray ++ Builtin.zeroCells (Value.int .u8 0).cells (grownCap w (l.length + m.length) old 5 - (l.length + m.length))) 5)) row := by
  have hge := grownCap_ge w (l.length + m.length) old 5
  have hcm := grownCap_le_maxLen w (l.length + m.length) old 5 h63
  have e : (cs8 l ++ cs8 m).length = (l ++ m).length := by rw [List.length_append, cs8_len, cs8_len, List.length_append]
  have e2 : cs8 (l ++ m) = cs8 l ++ cs8 m := by simp [cs8]
  refine ⟨⟨w.heap.size, _, _, (0, 0), by rw [List.length_append], hb, heap_alloc_new w.drew _, .inl rfl, by rw [List.length_append]; exact hge, hcm, ?_, ?_⟩, fun row => ⟨rfl, rfl, rfl, by simp, fun k hk _ => heap_alloc_old w.drew _ hk⟩⟩
  · have hz1 : (Value.int IntKind.u8 0).cells.size = 1 := rfl
    simp only [Array.size_append, List.size_toArray, size_zeroCells, hz1, cs8_len]
    omega
  · simp only [Array.toList_append, List.append_assoc]
    rw [← List.append_assoc, ← e, e2]
    exact List.take_left
/-- A text put behind. -/
theorem trow_text {w : World} {base : Nat} {v : Value} {l : List UInt8} (ty : TypeId) (h : TRow w base v l) (m : List UInt8) (hlen : l.length + m.length ≤ 1000000000) (hbase : base ≤ w.heap.size) :
    ∃ v' w', (Builtin.append_ #[89, 9] ty #[v, .string ⟨m.toArray⟩]).run Tryz.prog w = .ok v' w' ∧ TRow w' base v' (l ++ m) ∧ w.grownBy w' v.ownBlock := by
  obtain ⟨i, hi, hz0, hz1, hz2⟩ := info_parts elem5
  obtain ⟨g, cap, cur, fz, rfl, hb, hg, hf, hn, hm, hs, ht⟩ := h
  have hms : (⟨m.toArray⟩ : ByteArray).size = m.length := by simp [ByteArray.size]
  by_cases hroom : l.length + m.length ≤ cap
  · have hst := free_store Tryz.prog g l.length 5 fz (cs8 m) 0 cur w hg hf (by rw [cs8_len]; omega) (cs8_one m)
    have hfc := Lib.run_firstCells_string (P := Tryz.prog) w 1 ⟨m.toArray⟩
    simp only [Nat.add_zero, cs8_len, hms, cs8_str] at hst hfc
    obtain ⟨h1, h2⟩ := trow_room (m := m) hb hg hf hm hs ht hroom
    refine ⟨_, _, ?_, h1, h2⟩
    simp [Builtin.append_, run_underlying Tryz.underlying89, run_underlying Tryz.underlying9, sizeOf, typeInfo, hi, hz1, Builtin.lenOf, hms, hroom, hfc, Addr.add_lit, hst]
  · have holds : ∀ j u, (cs8 l)[j]? = some u → w.cell? ((⟨g, 0, none⟩ : Addr).add j) = some u := by
      intro j u hj
      have hadd : (⟨g, 0, none⟩ : Addr).add j = ⟨g, j, none⟩ := by unfold Addr.add; split <;> simp_all
      rw [hadd, cell_of_row w g j cur 5 fz hg]
      rw [← ht, List.getElem?_take] at hj
      split at hj
      · simpa using hj
      · cases hj
    have hr := Lib.run_append_grow_string (P := Tryz.prog) w 89 9 ty 5 i (.int .u8 0) Tryz.underlying89 Tryz.underlying9 hi hz0 ⟨g, 0, none⟩ l.length cap (cs8 l) (by rw [hz1, cs8_len, Nat.mul_one]) holds ⟨m.toArray⟩ (by rw [hms]; omega) (by rw [hms]; omega) (by rw [hms, hz2]; exact growslice_fits (by omega) (by omega))
    rw [hms, cs8_str] at hr
    obtain ⟨h1, h2⟩ := trow_grow (w := w) (old := cap) (l := l) (m := m) hbase (by unfold maxLen; omega)
    exact ⟨_, _, hr, h1, h2 _⟩
/-- Bytes of a slice put behind. -/
theorem trow_bytes {w : World} {base : Nat} {v : Value} {l : List UInt8} (ty : TypeId) (h : TRow w base v l) (m : List UInt8) (a : Addr) (c : Nat) (hnews : ∀ j u, (cs8 m)[j]? = some u → w.cell? (a.add j) = some u) (hlen : l.length + m.length ≤ 1000000000) (hbase : base ≤ w.heap.size) :
    ∃ v' w', (Builtin.append_ #[89, 89] ty #[v, .slice (some a) m.length c]).run Tryz.prog w = .ok v' w' ∧ TRow w' base v' (l ++ m) ∧ w.grownBy w' v.ownBlock := by
  obtain ⟨i, hi, hz0, hz1, hz2⟩ := info_parts elem5
  obtain ⟨g, cap, cur, fz, rfl, hb, hg, hf, hn, hm, hs, ht⟩ := h
  by_cases hroom : l.length + m.length ≤ cap
  · have hst := free_store Tryz.prog g l.length 5 fz (cs8 m) 0 cur w hg hf (by rw [cs8_len]; omega) (cs8_one m)
    have hfc := run_firstCells_some (P := Tryz.prog) w i.size m.length a m.length c (cs8 m) (by rw [hz1, cs8_len, Nat.mul_one]) hnews
    simp only [Nat.add_zero, cs8_len] at hst
    obtain ⟨h1, h2⟩ := trow_room (m := m) hb hg hf hm hs ht hroom
    refine ⟨_, _, ?_, h1, h2⟩
    rw [hz1] at hfc
    simp [Builtin.append_, run_underlying Tryz.underlying89, sizeOf, typeInfo, hi, hz1, Builtin.lenOf, hroom, hfc, Addr.add_lit, hst]
  · have holds : ∀ j u, (cs8 l)[j]? = some u → w.cell? ((⟨g, 0, none⟩ : Addr).add j) = some u := by
      intro j u hj
      have hadd : (⟨g, 0, none⟩ : Addr).add j = ⟨g, j, none⟩ := by unfold Addr.add; split <;> simp_all
      rw [hadd, cell_of_row w g j cur 5 fz hg]
      rw [← ht, List.getElem?_take] at hj
      split at hj
      · simpa using hj
      · cases hj
    have hr := run_append_grow (P := Tryz.prog) w 89 ty 5 i (.int .u8 0) Tryz.underlying89 hi hz0 ⟨g, 0, none⟩ l.length cap (cs8 l) (by rw [hz1, cs8_len, Nat.mul_one]) holds a m.length c (cs8 m) (by rw [hz1, cs8_len, Nat.mul_one]) hnews (by omega) (by omega) (by rw [hz2]; exact growslice_fits (by omega) (by omega))
    obtain ⟨h1, h2⟩ := trow_grow (w := w) (old := cap) (l := l) (m := m) hbase (by unfold maxLen; omega)
    exact ⟨_, _, hr, h1, h2 _⟩
end Go.Proofs.YtcjfcomadcebnaaGreatDoor

/- Texts built up as bytes, in a walk; Print of the document; a state's Key. -/
namespace Go.Proofs.YtcjfcomadcebnaaGreatDoor
open Go.RowKit Go.Maps Go.WideMaps Go.WideElems Go.ChangeShapes Go.WideShapes
variable {T : TypeId} {er : Nat → Addr}

theorem wpList_ttext {ops : Array Oper} {rest : List Oper} {o : Oper} {a : Act} {w : World} {Q : Exit → Act → World → Prop} (hgd : o.guard = none) (sl x : Operand) (ho : o.op = .call { callee := .builtin .append, args := #[sl, x], argTypes := #[89, 9] })
    (base : Nat) (v : Value) (l m : List UInt8) (hs : a.eval sl = v) (h : TRow w base v l) (hx : a.eval x = tv m) (hlen : l.length + m.length ≤ 1000000000) (hbase : base ≤ w.heap.size)
    (k : ∀ v' w', TRow w' base v' (l ++ m) → w.grownBy w' v.ownBlock → wpList Tryz.prog ops Q rest (a.put o.dst v') w') : wpList Tryz.prog ops Q (o :: rest) a w := by
  refine wpList_plain hgd fun K hK => ?_
  obtain ⟨v', w', hr, h2, h3⟩ := trow_text o.type h m hlen hbase
  unfold Oper.wp execOp
  simp only [ho, resolve, invoke, builtin, Sem.run_bind, Sem.run_pure, Result.andThen_ok, List.map_toArray, List.map_cons, List.map_nil, hs, hx]
  rw [show tv m = Value.string ⟨m.toArray⟩ from rfl]
  simp only [hr, Result.andThen_ok]
  exact hK _ _ (k v' w' h2 h3)
theorem wpList_tbytes {ops : Array Oper} {rest : List Oper} {o : Oper} {a : Act} {w : World} {Q : Exit → Act → World → Prop} (hgd : o.guard = none) (sl x : Operand) (ho : o.op = .call { callee := .builtin .append, args := #[sl, x], argTypes := #[89, 89] })
    (base : Nat) (v : Value) (l m : List UInt8) (hs : a.eval sl = v) (h : TRow w base v l) (ad : Addr) (c : Nat) (hx : a.eval x = .slice (some ad) m.length c) (hnews : ∀ j u, (cs8 m)[j]? = some u → w.cell? (ad.add j) = some u) (hlen : l.length + m.length ≤ 1000000000) (hbase : base ≤ w.heap.size)
    (k : ∀ v' w', TRow w' base v' (l ++ m) → w.grownBy w' v.ownBlock → wpList Tryz.prog ops Q rest (a.put o.dst v') w') : wpList Tryz.prog ops Q (o :: rest) a w := by
  refine wpList_plain hgd fun K hK => ?_
  obtain ⟨v', w', hr, h2, h3⟩ := trow_bytes o.type h m ad c hnews hlen hbase
  unfold Oper.wp execOp
  simp only [ho, resolve, invoke, builtin, Sem.run_bind, Sem.run_pure, Result.andThen_ok, List.map_toArray, List.map_cons, List.map_nil, hs, hx, hr]
  exact hK _ _ (k v' w' h2 h3)
theorem TRow.lt {w : World} {base : Nat} {v : Value} {l : List UInt8} (h : TRow w base v l) : ∀ k, v.ownBlock = some k → base ≤ k ∧ k < w.heap.size := by
  obtain ⟨g, cap, cur, fz, rfl, hb, hg, _⟩ := h
  intro k hk
  simp [Value.ownBlock] at hk
  subst hk
  exact ⟨hb, (Array.getElem?_eq_some_iff.1 hg).1⟩
theorem TRow.kept {w w' : World} {base : Nat} {v : Value} {l : List UInt8} (h : TRow w base v l) (hb : Below w.heap.size w w') : TRow w' base v l := by
  obtain ⟨g, cap, cur, fz, hv, h1, hg, h2⟩ := h
  exact ⟨g, cap, cur, fz, hv, h1, keepB hb hg, h2⟩
theorem TRow.alloc {w : World} {base : Nat} {v : Value} {l : List UInt8} (h : TRow w base v l) (o : Obj) : TRow (w.alloc o) base v l := h.kept ((Below.refl _ _).alloc (Nat.le_refl _) o)
/-- '[]byte(s)'. -/
theorem tconv (w : World) (l : List UInt8) (hl : l.length ≤ 1000000) : ∃ v' w', (convert 9 89 (tv l)).run Tryz.prog w = .ok v' w' ∧ TRow w' w.heap.size v' l ∧ Below w.heap.size w w' := by
  have hs : (⟨l.toArray⟩ : ByteArray).size = l.length := by simp [ByteArray.size]
  have hr := Lib.run_convert_string_bytes (P := Tryz.prog) w 9 89 5 ⟨l.toArray⟩ Tryz.underlying9 Tryz.underlying89 (by kernel_rfl)
  have hge := grownCap_ge w l.length 0 5
  have hcm := grownCap_le_maxLen w l.length 0 5 (by unfold maxLen; omega)
  have hsz : (Lib.bytesCells w 5 ⟨l.toArray⟩).size = grownCap w l.length 0 5 := by
    unfold Lib.bytesCells
    rw [hs]
    simp
    omega
  rw [hs] at hr
  refine ⟨_, _, hr, ⟨w.heap.size, _, _, _, rfl, Nat.le_refl _, Lib.bytesWorld_at_new w 5 _, .inr (Nat.le_refl _), hge, hcm, hsz, ?_⟩, Lib.bytesWorld_below w 5 _⟩
  unfold Lib.bytesCells
  rw [hs]
  simp [cs8]
/-- 'string(b)'. -/
theorem tback {w : World} {base : Nat} {v : Value} {l : List UInt8} (h : TRow w base v l) : (convert 89 9 v).run Tryz.prog w = .ok (tv l) w := by
  obtain ⟨g, cap, cur, fz, rfl, hb, hg, hf, hn, hm, hs, ht⟩ := h
  refine run_convert_bytes_back (P := Tryz.prog) w 89 9 5 ⟨g, 0, none⟩ cap l Tryz.underlying89 (by kernel_rfl) Tryz.underlying9 (fun j hj => ?_)
  have hadd : (⟨g, 0, none⟩ : Addr).add j = ⟨g, j, none⟩ := by unfold Addr.add; split <;> simp_all
  rw [hadd, cell_of_row w g j cur 5 fz hg]
  have e : (cs8 l)[j]? = some (.int .u8 (l[j].toNat : Int)) := by simp [cs8, hj]
  rw [← ht, List.getElem?_take, if_pos hj] at e
  simpa using e

theorem rprint_any (n : Int) (h0 : -9223372036854775808 ≤ n) (h1 : n ≤ 9223372036854775807) (w : World) (hG : Glob T er w) :
    Calls Tryz.prog 42 #[.int .i64 n] w fun e w' => e = .returned (tv (Lib.itoa n)) ∧ Hid (Below w.heap.size w w') := by
  have hi : Calls Tryz.prog 62 #[.int .i64 n] w fun e w' => e = .returned (tv (Lib.itoa n)) ∧ Hid (Below w.heap.size w w') := (Tryz.strconv_Itoa n h0 h1 w hG.tab).mono fun e w' ⟨he, k, os, hw⟩ => ⟨he, by show Below _ _ _; rw [hw]; exact Lib.below_grow _ w (Nat.le_refl _) k os⟩
  have Hi := Lib.hid hi
  clear hi h0 h1 hG
  go_enter Tryz.func42, Tryz.ntmps42
  go_wp2_with (first | (go_at_call 62; refine Hi.out.mono ?_; rintro e w' ⟨rfl, hb⟩))
  go_ret
  exact ⟨rfl, hb⟩
end Go.Proofs.YtcjfcomadcebnaaGreatDoor

/- A state's Key, the document's. -/
namespace Go.Proofs.YtcjfcomadcebnaaGreatDoor
open Go.RowKit Go.Maps Go.WideMaps Go.WideElems Go.ChangeShapes Go.WideShapes
variable {T : TypeId} {er : Nat → Addr}

theorem u8_new (w : World) (x : UInt8) : ∀ j u, (cs8 [x])[j]? = some u → (w.alloc (.cells #[.int .u8 x.toNat] 5)).cell? ((⟨w.heap.size, 0, none⟩ : Addr).add j) = some u := World.news_of_block (World.alloc_heap_new w _)

set_option maxRecDepth 100000 in
set_option maxHeartbeats 2000000 in
theorem rkey_num (k n : Int) (hk : k = 1 ∨ k = 2) (h0 : -9223372036854775808 ≤ n) (h1 : n ≤ 9223372036854775807) (K V : Value) (w : World) (hG : Glob T er w) :
    Calls Tryz.prog 13 #[.agg #[.int .i64 k, .int .i64 n, K, V]] w fun e w' => e = .returned (tv (wordL 1 k ++ 32 :: Lib.itoa n)) ∧ Hid (Below w.heap.size w w') := by
  obtain ⟨W, hW, Hb, hs, c0, c1, -, -⟩ := four_new w (.int .i64 k) (.int .i64 n) K V 39
  have HW := Lib.hid (refWord_any 1 k W)
  have HG := Lib.hid (hG.below' Hb.out)
  have C1 := Lib.hid c1
  have C0 := Lib.hid c0
  have hk0 : (k == 0) = false := by rcases hk with rfl | rfl <;> rfl
  have hk2 : k ≤ 2 := by omega
  have Hl : Hid ((wordL 1 k).length ≤ 16) := wordL_len 1 k
  have Hi : Hid ((Lib.itoa n).length ≤ 21) := itoa_len n h0 h1
  have Hn0 := Lib.hid h0
  have Hn1 := Lib.hid h1
  clear hG hk h0 h1
  go_enter Tryz.func13, Tryz.ntmps13
  go_wp2_with (first
    | (go_at_call 41; (with_reducible refine HW.out.mono ?_); rintro e w2 ⟨rfl, h2⟩
       have B2 : Hid (Below w.heap.size w w2) := stepB Hb.out h2.out
       obtain ⟨v3, w3, hcv, hR3, hB3⟩ := tconv w2 (wordL 1 k) (by have := Hl.out; omega)
       have B3 : Hid (Below w2.heap.size w2 w3) := hB3
       have R3 := Lib.hid hR3
       have d0 : w3.cell? ⟨w.heap.size, 0, none⟩ = some (.int .i64 k) := (stepB h2.out hB3).cell (p := ⟨w.heap.size, 0, none⟩) hs.out |>.trans C0.out
       clear hR3 hB3)
    | (at_builtin; refine wpList_tbytes rfl _ _ rfl w2.heap.size v3 (wordL 1 k) [32] rfl (R3.out.alloc _) ⟨w3.heap.size, 0, none⟩ 1 rfl (u8_new _ 32) (by have := Hl.out; simp; omega) (by show _ ≤ _; simp; exact Nat.le_trans B3.out.size (Nat.le_succ _)) ?_
       intro v4 w4 h4 g4
       have B4 : Hid (Below w2.heap.size w2 w4) := (B3.out.alloc B3.out.size _).grown g4 (B3.out.alloc B3.out.size _).size (fun j hj => (R3.out.lt j hj).1)
       have R4 := Lib.hid h4
       have d1 : w4.cell? ⟨w.heap.size, 1, none⟩ = some (.int .i64 n) := (stepB h2.out B4.out).cell (p := ⟨w.heap.size, 1, none⟩) hs.out |>.trans C1.out
       clear h4 g4)
    | (go_at_call 42; (with_reducible refine (rprint_any n Hn0.out Hn1.out w4 ((HG.out.below' h2.out).below' B4.out)).mono ?_); rintro e w5 ⟨rfl, h5⟩)
    | (at_builtin; refine wpList_ttext rfl _ _ rfl w2.heap.size v4 (wordL 1 k ++ [32]) (Lib.itoa n) rfl (R4.out.kept h5.out) rfl (by have := Hl.out; have := Hi.out; simp; omega) (Nat.le_trans B4.out.size h5.out.size) ?_
       intro v6 w6 h6 g6
       have B6 : Hid (Below w2.heap.size w2 w6) := (stepB B4.out h5.out).grown g6 (stepB B4.out h5.out).size (fun j hj => (R4.out.lt j hj).1)
       have hcb := tback h6
       clear h6 g6))
  go_ret
  refine ⟨?_, stepB B2.out B6.out⟩
  show Ending.returned (tv _) = _
  simp
end Go.Proofs.YtcjfcomadcebnaaGreatDoor

/- Key of the document's queues and maps. -/
namespace Go.Proofs.YtcjfcomadcebnaaGreatDoor
open Go.RowKit Go.Maps Go.WideMaps Go.WideElems Go.ChangeShapes Go.WideShapes
variable {T : TypeId} {er : Nat → Addr}

theorem qtext_step (vs : List Int) (j : Nat) (hj : j < vs.length) : qtext (vs.take (j + 1)) = qtext (vs.take j) ++ 32 :: Lib.itoa (vs[j]?.getD 0) := by
  rw [List.take_succ_eq_append_getElem hj, qtext_app]
  simp [hj, qtext]
theorem mtext_snoc (l : List (Int × Int)) (p : Int × Int) : mtext (l ++ [p]) = mtext l ++ 32 :: item p := by
  induction l with
  | nil => simp [mtext]
  | cons a l ih => simp [mtext, ih]
theorem mtext_step (l : List (Int × Int)) (j : Nat) (hj : j < l.length) : mtext (l.take (j + 1)) = mtext (l.take j) ++ 32 :: (Lib.itoa ((l.map (·.1))[j]?.getD 0) ++ 58 :: Lib.itoa ((l.map (·.2))[j]?.getD 0)) := by
  rw [List.take_succ_eq_append_getElem hj, mtext_snoc]
  simp [hj, item]
theorem iat_cell {W : World} {a : Option Addr} {zs : List Int} {j : Nat} (h : IAt W a zs) (hj : j < zs.length) : ∃ b off, a = some ⟨b, off, none⟩ ∧ b < W.heap.size ∧ W.cell? ⟨b, off + j, none⟩ = some (.int .i64 (zs[j]?.getD 0)) := by
  rcases h with h | ⟨b, off, e, hc⟩
  · rw [h] at hj; simp at hj
  · exact ⟨b, off, e, World.block_lt_of_cell? W _ (hc j hj), hc j hj⟩
theorem itoa_21 {n : Int} (h : -1000000000 ≤ n ∧ n ≤ 1000000000) : (Lib.itoa n).length ≤ 21 := itoa_len n (by omega) (by omega)

set_option maxRecDepth 100000 in
set_option maxHeartbeats 4000000 in
theorem rkey_queue (n : Int) (vs : List Int) (K : Value) (va : Option Addr) (vc : Nat) (hlen : vs.length ≤ 100000) (w : World) (hva : IAt w va vs) (hvb : ∀ x ∈ vs, -1000000000 ≤ x ∧ x ≤ 1000000000) (hG : Glob T er w) :
    Calls Tryz.prog 13 #[.agg #[.int .i64 3, .int .i64 n, K, .slice va vs.length vc]] w fun e w' => e = .returned (tv (wordL 1 3 ++ qtext vs)) ∧ Hid (Below w.heap.size w w') := by
  obtain ⟨nv, hnv⟩ : ∃ m, vs.length = m := ⟨_, rfl⟩
  obtain ⟨W, hW, Hb, hs, c0, -, c2, c3⟩ := four_new w (.int .i64 3) (.int .i64 n) K (.slice va vs.length vc) 39
  have HW := Lib.hid (refWord_any 1 3 W)
  have HG := Lib.hid (hG.below' Hb.out)
  have C0 := Lib.hid c0
  have C2 := Lib.hid c2
  rw [hnv] at hW c3 hlen ⊢
  have C3 := Lib.hid c3
  have Hnv := Lib.hid hnv
  have Hva := Lib.hid (hva.below Hb.out)
  have Hvb := Lib.hid hvb
  have Hlen : Hid (nv ≤ 100000) := hlen
  have Hl : Hid ((wordL 1 3).length ≤ 16) := wordL_len 1 3
  have Hbulk : Hid (∀ j, j ≤ nv → (qtext (vs.take j)).length ≤ 44 * 100000) := by
    intro j hj
    have h9 := qtext_len (l := vs.take j) (fun p hp => by
      have h2 := hvb p (List.mem_of_mem_take hp)
      omega)
    rw [List.length_take] at h9
    omega
  clear hG hva hvb hnv c2 c3
  go_enter Tryz.func13, Tryz.ntmps13
  go_wp2_with (first
    | (go_at_call 41; (with_reducible refine HW.out.mono ?_); rintro e w2 ⟨rfl, h2⟩
       have B2 : Hid (Below w.heap.size w w2) := stepB Hb.out h2.out
       obtain ⟨v3, w3, hcv, hR3, hB3⟩ := tconv w2 (wordL 1 3) (by have := Hl.out; omega)
       have B3 : Hid (Below w2.heap.size w2 w3) := hB3
       have R3 := Lib.hid hR3
       have d0 : w3.cell? ⟨w.heap.size, 0, none⟩ = some (.int .i64 3) := (stepB h2.out hB3).cell (p := ⟨w.heap.size, 0, none⟩) hs.out |>.trans C0.out
       clear hR3 hB3))
  go_loopw [3, 4] (fun v i wr => ∃ j : Nat, j ≤ nv ∧ i = .int .i64 j ∧ Hid (TRow wr w2.heap.size v (wordL 1 3 ++ qtext (vs.take j))) ∧ Hid (Below w2.heap.size w2 wr)) (fun _ i _ => nv - (intOf i).toNat)
  case atStart => exact ⟨0, Nat.zero_le _, rfl, by show TRow _ _ _ _; simpa [qtext] using R3.out, B3.out⟩
  case round =>
    obtain ⟨j, hj, rfl, Hown, Ho⟩ := hrel
    obtain ⟨v, hv⟩ : ∃ v, u3 = v := ⟨_, rfl⟩
    rw [hv] at Hown ⊢
    clear hv
    have BW : Hid (Below W.heap.size W wr) := stepB h2.out Ho.out
    have y3 : wr.cell? ⟨w.heap.size, 3, none⟩ = some (.slice va nv vc) := (BW.out.cell (p := ⟨w.heap.size, 3, none⟩) hs.out).trans C3.out
    by_cases hlt2 : j < nv
    · have Step := Lib.hid (qtext_step vs j (by rw [Hnv.out]; exact hlt2))
      obtain ⟨b, off, rfl, hbl, hcell⟩ := iat_cell (j := j) Hva.out (by rw [Hnv.out]; exact hlt2)
      have HVr := Hvb.out (vs[j]?.getD 0) (by
        have hj2 : j < vs.length := by rw [Hnv.out]; exact hlt2
        rw [List.getElem?_eq_getElem hj2]
        exact List.getElem_mem hj2)
      generalize vs[j]?.getD 0 = x at *
      have Hx : Hid (-1000000000 ≤ x ∧ x ≤ 1000000000) := HVr
      have VC : Hid (b < W.heap.size ∧ W.cell? ⟨b, off + j, none⟩ = some (.int .i64 x)) := ⟨hbl, hcell⟩
      have Hpre : Hid ((wordL 1 3 ++ qtext (vs.take j)).length ≤ 5000000) := by
        have h1 := Hl.out
        have h2 := Hbulk.out j hj
        show _ ≤ _
        rw [List.length_append]; omega
      obtain ⟨pre, hpre⟩ : ∃ p, wordL 1 3 ++ qtext (vs.take j) = p := ⟨_, rfl⟩
      rw [hpre] at Hown Hpre
      have HP := Lib.hid hpre
      clear HVr hbl hcell hpre
      have hk4 : ((3 : Int) == 4) = false := rfl
      go_wp2_with (first
        | (at_builtin; refine wpList_tbytes rfl _ _ rfl w2.heap.size v pre [32] rfl (Hown.out.alloc _) ⟨wr.heap.size, 0, none⟩ 1 rfl (u8_new _ 32) (by have := Hpre.out; simp; omega) (by show _ ≤ _; simp; exact Nat.le_trans Ho.out.size (Nat.le_succ _)) ?_
           intro v4 w4 h4 g4
           have B4 : Hid (Below w2.heap.size w2 w4) := (Ho.out.alloc Ho.out.size _).grown g4 (Ho.out.alloc Ho.out.size _).size (fun j hj => (Hown.out.lt j hj).1)
           have R4 := Lib.hid h4
           have BW4 : Hid (Below W.heap.size W w4) := stepB h2.out B4.out
           have z0 : w4.cell? ⟨w.heap.size, 0, none⟩ = some (.int .i64 3) := (BW4.out.cell (p := ⟨w.heap.size, 0, none⟩) hs.out).trans C0.out
           have z3 : w4.cell? ⟨w.heap.size, 3, none⟩ = some (.slice (some ⟨b, off, none⟩) nv vc) := (BW4.out.cell (p := ⟨w.heap.size, 3, none⟩) hs.out).trans C3.out
           have zv : w4.cell? ⟨b, off + j, none⟩ = some (.int .i64 x) := (BW4.out.cell (p := ⟨b, off + j, none⟩) VC.out.1).trans VC.out.2
           clear h4 g4)
        | (go_at_call 42; (with_reducible refine (rprint_any x (by have := Hx.out; omega) (by have := Hx.out; omega) w4 (HG.out.below' BW4.out)).mono ?_); rintro e w5 ⟨rfl, h5⟩)
        | (at_builtin; refine wpList_ttext rfl _ _ rfl w2.heap.size v4 (pre ++ [32]) (Lib.itoa x) rfl (R4.out.kept h5.out) rfl (by have := Hpre.out; have := itoa_21 Hx.out; simp; omega) (Nat.le_trans B4.out.size h5.out.size) ?_
           intro v9 w9 h9 g9
           have B9 : Hid (Below w2.heap.size w2 w9) := (stepB B4.out h5.out).grown g9 (stepB B4.out h5.out).size (fun j hj => (R4.out.lt j hj).1)
           have R9 := Lib.hid h9
           clear h9 g9))
      have R10 : Hid (TRow w9 w2.heap.size v9 (wordL 1 3 ++ qtext (vs.take (j + 1)))) := by
        have e : wordL 1 3 ++ qtext (vs.take (j + 1)) = pre ++ [32] ++ Lib.itoa x := by rw [Step.out, ← HP.out]; simp
        show TRow _ _ _ _
        rw [e]; exact R9.out
      go_roundw
      case rel => exact ⟨j + 1, by omega, by go_num, R10.out, B9.out⟩
      case measure => simp [intOf]; omega
    · have hjn : j = nv := by omega
      have hcb := tback Hown.out
      go_wp2_with fail
      go_ret
      refine ⟨?_, stepB B2.out Ho.out⟩
      show Ending.returned (tv _) = _
      rw [List.take_of_length_le (by rw [Hnv.out]; exact Nat.le_refl _)]
end Go.Proofs.YtcjfcomadcebnaaGreatDoor

/- Key of the document's maps. -/
namespace Go.Proofs.YtcjfcomadcebnaaGreatDoor
open Go.RowKit Go.Maps Go.WideMaps Go.WideElems Go.ChangeShapes Go.WideShapes
variable {T : TypeId} {er : Nat → Addr}


set_option maxRecDepth 100000 in
set_option maxHeartbeats 4000000 in
theorem rkey_map (n : Int) (l : List (Int × Int)) (ka : Option Addr) (kc : Nat) (va : Option Addr) (vc : Nat) (hlen : l.length ≤ 100000) (w : World) (hka : IAt w ka (l.map (·.1))) (hkb : ∀ x ∈ l.map (·.1), -1000000000 ≤ x ∧ x ≤ 1000000000) (hva : IAt w va (l.map (·.2))) (hvb : ∀ x ∈ (l.map (·.2)), -1000000000 ≤ x ∧ x ≤ 1000000000) (hG : Glob T er w) :
    Calls Tryz.prog 13 #[.agg #[.int .i64 4, .int .i64 n, (.slice ka l.length kc), .slice va l.length vc]] w fun e w' => e = .returned (tv (wordL 1 4 ++ mtext l)) ∧ Hid (Below w.heap.size w w') := by
  obtain ⟨nv, hnv⟩ : ∃ m, l.length = m := ⟨_, rfl⟩
  obtain ⟨W, hW, Hb, hs, c0, -, c2, c3⟩ := four_new w (.int .i64 4) (.int .i64 n) (.slice ka l.length kc) (.slice va l.length vc) 39
  have HW := Lib.hid (refWord_any 1 4 W)
  have HG := Lib.hid (hG.below' Hb.out)
  have C0 := Lib.hid c0
  have C2 := Lib.hid c2
  rw [hnv] at hW c3 hlen ⊢
  rw [hnv] at C2
  have C3 := Lib.hid c3
  have Hnv := Lib.hid hnv
  have Hva := Lib.hid (hva.below Hb.out)
  have Hvb := Lib.hid hvb
  have Hka := Lib.hid (hka.below Hb.out)
  have Hkb := Lib.hid hkb
  have Hlen : Hid (nv ≤ 100000) := hlen
  have Hl : Hid ((wordL 1 4).length ≤ 16) := wordL_len 1 4
  have Hbulk : Hid (∀ j, j ≤ nv → (mtext (l.take j)).length ≤ 44 * 100000) := by
    intro j hj
    have h9 := mtext_len (l := l.take j) (fun p hp => by
      have hp2 := List.mem_of_mem_take hp
      have h1 := hkb p.1 (List.mem_map.2 ⟨p, hp2, rfl⟩)
      have h2 := hvb p.2 (List.mem_map.2 ⟨p, hp2, rfl⟩)
      omega)
    rw [List.length_take] at h9
    omega
  clear hG hva hvb hnv c2 c3 hka hkb
  go_enter Tryz.func13, Tryz.ntmps13
  go_wp2_with (first
    | (go_at_call 41; (with_reducible refine HW.out.mono ?_); rintro e w2 ⟨rfl, h2⟩
       have B2 : Hid (Below w.heap.size w w2) := stepB Hb.out h2.out
       obtain ⟨v3, w3, hcv, hR3, hB3⟩ := tconv w2 (wordL 1 4) (by have := Hl.out; omega)
       have B3 : Hid (Below w2.heap.size w2 w3) := hB3
       have R3 := Lib.hid hR3
       have d0 : w3.cell? ⟨w.heap.size, 0, none⟩ = some (.int .i64 4) := (stepB h2.out hB3).cell (p := ⟨w.heap.size, 0, none⟩) hs.out |>.trans C0.out
       clear hR3 hB3))
  go_loopw [3, 4] (fun v i wr => ∃ j : Nat, j ≤ nv ∧ i = .int .i64 j ∧ Hid (TRow wr w2.heap.size v (wordL 1 4 ++ mtext (l.take j))) ∧ Hid (Below w2.heap.size w2 wr)) (fun _ i _ => nv - (intOf i).toNat)
  case atStart => exact ⟨0, Nat.zero_le _, rfl, by show TRow _ _ _ _; simpa [mtext] using R3.out, B3.out⟩
  case round =>
    obtain ⟨j, hj, rfl, Hown, Ho⟩ := hrel
    obtain ⟨v, hv⟩ : ∃ v, u3 = v := ⟨_, rfl⟩
    rw [hv] at Hown ⊢
    clear hv
    have BW : Hid (Below W.heap.size W wr) := stepB h2.out Ho.out
    have y3 : wr.cell? ⟨w.heap.size, 3, none⟩ = some (.slice va nv vc) := (BW.out.cell (p := ⟨w.heap.size, 3, none⟩) hs.out).trans C3.out
    by_cases hlt2 : j < nv
    · have Step := Lib.hid (mtext_step l j (by rw [Hnv.out]; exact hlt2))
      obtain ⟨b, off, rfl, hbl, hcell⟩ := iat_cell (j := j) Hva.out (by rw [List.length_map, Hnv.out]; exact hlt2)
      have HVr := Hvb.out ((l.map (·.2))[j]?.getD 0) (by
        have hj2 : j < (l.map (·.2)).length := by rw [List.length_map, Hnv.out]; exact hlt2
        rw [List.getElem?_eq_getElem hj2]
        exact List.getElem_mem hj2)
      obtain ⟨kb, koff, rfl, hkl, hkcell⟩ := iat_cell (j := j) Hka.out (by rw [List.length_map, Hnv.out]; exact hlt2)
      have HKr := Hkb.out ((l.map (·.1))[j]?.getD 0) (by
        have hj2 : j < (l.map (·.1)).length := by rw [List.length_map, Hnv.out]; exact hlt2
        rw [List.getElem?_eq_getElem hj2]
        exact List.getElem_mem hj2)
      generalize (l.map (·.1))[j]?.getD 0 = kx at *
      have HKx : Hid (-1000000000 ≤ kx ∧ kx ≤ 1000000000) := HKr
      have KC : Hid (kb < W.heap.size ∧ W.cell? ⟨kb, koff + j, none⟩ = some (.int .i64 kx)) := ⟨hkl, hkcell⟩
      clear HKr hkl hkcell
      generalize (l.map (·.2))[j]?.getD 0 = x at *
      have Hx : Hid (-1000000000 ≤ x ∧ x ≤ 1000000000) := HVr
      have VC : Hid (b < W.heap.size ∧ W.cell? ⟨b, off + j, none⟩ = some (.int .i64 x)) := ⟨hbl, hcell⟩
      have Hpre : Hid ((wordL 1 4 ++ mtext (l.take j)).length ≤ 5000000) := by
        have h1 := Hl.out
        have h2 := Hbulk.out j hj
        show _ ≤ _
        rw [List.length_append]; omega
      obtain ⟨pre, hpre⟩ : ∃ p, wordL 1 4 ++ mtext (l.take j) = p := ⟨_, rfl⟩
      rw [hpre] at Hown Hpre
      have HP := Lib.hid hpre
      clear HVr hbl hcell hpre
      have hk4 : ((4 : Int) == 4) = true := rfl
      go_wp2_with (first
        | (at_builtin; refine wpList_tbytes rfl _ _ rfl w2.heap.size v pre [32] rfl (Hown.out.alloc _) ⟨wr.heap.size, 0, none⟩ 1 rfl (u8_new _ 32) (by have := Hpre.out; simp; omega) (by show _ ≤ _; simp; exact Nat.le_trans Ho.out.size (Nat.le_succ _)) ?_
           intro v4 w4 h4 g4
           have B4 : Hid (Below w2.heap.size w2 w4) := (Ho.out.alloc Ho.out.size _).grown g4 (Ho.out.alloc Ho.out.size _).size (fun j hj => (Hown.out.lt j hj).1)
           have R4 := Lib.hid h4
           have BW4 : Hid (Below W.heap.size W w4) := stepB h2.out B4.out
           have z0 : w4.cell? ⟨w.heap.size, 0, none⟩ = some (.int .i64 4) := (BW4.out.cell (p := ⟨w.heap.size, 0, none⟩) hs.out).trans C0.out
           have z2 : w4.cell? ⟨w.heap.size, 2, none⟩ = some (.slice (some ⟨kb, koff, none⟩) nv kc) := (BW4.out.cell (p := ⟨w.heap.size, 2, none⟩) hs.out).trans C2.out
           have zk : w4.cell? ⟨kb, koff + j, none⟩ = some (.int .i64 kx) := (BW4.out.cell (p := ⟨kb, koff + j, none⟩) KC.out.1).trans KC.out.2
           clear h4 g4)
        | (go_at_call 42; (with_reducible refine (rprint_any kx (by have := HKx.out; omega) (by have := HKx.out; omega) w4 (HG.out.below' BW4.out)).mono ?_); rintro e w5 ⟨rfl, h5⟩)
        | (at_builtin; refine wpList_ttext rfl _ _ rfl w2.heap.size v4 (pre ++ [32]) (Lib.itoa kx) rfl (R4.out.kept h5.out) rfl (by have := Hpre.out; have := itoa_21 HKx.out; simp; omega) (Nat.le_trans B4.out.size h5.out.size) ?_
           intro v6 w6 h6 g6
           have B6 : Hid (Below w2.heap.size w2 w6) := (stepB B4.out h5.out).grown g6 (stepB B4.out h5.out).size (fun j hj => (R4.out.lt j hj).1)
           have R6 := Lib.hid h6
           clear h6 g6)
        | (at_builtin; refine wpList_tbytes rfl _ _ rfl w2.heap.size v6 (pre ++ [32] ++ Lib.itoa kx) [58] rfl (R6.out.alloc _) ⟨w6.heap.size, 0, none⟩ 1 rfl (u8_new _ 58) (by have := Hpre.out; have := itoa_21 HKx.out; simp; omega) (by show _ ≤ _; simp; exact Nat.le_trans B6.out.size (Nat.le_succ _)) ?_
           intro v7 w7 h7 g7
           have B7 : Hid (Below w2.heap.size w2 w7) := (B6.out.alloc B6.out.size _).grown g7 (B6.out.alloc B6.out.size _).size (fun j hj => (R6.out.lt j hj).1)
           have R7 := Lib.hid h7
           have BW7 : Hid (Below W.heap.size W w7) := stepB h2.out B7.out
           have z3 : w7.cell? ⟨w.heap.size, 3, none⟩ = some (.slice (some ⟨b, off, none⟩) nv vc) := (BW7.out.cell (p := ⟨w.heap.size, 3, none⟩) hs.out).trans C3.out
           have zv : w7.cell? ⟨b, off + j, none⟩ = some (.int .i64 x) := (BW7.out.cell (p := ⟨b, off + j, none⟩) VC.out.1).trans VC.out.2
           clear h7 g7)
        | (go_at_call 42; (with_reducible refine (rprint_any x (by have := Hx.out; omega) (by have := Hx.out; omega) w7 (HG.out.below' BW7.out)).mono ?_); rintro e w8 ⟨rfl, h8⟩)
        | (at_builtin; refine wpList_ttext rfl _ _ rfl w2.heap.size v7 (pre ++ [32] ++ Lib.itoa kx ++ [58]) (Lib.itoa x) rfl (R7.out.kept h8.out) rfl (by have := Hpre.out; have := itoa_21 HKx.out; have := itoa_21 Hx.out; simp; omega) (Nat.le_trans B7.out.size h8.out.size) ?_
           intro v9 w9 h9 g9
           have B9 : Hid (Below w2.heap.size w2 w9) := (stepB B7.out h8.out).grown g9 (stepB B7.out h8.out).size (fun j hj => (R7.out.lt j hj).1)
           have R9 := Lib.hid h9
           clear h9 g9))
      have R10 : Hid (TRow w9 w2.heap.size v9 (wordL 1 4 ++ mtext (l.take (j + 1)))) := by
        have e : wordL 1 4 ++ mtext (l.take (j + 1)) = pre ++ [32] ++ Lib.itoa kx ++ [58] ++ Lib.itoa x := by rw [Step.out, ← HP.out]; simp
        show TRow _ _ _ _
        rw [e]; exact R9.out
      go_roundw
      case rel => exact ⟨j + 1, by omega, by go_num, R10.out, B9.out⟩
      case measure => simp [intOf]; omega
    · have hjn : j = nv := by omega
      have hcb := tback Hown.out
      go_wp2_with fail
      go_ret
      refine ⟨?_, stepB B2.out Ho.out⟩
      show Ending.returned (tv _) = _
      rw [List.take_of_length_le (by rw [Hnv.out]; exact Nat.le_refl _)]
end Go.Proofs.YtcjfcomadcebnaaGreatDoor

/- Key of the document's states, of any. -/
namespace Go.Proofs.YtcjfcomadcebnaaGreatDoor
open Go.RowKit Go.Maps Go.WideMaps Go.WideElems Go.ChangeShapes Go.WideShapes
variable {T : TypeId} {er : Nat → Addr}

set_option maxRecDepth 100000 in
set_option maxHeartbeats 1000000 in
theorem rkey_zero (w : World) : Calls Tryz.prog 13 #[.agg dz] w fun e w' => e = .returned (tv []) ∧ Hid (Below w.heap.size w w') := by
  obtain ⟨W, hW, Hb, hs, c0, -, -, -⟩ := four_new w (.int .i64 0) (.int .i64 0) (.slice none 0 0) (.slice none 0 0) 39
  go_enter Tryz.func13, Tryz.ntmps13
  go_wp2_with fail
  go_ret
  exact ⟨rfl, Hb.out⟩

theorem rkey_any (s : PS) (b : Nat) (hb : b ≤ 90000) (h : s.Ok b) (v : Value) (w : World) (hv : DAt w s v) (hG : Glob T er w) : Calls Tryz.prog 13 #[v] w fun e w' => e = .returned (tv (kS (stP s))) ∧ Hid (Below w.heap.size w w') := by
  obtain ⟨ka, kc, va, vc, rfl, iK, iV, -, -, lK, lV⟩ := hv
  have hk := h.kind
  have hn := ok_near h
  unfold near at hn
  have hkk : (s.kind = 1 ∨ s.kind = 2) ∨ s.kind = 3 ∨ s.kind = 4 := by omega
  have hlen := ok_valsD h
  have hkl := ok_kvs h
  unfold kS stP keyT
  rcases hkk with hs | hs | hs
  · refine (rkey_num s.kind s.n hs (by omega) (by omega) _ _ w hG).mono ?_
    rintro e w' ⟨rfl, hb⟩
    exact ⟨by rw [if_pos hs], hb⟩
  · have hks := h.ks (by omega)
    have eV : valsD s = s.vals := by unfold valsD; rw [hks]; simp
    rw [eV] at iV hlen ⊢
    have h9 := rkey_queue s.n s.vals (.slice ka (s.kvs.map (·.1)).length kc) va vc (by omega) w iV (fun x hx => h.vb x hx) hG
    rw [hs]
    refine h9.mono ?_
    rintro e w' ⟨rfl, hb⟩
    refine ⟨?_, hb⟩
    rw [if_neg (by show ¬ ((3 : Int) = 1 ∨ (3 : Int) = 2); decide)]
    unfold PS.text
    rw [hks]
    simp [mtext]
  · have hvs := h.vs (by omega)
    have eV : valsD s = s.kvs.map (·.2) := by unfold valsD; rw [hvs]; rfl
    rw [eV] at iV ⊢
    have h9 := rkey_map s.n s.kvs ka kc va vc (by omega) w iK (fun x hx => by
      obtain ⟨p, hp, rfl⟩ := List.mem_map.1 hx
      have := (h.kb p hp).1
      omega) iV (fun x hx => by
      obtain ⟨p, hp, rfl⟩ := List.mem_map.1 hx
      exact (h.kb p hp).2) hG
    rw [hs, List.length_map, List.length_map]
    refine h9.mono ?_
    rintro e w' ⟨rfl, hb⟩
    refine ⟨?_, hb⟩
    rw [if_neg (by show ¬ ((4 : Int) = 1 ∨ (4 : Int) = 2); decide)]
    unfold PS.text
    rw [hvs]
    simp [qtext]
end Go.Proofs.YtcjfcomadcebnaaGreatDoor

/- Key of the document's stores. -/
namespace Go.Proofs.YtcjfcomadcebnaaGreatDoor
open Go.RowKit Go.Maps Go.WideMaps Go.WideElems Go.ChangeShapes Go.WideShapes
variable {T : TypeId} {er : Nat → Addr}

theorem join_snoc (y : List UInt8) (r : List (List UInt8)) (x sep : List UInt8) : Lib.join ((y :: r) ++ [x]) sep = Lib.join (y :: r) sep ++ sep ++ x := by
  rw [List.cons_append, Lib.join_cons, Lib.join_cons]
  simp [Lib.joinTail]
theorem join_step (K : List (List UInt8)) (j : Nat) (hj : j < K.length) : Lib.join (K.take (j + 1)) [59, 32] = (if j = 0 then [] else Lib.join (K.take j) [59, 32] ++ [59, 32]) ++ K[j]?.getD [] := by
  rw [List.take_succ_eq_append_getElem hj]
  have e : K[j]?.getD [] = K[j] := by simp [hj]
  rw [e]
  by_cases h0 : j = 0
  · subst h0
    rw [if_pos rfl]
    simp [Lib.join_one]
  · rw [if_neg h0]
    rcases hk : K.take j with _ | ⟨y, r⟩
    · have h5 : min j K.length = 0 := by rw [← List.length_take, hk]; rfl
      omega
    · exact join_snoc y r _ _
theorem join_bulk (K : List (List UInt8)) (h : ∀ x ∈ K, x.length ≤ 1000100) : ∀ j, j ≤ K.length → (Lib.join (K.take j) [59, 32]).length ≤ 1000102 * j
  | 0, _ => by simp [Lib.join_nil]
  | j + 1, hj => by
    have ih := join_bulk K h j (by omega)
    rw [join_step K j (by omega), List.length_append]
    have e : (K[j]?.getD []).length ≤ 1000100 := by
      rw [List.getElem?_eq_getElem (by omega)]
      exact h _ (List.getElem_mem _)
    split
    · simp; omega
    · rw [List.length_append]; simp; omega
/-- 'string(b)', of an ordinary row or none. -/
theorem oback {w : World} {base : Nat} {v : Value} {l : List UInt8} (h : w.ownsRow base 5 1 v l.length (cs8 l)) : (convert 89 9 v).run Tryz.prog w = .ok (tv l) w := by
  rcases h.2 with ⟨rfl, h0⟩ | ⟨g, cap, cur, rfl, hb, hg, hn, hm, hs, ht⟩
  · have hl : l = [] := List.eq_nil_of_length_eq_zero h0
    subst hl
    exact run_convert_bytes_nil w 89 5 Tryz.underlying89 (by kernel_rfl) 0 0 9 Tryz.underlying9
  · exact tback ⟨g, cap, cur, (0, 0), rfl, hb, hg, .inl rfl, hn, hm, by simpa using hs, by simpa using ht⟩
theorem wpList_otext {ops : Array Oper} {rest : List Oper} {o : Oper} {a : Act} {w : World} {Q : Exit → Act → World → Prop} (hgd : o.guard = none) (sl x : Operand) (ho : o.op = .call { callee := .builtin .append, args := #[sl, x], argTypes := #[89, 9] })
    (base : Nat) (v : Value) (l m : List UInt8) (hs : a.eval sl = v) (h : w.ownsRow base 5 1 v l.length (cs8 l)) (hx : a.eval x = tv m) (hlen : l.length + m.length ≤ 1000000000) (hbase : base ≤ w.heap.size)
    (k : ∀ v' w', w'.ownsRow base 5 1 v' (l ++ m).length (cs8 (l ++ m)) → w.grownBy w' v.ownBlock → wpList Tryz.prog ops Q rest (a.put o.dst v') w') : wpList Tryz.prog ops Q (o :: rest) a w := by
  obtain ⟨i0, hi, hz0, hz1, hz2⟩ := info_parts elem5
  have hms : (⟨m.toArray⟩ : ByteArray).size = m.length := by simp [ByteArray.size]
  refine Lib.wpList_append_own_string (P := Tryz.prog) w hgd sl x 89 9 ho base 5 i0 Tryz.underlying89 Tryz.underlying9 hi hz0 hz1 hz2 v l.length (cs8 l) hs h ⟨m.toArray⟩ hx (by rw [hms]; unfold maxLen; omega) (by rw [hms]; omega) hbase (fun v' w' h1 h2 _ => k v' w' ?_ h2)
  rw [hms, cs8_str] at h1
  have e : cs8 (l ++ m) = cs8 l ++ cs8 m := by simp [cs8]
  rw [e, List.length_append]
  exact h1
theorem ok_tells {s : PS} {b : Nat} (hb : b ≤ 40000) (h : s.Ok b) : Tells (stP s) := by
  have hn := ok_near h
  unfold near at hn
  have h1 := ok_qlen h
  have h2 := ok_kvs h
  have h3 := mtext_len (l := s.kvs) (fun p hp => by
    have h4 := h.kb p hp
    unfold near at h4
    omega)
  refine ⟨⟨by show _ ≤ s.n; omega, by show s.n ≤ _; omega⟩, ?_⟩
  show (qtext s.vals ++ mtext s.kvs).length ≤ _
  rw [List.length_append]
  omega

set_option maxRecDepth 100000 in
set_option maxHeartbeats 2000000 in
theorem rkey7 (S : List PS) (bk : Nat) (hb : bk ≤ 40000) (hS : OkS S bk) (hl : S.length ≤ 100) (v0 : Value) (w : World) (h : SAt w S v0) (hG : Glob T er w) :
    Calls Tryz.prog 60 #[v0] w fun e w' => e = .returned (tv (keyS (S.map stP))) ∧ Hid (Below w.heap.size w w') := by
  obtain ⟨i0, hi, hz0, hz1, hz2⟩ := info_parts elem5
  obtain ⟨a, c, xs, rfl, hsl, -, -, hD⟩ := h
  obtain ⟨n, hn⟩ : ∃ n, S.length = n := ⟨_, rfl⟩
  obtain ⟨K, hK⟩ : ∃ K, (S.map stP).map kS = K := ⟨_, rfl⟩
  have HKl : Hid (K.length = n) := by show _ = _; rw [← hK]; simpa using hn
  have HKb : Hid (∀ x ∈ K, x.length ≤ 1000100) := by
    intro x hx
    rw [← hK] at hx
    obtain ⟨p, hp, rfl⟩ := List.mem_map.1 hx
    obtain ⟨s, hs, rfl⟩ := List.mem_map.1 hp
    exact kS_len (ok_tells hb (hS s hs))
  have HKe : Hid (keyS (S.map stP) = Lib.join K [59, 32]) := by show _ = _; unfold keyS; rw [hK]
  have Hat : Hid (∀ j, j < n → ∃ b off p q r u, a = some ⟨b, off, none⟩ ∧ (∀ W, Below w.heap.size w W → W.cell? ⟨b, off + j * 4, none⟩ = some p ∧ W.cell? ⟨b, off + j * 4 + 1, none⟩ = some q ∧ W.cell? ⟨b, off + j * 4 + 2, none⟩ = some r ∧ W.cell? ⟨b, off + j * 4 + 3, none⟩ = some u) ∧
      ∀ V, Below w.heap.size w V → Glob T er V → Calls Tryz.prog 13 #[.agg #[p, q, r, u]] V fun e w' => e = .returned (tv (K[j]?.getD [])) ∧ Hid (Below V.heap.size V w')) := by
    intro j hj
    have hjS : j < S.length := by omega
    obtain ⟨p, q, r, u, ⟨h1, h2, h3, h4⟩, hDs⟩ := hD.2.2 j S[j] (List.getElem?_eq_getElem hjS)
    rcases hsl with ⟨_, h0⟩ | ⟨b, off, rfl, hbl, hc⟩
    · rw [h0] at h1; simp at h1
    have hlt : b < w.heap.size := hbl (by intro e; rw [e] at h1; simp at h1)
    refine ⟨b, off, p, q, r, u, rfl, fun W hW => ⟨?_, ?_, ?_, ?_⟩, fun V hV hGV => ?_⟩
    · exact (hW.cell (p := ⟨b, off + j * 4, none⟩) hlt).trans (hc _ _ h1)
    · exact (hW.cell (p := ⟨b, off + (j * 4 + 1), none⟩) hlt).trans (hc _ _ h2)
    · exact (hW.cell (p := ⟨b, off + (j * 4 + 2), none⟩) hlt).trans (hc _ _ h3)
    · exact (hW.cell (p := ⟨b, off + (j * 4 + 3), none⟩) hlt).trans (hc _ _ h4)
    · have e : K[j]?.getD [] = kS (stP S[j]) := by rw [← hK]; simp [hjS]
      rw [e]
      exact rkey_any S[j] bk (by omega) (hS _ (List.getElem_mem hjS)) _ V (hDs.below hV) hGV
  rw [hn] at hl ⊢
  have HG := Lib.hid hG
  clear hsl hD hG hK hn hS
  go_enter Tryz.func60, Tryz.ntmps60
  go_wp2_with fail
  go_loopw [3, 4] (fun v i wr => ∃ j : Nat, j ≤ n ∧ i = .int .i64 j ∧ Hid (wr.ownsRow w.heap.size 5 1 v (Lib.join (K.take j) [59, 32]).length (cs8 (Lib.join (K.take j) [59, 32]))) ∧ Hid (Below w.heap.size w wr)) (fun _ i _ => n - (intOf i).toNat)
  case atStart => exact ⟨0, Nat.zero_le _, rfl, World.ownsRow_nil _ _ _ _, Below.refl _ _⟩
  case round =>
    obtain ⟨j, hj, rfl, Hown, Ho⟩ := hrel
    obtain ⟨v, hv⟩ : ∃ v, u3 = v := ⟨_, rfl⟩
    rw [hv] at Hown ⊢
    clear hv
    by_cases hlt2 : j < n
    · have Step := Lib.hid (join_step K j (by rw [HKl.out]; exact hlt2))
      have Hblk : Hid ((Lib.join (K.take j) [59, 32]).length ≤ 100010200) := by
        have h9 := join_bulk K HKb.out j (by rw [HKl.out]; exact hj)
        show _ ≤ _
        omega
      have Hx : Hid ((K[j]?.getD []).length ≤ 1000100) := by
        show _ ≤ _
        rw [List.getElem?_eq_getElem (by rw [HKl.out]; exact hlt2)]
        exact HKb.out _ (List.getElem_mem _)
      obtain ⟨b, off, p, q, r, u, rfl, hcells, hcall⟩ := Hat.out j hlt2
      have HC := Lib.hid hcells
      have HK9 := Lib.hid hcall
      clear hcells hcall
      generalize K[j]?.getD [] = x at *
      obtain ⟨pre, hpre⟩ : ∃ p, Lib.join (K.take j) [59, 32] = p := ⟨_, rfl⟩
      rw [hpre] at Hown Step Hblk
      by_cases h0 : j = 0
      · subst h0
        have hp0 : pre = [] := by rw [← hpre]; simp [Lib.join_nil]
        subst hp0
        obtain ⟨u0, u1, u2, u3'⟩ := HC.out wr Ho.out
        simp only [Nat.zero_mul, Nat.add_zero] at u0 u1 u2 u3'
        have HKc := Lib.hid (HK9.out wr Ho.out (HG.out.below' Ho.out))
        rw [if_pos rfl, List.nil_append] at Step
        clear HK9 HC hpre
        go_wp2_with (first
          | (go_at_call 13; (with_reducible refine HKc.out.mono ?_); rintro e w5 ⟨rfl, h5⟩)
          | (at_builtin; refine wpList_otext rfl _ _ rfl w.heap.size v [] x rfl (row_kept Hown.out h5.out) rfl (by have := Hx.out; simp; omega) (Nat.le_trans Ho.out.size h5.out.size) ?_
             intro v6 w6 h6 g6
             have B6 : Hid (Below w.heap.size w w6) := (stepB Ho.out h5.out).grown g6 (stepB Ho.out h5.out).size (fun j hj => (Hown.out.lt j hj).1)
             have R6 := Lib.hid h6
             clear h6 g6))
        have R7 : Hid (w6.ownsRow w.heap.size 5 1 v6 (Lib.join (K.take (0 + 1)) [59, 32]).length (cs8 (Lib.join (K.take (0 + 1)) [59, 32]))) := by
          show World.ownsRow _ _ _ _ _ _ _
          rw [Step.out]; exact R6.out
        go_roundw
        case rel => exact ⟨0 + 1, by omega, by go_num, R7.out, B6.out⟩
        case measure => simp [intOf]; omega
      · have hj0 : (0 : Int) < (j : Int) := by omega
        rw [if_neg h0] at Step
        clear hpre
        go_wp2_with (first
          | (at_builtin; refine wpList_otext rfl _ _ rfl w.heap.size v pre [59, 32] rfl Hown.out rfl (by have := Hblk.out; simp; omega) Ho.out.size ?_
             intro v4 w4 h4 g4
             have B4 : Hid (Below w.heap.size w w4) := Ho.out.grown g4 Ho.out.size (fun j hj => (Hown.out.lt j hj).1)
             have R4 := Lib.hid h4
             obtain ⟨u0, u1, u2, u3'⟩ := HC.out w4 B4.out
             have HKc := Lib.hid (HK9.out w4 B4.out (HG.out.below' B4.out))
             clear h4 g4)
          | (go_at_call 13; (with_reducible refine HKc.out.mono ?_); rintro e w5 ⟨rfl, h5⟩)
          | (at_builtin; refine wpList_otext rfl _ _ rfl w.heap.size v4 (pre ++ [59, 32]) x rfl (row_kept R4.out h5.out) rfl (by have := Hblk.out; have := Hx.out; simp; omega) (Nat.le_trans B4.out.size h5.out.size) ?_
             intro v6 w6 h6 g6
             have B6 : Hid (Below w.heap.size w w6) := (stepB B4.out h5.out).grown g6 (stepB B4.out h5.out).size (fun j hj => (R4.out.lt j hj).1)
             have R6 := Lib.hid h6
             clear h6 g6))
        have R7 : Hid (w6.ownsRow w.heap.size 5 1 v6 (Lib.join (K.take (j + 1)) [59, 32]).length (cs8 (Lib.join (K.take (j + 1)) [59, 32]))) := by
          show World.ownsRow _ _ _ _ _ _ _
          rw [Step.out]; exact R6.out
        go_roundw
        case rel => exact ⟨j + 1, by omega, by go_num, R7.out, B6.out⟩
        case measure => simp [intOf]; omega
    · have hjn : j = n := by omega
      have hcb := oback Hown.out
      go_wp2_with fail
      go_ret
      refine ⟨?_, Ho.out⟩
      show Ending.returned (tv _) = _
      rw [HKe.out, List.take_of_length_le (by rw [HKl.out]; omega)]
end Go.Proofs.YtcjfcomadcebnaaGreatDoor

/- hist.Valid and store.New of objects that are not fit, by contracts. -/
namespace Go.Proofs.YtcjfcomadcebnaaGreatDoor
open Go.RowKit Go.Maps Go.WideMaps Go.WideElems Go.ChangeShapes Go.WideShapes
variable {T : TypeId} {er : Nat → Addr}

/-- An error that is one. -/
def IsErr (v : Value) : Prop := ∃ t a, v = .iface t (.pointer (some a))
/-- What a call gives that answers an error. -/
def ErrRes (w : World) (e : Ending) (w' : World) : Prop := ∃ t a, e = .returned (.iface t (.pointer (some a))) ∧ Hid (Below w.heap.size w w')

set_option maxHeartbeats 1000000 in
set_option maxRecDepth 100000 in
theorem hvalid_many (a : Option Addr) (n c : Nat) (hn : 8 < n) (w : World) (hG : Glob T er w) : Calls Tryz.prog 53 #[.agg #[.slice a n c, .slice none 0 0]] w (ErrRes w) := by
  obtain ⟨W, hW, Hb, hs, Hx⟩ := cells_new w #[.slice a n c, .slice none 0 0] 102
  have HGW := Lib.hid (hG.below' Hb.out)
  clear hG
  have x0 : W.cell? ⟨w.heap.size, 0, none⟩ = some (.slice a n c) := (cell_of_row _ _ 0 _ _ _ Hx.out).trans rfl
  have x1 : W.cell? ⟨w.heap.size, 1, none⟩ = some (.slice none 0 0) := (cell_of_row _ _ 1 _ _ _ Hx.out).trans rfl
  have hd8 : decide (8 < (n : Int)) = true := by simp; omega
  have e5 := HGW.out.eMany
  go_enter Tryz.func53, Tryz.ntmps53
  go_wp2_with fail
  go_ret
  exact ⟨_, _, rfl, Hb.out⟩

set_option maxHeartbeats 1000000 in
set_option maxRecDepth 100000 in
theorem hvalid_bad (a : Option Addr) (c : Nat) (os : List (Int × Int)) (hn : os.length ≤ 8) (hv : ¬ ∀ o ∈ os, validO o.1 o.2 = true) (w : World) (h : SlAt w a (obs os)) (hG : Glob T er w) :
    Calls Tryz.prog 53 #[.agg #[.slice a os.length c, .slice none 0 0]] w (ErrRes w) := by
  obtain ⟨n, hnn⟩ : ∃ n, os.length = n := ⟨_, rfl⟩
  rw [hnn] at hn ⊢
  obtain ⟨W, hW, Hb, hs, Hx⟩ := cells_new w #[.slice a n c, .slice none 0 0] 102
  have Hob : Hid (∀ k, k < n → ∀ W', Below W.heap.size W W' → ∃ b off p q, a = some ⟨b, off, none⟩ ∧ os[k]? = some (p, q) ∧ W'.cell? ⟨b, off + k * 2, none⟩ = some (.int .i64 p) ∧ W'.cell? ⟨b, off + k * 2 + 1, none⟩ = some (.int .i64 q)) := by
    intro k hk W' hb'
    have hk' : k < os.length := by omega
    have g0 : (obs os)[k * 2]? = some (.int .i64 os[k].1) := (obs_get os k hk').1
    have g1 : (obs os)[k * 2 + 1]? = some (.int .i64 os[k].2) := (obs_get os k hk').2
    rcases h with ⟨_, h0⟩ | ⟨b, off, rfl, hbl, hc⟩
    · rw [h0] at g0; simp at g0
    have hb2 : b < w.heap.size := hbl (by intro e; rw [e] at g0; simp at g0)
    refine ⟨b, off, _, _, rfl, List.getElem?_eq_getElem hk', ?_, ?_⟩
    · exact (hb'.cell (p := ⟨b, off + k * 2, none⟩) (Nat.lt_trans hb2 hs.out)).trans ((Hb.out.cell (p := ⟨b, off + k * 2, none⟩) hb2).trans (hc _ _ g0))
    · exact (hb'.cell (p := ⟨b, off + (k * 2 + 1), none⟩) (Nat.lt_trans hb2 hs.out)).trans ((Hb.out.cell (p := ⟨b, off + (k * 2 + 1), none⟩) hb2).trans (hc _ _ g1))
  have HGW := Lib.hid (hG.below' Hb.out)
  have Hv : Hid (¬ ∀ k, k < n → ∀ p q, os[k]? = some (p, q) → validO p q = true) := fun hall => hv fun o ho => by
    obtain ⟨i, hi, e⟩ := List.getElem_of_mem ho
    exact hall i (by omega) o.1 o.2 (by rw [List.getElem?_eq_getElem hi, e])
  clear h hv hG
  have x0 : W.cell? ⟨w.heap.size, 0, none⟩ = some (.slice a n c) := (cell_of_row _ _ 0 _ _ _ Hx.out).trans rfl
  have x1 : W.cell? ⟨w.heap.size, 1, none⟩ = some (.slice none 0 0) := (cell_of_row _ _ 1 _ _ _ Hx.out).trans rfl
  have hd8 : decide (8 < (n : Int)) = false := by simp; omega
  go_enter Tryz.func53, Tryz.ntmps53
  go_wp2_with fail
  go_loopw [23] (fun i wr => ∃ k : Nat, k ≤ n ∧ i = .int .i64 k ∧ Hid (Below W.heap.size W wr ∧ ∀ j, j < k → ∀ p q, os[j]? = some (p, q) → validO p q = true)) (fun i _ => n - (intOf i).toNat)
  case atStart => exact ⟨0, Nat.zero_le _, rfl, Below.refl _ _, fun j hj => by omega⟩
  case round =>
    obtain ⟨k, hk, rfl, Hr⟩ := hrel
    by_cases hlt : k < n
    · obtain ⟨b, off, p, q, rfl, hos, c0, c1⟩ := Hob.out k hlt wr Hr.out.1
      have HV0 := Lib.hid (fun W' (hb : Below W.heap.size W W') => validObject_any (T := T) (er := er) p q W' (HGW.out.below hb HGW.out.size))
      have HA : Hid (Below W.heap.size W (wr.alloc (.cells #[.int .i64 p, .int .i64 q] 83))) := Hr.out.1.alloc Hr.out.1.size _
      by_cases hvv : validO p q = true
      · have hval : validOV T er p q = .nilIface := by unfold validOV; rw [hvv]; rfl
        rw [hval] at HV0
        have Hnext : Hid (∀ j, j < k + 1 → ∀ p q, os[j]? = some (p, q) → validO p q = true) := fun j hj p' q' he => by
          by_cases hjk : j < k
          · exact Hr.out.2 j hjk p' q' he
          · have hjk : j = k := by omega
            subst hjk
            rw [hos] at he
            cases he
            exact hvv
        clear hval hvv hos
        go_wp2_with (first | (go_at_call 71; refine (HV0.out _ HA.out).mono ?_; rintro e w2 ⟨rfl, h2⟩))
        have Hr2 : Hid (Below W.heap.size W w2) := HA.out.trans (h2.out.mono HA.out.size)
        clear Hr HA h2 c0 c1 HV0
        go_roundw
        case rel => exact ⟨k + 1, by omega, by go_num, Hr2.out, Hnext.out⟩
        case measure => simp [intOf]; omega
      · have hval : validOV T er p q = errE T er 3 := by unfold validOV; rw [if_neg hvv]
        rw [hval] at HV0
        clear hval hvv hos
        go_wp2_with (first | (go_at_call 71; refine (HV0.out _ HA.out).mono ?_; rintro e w2 ⟨rfl, h2⟩))
        have Hr2 : Hid (Below w.heap.size w w2) := Hb.out.trans ((HA.out.trans (h2.out.mono HA.out.size)).mono Hb.out.size)
        go_ret
        refine ⟨_, _, rfl, ?_⟩
        show Below _ _ _
        exact Hr2.out.alloc Hr2.out.size _
    · have hkn : k = n := by omega
      subst hkn
      exact absurd Hr.out.2 Hv.out
end Go.Proofs.YtcjfcomadcebnaaGreatDoor

/- store.New of objects that are not fit; store.Do of an operation that is refused: by contracts. -/
namespace Go.Proofs.YtcjfcomadcebnaaGreatDoor
open Go.RowKit Go.Maps Go.WideMaps Go.WideElems Go.ChangeShapes Go.WideShapes
variable {T : TypeId} {er : Nat → Addr}

/-- What store.New answers of objects that are not fit. -/
def NewBad (w : World) (e : Ending) (w' : World) : Prop := ∃ t a, e = .returned (.tuple #[.agg #[.slice none 0 0], .iface t (.pointer (some a))]) ∧ Hid (Below w.heap.size w w')

set_option maxHeartbeats 1000000 in
set_option maxRecDepth 100000 in
theorem snew_bad (a : Option Addr) (n c : Nat) (w : World) (hV : ∀ W, Below w.heap.size w W → Calls Tryz.prog 53 #[.agg #[.slice a n c, .slice none 0 0]] W (ErrRes W)) : Calls Tryz.prog 34 #[.slice a n c] w (NewBad w) := by
  obtain ⟨W, hW, Hb, hs, Hx⟩ := box_new w 29 (.slice none 0 0)
  have HV := Lib.hid (hV W Hb.out)
  clear hV
  go_enter Tryz.func34, Tryz.ntmps34
  go_wp2_with (first | (go_at_call 53; refine HV.out.mono ?_; rintro e w2 ⟨t, p, rfl, h2⟩
                        have HX := Lib.hid (boxed_below Hx.out h2.out hs.out)
                        have q1 := HX.out.cell
                        have q2 := HX.out.frozen))
  refine bodyPost_ret (results_row_tmp rfl _ _ w.heap.size 29 #[.slice none 0 0] (0, 0) _ rfl (HX.out.set _) Tryz.underlying29 rfl (by kernel_rfl)) rfl ?_
  exact ⟨_, _, rfl, (Hb.out.trans (h2.out.mono Hb.out.size)).setCell (p := ⟨w.heap.size, 0, none⟩) (Nat.le_refl _) _⟩

/-- What store.Do answers of an operation that is refused. -/
def DoBad (w : World) (e : Ending) (w' : World) : Prop := ∃ t a, e = .returned (.tuple #[.agg #[.slice none 0 0], .int .i64 0, .int .i64 0, .iface t (.pointer (some a))]) ∧ Hid (Below w.heap.size w w')

set_option maxHeartbeats 1000000 in
set_option maxRecDepth 100000 in
theorem sdo_err (a : Option Addr) (n c : Nat) (xs : List Value) (k : Nat) (hk : k < n) (p q : Int) (r : List UInt8) (hp : xs[k * 3]? = some (.int .i64 p)) (hq : xs[k * 3 + 1]? = some (.int .i64 q)) (hr : xs[k * 3 + 2]? = some (tv r))
    (op key val : Int) (x : Nat) (hd : ∀ W, Glob T er W → DoIs p q r op key val (.tuple #[stv 0 0 [], .int .i64 0, .int .i64 0, errE T er x]) W) (w : World) (h : SlAt w a xs) (hG : Glob T er w) :
    Calls Tryz.prog 31 #[.agg #[.slice a n c], .int .i64 k, .int .i64 op, .int .i64 key, .int .i64 val] w (DoBad w) := by
  obtain ⟨W1, W, hW1, hW, Hb, hs1, hs, Hx, Hy⟩ := box_new2 w 29 29 (.slice a n c) (.slice none 0 0)
  have x0 := Hx.out.cell
  have HA := Lib.hid (at_sta_in a n c xs k hk p q ⟨r.toArray⟩ hp hq hr W (h.below Hb.out))
  have HG := Lib.hid (hG.below' Hb.out)
  have HD := Lib.hid hd
  clear hG h hp hq hr hd hk
  go_enter Tryz.func31, Tryz.ntmps31
  go_wp2_with (first
    | (go_at_call 38; refine HA.out.mono ?_; rintro e w2 ⟨rfl, h2⟩; obtain ⟨W3, hW3, Hb3, hs3, Hp3⟩ := cells_new w2 #[.int .i64 p, .int .i64 q, tv r] 34; obtain ⟨y0, y1, y2⟩ := row_three Hp3.out; have HG3 := Lib.hid ((HG.out.below' h2.out).below' Hb3.out); have H3 := Lib.hid ((Hb.out.trans (h2.out.mono Hb.out.size)).trans (Hb3.out.mono (Nat.le_trans Hb.out.size h2.out.size))); have HY3 := Lib.hid (boxed_below (boxed_below Hy.out h2.out hs.out) Hb3.out (Nat.lt_of_lt_of_le hs.out h2.out.size)); have hz3 := Lib.hid (Nat.lt_of_lt_of_le hs.out (Nat.le_trans h2.out.size (Nat.le_of_lt hs3.out))))
    | (go_at_call 49; refine (HD.out _ HG3.out).mono ?_; rintro e w4 ⟨rfl, h4⟩; obtain ⟨W5, V5, hW5, hV5, ⟨⟨k0, k1⟩, ⟨k2, k3⟩, ⟨k4, k5⟩⟩, Hb5⟩ := zero_box w4; have HY5 := Lib.hid (boxed_below (boxed_below HY3.out h4.out hz3.out) Hb5.out (Nat.lt_of_lt_of_le hz3.out h4.out.size)); have H5 := Lib.hid ((H3.out.trans (h4.out.mono H3.out.size)).trans (Hb5.out.mono (Nat.le_trans H3.out.size h4.out.size))); have b0 := HY5.out.cell; have b1 := HY5.out.frozen))
  refine bodyPost_ret (results_row_tmp3 rfl _ _ W1.heap.size 29 #[.slice none 0 0] (0, 0) _ rfl (HY5.out.set _) Tryz.underlying29 rfl (by kernel_rfl)) rfl ?_
  exact ⟨_, _, rfl, H5.out.setCell (p := ⟨W1.heap.size, 0, none⟩) (Nat.le_of_lt hs1.out) _⟩
end Go.Proofs.YtcjfcomadcebnaaGreatDoor

/- Stores of the program, by the plain states. -/
namespace Go.Proofs.YtcjfcomadcebnaaGreatDoor
open Go.RowKit Go.Maps Go.WideMaps Go.WideElems Go.ChangeShapes Go.WideShapes
variable {T : TypeId} {er : Nat → Addr}

/-- A store of the program. -/
def PAt (W : World) (S : List PS) (v : Value) : Prop := ∃ a c, v = .agg #[.slice a S.length c] ∧ SlAt W a (sts (S.map stP))
theorem PAt.below {W V : World} {S : List PS} {v : Value} (h : PAt W S v) (hb : Below W.heap.size W V) : PAt V S v := by
  obtain ⟨a, c, e, h1⟩ := h
  exact ⟨a, c, e, h1.below hb⟩
/-- What Do answers. -/
def SpRes (S : List PS) (i op key val : Int) (w : World) (e : Ending) (w' : World) : Prop :=
  match sdoR S i op key val with
  | .error _ => DoBad w e w'
  | .ok (X, r, g) => ∃ v', e = .returned (.tuple #[v', .int .i64 r, .int .i64 g, .nilIface]) ∧ Hid (PAt w' X v' ∧ Below w.heap.size w w')
theorem sts_get3 : ∀ (S : List P3) (k : Nat) (s : P3), S[k]? = some s → (sts S)[k * 3]? = some (.int .i64 s.1) ∧ (sts S)[k * 3 + 1]? = some (.int .i64 s.2.1) ∧ (sts S)[k * 3 + 2]? = some (tv s.2.2)
  | [], k, s, h => by simp at h
  | o :: os, 0, s, h => by
    simp at h
    subst h
    exact ⟨rfl, rfl, rfl⟩
  | o :: os, k + 1, s, h => by
    have ih := sts_get3 os k s (by simpa using h)
    have e : (k + 1) * 3 = k * 3 + 3 := by omega
    rw [e]
    exact ih
theorem sts_set : ∀ (S : List P3) (k : Nat) (s : P3), k < S.length → (((sts S).set (k * 3) (.int .i64 s.1)).set (k * 3 + 1) (.int .i64 s.2.1)).set (k * 3 + 2) (tv s.2.2) = sts (S.set k s)
  | [], k, s, h => by simp at h
  | o :: os, 0, s, _ => rfl
  | o :: os, k + 1, s, h => by
    have ih := sts_set os k s (by simpa using h)
    have e : (k + 1) * 3 = k * 3 + 3 := by omega
    rw [e]
    show _ = _ :: _ :: _ :: sts (os.set k s)
    rw [← ih]
    rfl
theorem sts_one3 (S : List P3) : ∀ u ∈ sts S, u.oneCell' = true := by
  intro u hu
  obtain ⟨o, _, h⟩ := List.mem_flatMap.1 hu
  simp only [List.mem_cons, List.not_mem_nil, or_false] at h
  rcases h with rfl | rfl | rfl <;> rfl
theorem spdo_any (S : List PS) (b : Nat) (hb : b ≤ 40000) (hS : OkS S b) (hl : S.length ≤ 100) (v : Value) (w : World) (h : PAt w S v) (hG : Glob T er w) (i op key val : Int) (hkey : fits64 key) (hval : fits64 val) :
    Calls Tryz.prog 31 #[v, .int .i64 i, .int .i64 op, .int .i64 key, .int .i64 val] w (SpRes S i op key val w) := by
  obtain ⟨a, c, rfl, h1⟩ := h
  by_cases hi : 0 ≤ i ∧ i < S.length
  · obtain ⟨k, rfl⟩ : ∃ k : Nat, i = k := ⟨i.toNat, by omega⟩
    have hk : k < S.length := by omega
    have hsk : (S.map stP)[k]? = some (stP S[k]) := by simp [hk]
    have hok := hS _ (List.getElem_mem hk)
    obtain ⟨g0, g1, g2⟩ := sts_get3 _ k _ hsk
    have hdo := fun W (hGW : Glob T er W) => do_any (T := T) (er := er) S[k] b (by omega) hok op key val hkey hval W hGW
    have hlen : (sts (S.map stP)).length = S.length * 3 := by rw [sts_len, List.length_map]
    rcases hd : doR S[k] op key val with cd | ⟨t, r, g⟩
    · rw [hd] at hdo
      have hd2 : ∃ x : Nat, ∀ W, Glob T er W → DoIs S[k].kind S[k].n S[k].text op key val (.tuple #[stv 0 0 [], .int .i64 0, .int .i64 0, errE T er x]) W := by
        rcases cd with _ | cd
        · exact ⟨0, hdo⟩
        · exact ⟨2, hdo⟩
      obtain ⟨x, hd3⟩ := hd2
      refine (sdo_err a S.length c _ k hk S[k].kind S[k].n S[k].text g0 g1 g2 op key val x hd3 w h1 hG).mono fun e w' hr => ?_
      unfold SpRes
      rw [sdoR_in hk, hd]
      exact hr
    · rw [hd] at hdo
      refine (sdo_ok a S.length c _ hlen (sts_one3 _) (by omega) k hk S[k].kind S[k].n S[k].text g0 g1 g2 op key val t.kind t.n r g t.text hdo w h1 hG).mono fun e w' hr => ?_
      unfold SpRes
      rw [sdoR_in hk, hd]
      obtain ⟨v', rfl, h9⟩ := hr
      have h8 := h9.out.1
      have e3 := sts_set (S.map stP) k (stP t) (by simpa using hk)
      rw [show (stP t).1 = t.kind from rfl, show (stP t).2.1 = t.n from rfl, show (stP t).2.2 = t.text from rfl] at e3
      rw [e3, ← List.map_set] at h8
      obtain ⟨a', c', rfl, hs', _⟩ := row_sl h8
      exact ⟨_, rfl, ⟨a', c', by rw [List.length_set], hs'⟩, h9.out.2⟩
  · refine (sdo_out a S.length c i op key val hi w hG).mono fun e w' hr => ?_
    unfold SpRes
    rw [sdoR_out hi]
    exact ⟨_, _, hr.1, hr.2⟩
theorem stc_start (os : List (Int × Int)) : stc os = sts ((startS os).map stP) := by
  induction os with
  | nil => rfl
  | cons o os ih =>
    show _ :: _ :: _ :: stc os = _ :: _ :: _ :: sts ((startS os).map stP)
    rw [ih]
    rfl
theorem spnew_ok (a : Option Addr) (c : Nat) (os : List (Int × Int)) (hn : os.length ≤ 8) (hv : ∀ o ∈ os, validO o.1 o.2 = true) (w : World) (h : SlAt w a (obs os)) (hG : Glob T er w) :
    Calls Tryz.prog 34 #[.slice a os.length c] w fun e w' => ∃ v', e = .returned (.tuple #[v', .nilIface]) ∧ Hid (PAt w' (startS os) v' ∧ Below w.heap.size w w') := by
  refine (snew_ok a c os hn hv w h hG).mono fun e w' hr => ?_
  obtain ⟨v', rfl, h9⟩ := hr
  obtain ⟨a', c', rfl, hs', _⟩ := row_sl h9.out.1
  rw [stc_start] at hs'
  exact ⟨_, rfl, ⟨a', c', by simp [startS], hs'⟩, h9.out.2⟩
theorem spnew_bad (a : Option Addr) (c : Nat) (os : List (Int × Int)) (hbad : ¬ (os.length ≤ 8 ∧ ∀ o ∈ os, validO o.1 o.2 = true)) (w : World) (h : SlAt w a (obs os)) (hG : Glob T er w) : Calls Tryz.prog 34 #[.slice a os.length c] w (NewBad w) := by
  refine snew_bad a os.length c w (fun W hW => ?_)
  by_cases hn : os.length ≤ 8
  · exact hvalid_bad a c os hn (fun e => hbad ⟨hn, e⟩) W (h.below hW) (hG.below' hW)
  · exact hvalid_many a os.length c (by omega) W (hG.below' hW)
theorem start_ok (os : List (Int × Int)) (hv : ∀ o ∈ os, validO o.1 o.2 = true) : OkS (startS os) 0 := by
  intro s hs
  obtain ⟨o, ho, rfl⟩ := List.mem_map.1 hs
  obtain ⟨h1, h2, h3⟩ := (validO_iff _ _).1 (hv o ho)
  refine ⟨h1, fun _ => h2, fun _ => ⟨by show -1000000000000000 ≤ o.2; omega, by show o.2 ≤ 1000000000000000; omega⟩, fun e => ?_, fun _ => rfl, fun _ => rfl, fun v hv => (by cases hv), fun p hp => (by cases hp), List.Pairwise.nil, Nat.le_refl _⟩
  show o.2 = 0
  have e' : o.1 = 3 ∨ o.1 = 4 := e
  omega
end Go.Proofs.YtcjfcomadcebnaaGreatDoor

/- Is: both stores tell the same. -/
namespace Go.Proofs.YtcjfcomadcebnaaGreatDoor
open Go.RowKit Go.Maps Go.WideMaps Go.WideElems Go.ChangeShapes Go.WideShapes
variable {T : TypeId} {er : Nat → Addr}

set_option maxRecDepth 100000 in
set_option maxHeartbeats 2000000 in
theorem is_true (S : List PS) (b : Nat) (hb : b ≤ 40000) (hS : OkS S b) (hl : S.length ≤ 100) (v u : Value) (w : World) (hv : PAt w S v) (hu : SAt w S u) (hG : Glob T er w) :
    Calls Tryz.prog 37 #[v, u] w fun e w' => e = .returned (.bool true) ∧ Hid (Below w.heap.size w w') := by
  have Hu := Lib.hid hu
  obtain ⟨a, c, rfl, h1⟩ := hv
  obtain ⟨a2, c2, xs, rfl, -⟩ := hu
  obtain ⟨W, hW, Hb, hs, Hx⟩ := box_new w 29 (.slice a S.length c)
  have x0 := Hx.out.cell
  have H33 := Lib.hid (skey_any (T := T) (er := er) a c (S.map stP) (by simpa using hl) (by
    intro s hs
    obtain ⟨p, hp, rfl⟩ := List.mem_map.1 hs
    exact ok_tells hb (hS p hp)) W (h1.below Hb.out) (hG.below' Hb.out))
  rw [List.length_map] at H33
  have HS := Lib.hid hS
  have HG := Lib.hid (hG.below' Hb.out)
  clear h1 hG hS
  go_enter Tryz.func37, Tryz.ntmps37
  go_wp2_with (first
    | (go_at_call 33; (with_reducible refine H33.out.mono ?_); rintro e w2 ⟨rfl, h2⟩
       have hc2 := (boxed_below Hx.out h2.out hs.out).cell)
    | (go_at_call 60; (with_reducible refine (rkey7 (T := T) (er := er) S b hb HS.out hl _ w2 (Hu.out.below (stepB Hb.out h2.out)) (HG.out.below' h2.out)).mono ?_); rintro e w3 ⟨rfl, h3⟩
       have hc3 := (boxed_below (boxed_below Hx.out h2.out hs.out) h3.out (Nat.lt_of_lt_of_le hs.out h2.out.size)).cell)
    | (go_at_call 32; (with_reducible refine (slen_any a S.length c w3).mono ?_); rintro e w4 ⟨rfl, h4⟩))
  go_ret
  exact ⟨rfl, stepB (stepB (stepB Hb.out h2.out) h3.out) h4.out⟩
end Go.Proofs.YtcjfcomadcebnaaGreatDoor
