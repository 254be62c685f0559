/- Helpers, joined: Bc, Ri2, Bd, Be, Fs. -/
import Derived.Test.YtcjfcomadcebnaaGreatDoorM3
import Derived.Test.YtcjfcomadcebnaaGreatDoorM5
import Derived.Test.YtcjfcomadcebnaaGreatDoorM9
import Derived.LaidEql

/- Stores stay as they lie when a box that holds a list is written over. -/
namespace Go.Proofs.YtcjfcomadcebnaaGreatDoor
open Go.RowKit Go.Maps Go.WideMaps Go.WideElems Go.ChangeShapes Go.WideShapes

/-- A cell that is not the box's first stays. -/
theorem cell_box {W : World} {b : Nat} {x u : Value} {a0 : Option Addr} {n0 c0 b' o' : Nat} (hb : W.heap[b]? = some (.cells #[.slice a0 n0 c0] 29)) (hc : W.cell? ⟨b', o', none⟩ = some x) (hx : (∀ a n c, x ≠ .slice a n c) ∨ o' ≠ 0) : (W.setCell ⟨b, 0, none⟩ u).cell? ⟨b', o', none⟩ = some x := by
  by_cases hbb : b' = b
  · exfalso
    subst hbb
    rw [cell_of_row W b' o' _ 29 _ hb] at hc
    have h0 : o' = 0 := by
      rcases o' with _ | o'
      · rfl
      · simp at hc
    subst h0
    simp at hc
    rcases hx with hx | hx
    · exact hx _ _ _ hc.symm
    · exact hx rfl
  · exact cellS hbb hc
theorem IAt.box {W : World} {b : Nat} {u : Value} {a0 : Option Addr} {n0 c0 : Nat} {a : Option Addr} {zs : List Int} (hb : W.heap[b]? = some (.cells #[.slice a0 n0 c0] 29)) (h : IAt W a zs) : IAt (W.setCell ⟨b, 0, none⟩ u) a zs := by
  rcases h with h | ⟨b', off, e, hc⟩
  · exact .inl h
  · exact .inr ⟨b', off, e, fun k hk => cell_box hb (hc k hk) (.inl (fun _ _ _ e => by cases e))⟩
theorem DAt.box {W : World} {b : Nat} {u : Value} {a0 : Option Addr} {n0 c0 : Nat} {s : PS} {v : Value} (hb : W.heap[b]? = some (.cells #[.slice a0 n0 c0] 29)) (h : DAt W s v) : DAt (W.setCell ⟨b, 0, none⟩ u) s v := by
  obtain ⟨ka, kc, va, vc, e, h1, h2, h3⟩ := h
  exact ⟨ka, kc, va, vc, e, h1.box hb, h2.box hb, h3⟩
theorem SAt.box {W : World} {b : Nat} {u : Value} {a0 : Option Addr} {n0 c0 : Nat} {S : List PS} {v : Value} (hb : W.heap[b]? = some (.cells #[.slice a0 n0 c0] 29)) (h : SAt W S v) : SAt (W.setCell ⟨b, 0, none⟩ u) S v := by
  obtain ⟨a, c, xs, e, h1, h2, h3, hl, ho, hall⟩ := h
  refine ⟨a, c, xs, e, ?_, h2, h3, hl, ho, fun i s hs => ?_⟩
  · rcases h1 with h | ⟨b', off, e', hbl, hc⟩
    · exact .inl h
    · refine .inr ⟨b', off, e', fun hx => by simpa using hbl hx, fun j x hj => cell_box hb (hc j x hj) ?_⟩
      have hj2 : j < S.length * 4 := by rw [← hl]; exact (List.getElem?_eq_some_iff.1 hj).1
      have hi : j / 4 < S.length := by omega
      obtain ⟨p, q, K, V, ⟨g0, g1, g2, g3⟩, hD⟩ := hall (j / 4) _ (List.getElem?_eq_getElem hi)
      obtain ⟨ka, kc, va, vc, eD, _⟩ := hD
      cases eD
      have h4 : j % 4 = 0 ∨ j % 4 = 1 ∨ 2 ≤ j := by omega
      rcases h4 with h4 | h4 | h4
      · have ej : j / 4 * 4 = j := by omega
        rw [ej, hj] at g0
        cases g0
        exact .inl (fun _ _ _ e => by cases e)
      · have ej : j / 4 * 4 + 1 = j := by omega
        rw [ej, hj] at g1
        cases g1
        exact .inl (fun _ _ _ e => by cases e)
      · exact .inr (by omega)
  · obtain ⟨p, q, K, V, g, hD⟩ := hall i s hs
    exact ⟨p, q, K, V, g, hD.box hb⟩
theorem PAt.box {W : World} {b : Nat} {u : Value} {a0 : Option Addr} {n0 c0 : Nat} {S : List PS} {v : Value} (hb : W.heap[b]? = some (.cells #[.slice a0 n0 c0] 29)) (h : PAt W S v) : PAt (W.setCell ⟨b, 0, none⟩ u) S v := by
  obtain ⟨a, c, e, h1⟩ := h
  refine ⟨a, c, e, ?_⟩
  rcases h1 with h | ⟨b', off, e', hbl, hc⟩
  · exact .inl h
  · refine .inr ⟨b', off, e', fun hx => by simpa using hbl hx, fun j x hj => cell_box hb (hc j x hj) (.inl ?_)⟩
    have hm := List.mem_of_getElem? hj
    obtain ⟨o, _, ho⟩ := List.mem_flatMap.1 hm
    simp only [List.mem_cons, List.not_mem_nil, or_false] at ho
    rcases ho with rfl | rfl | rfl <;> exact fun _ _ _ e => by cases e
/-- A call of an operation. -/
structure CO where
  obj : Int
  op : Int
  key : Int
  val : Int
/-- Calls as cells. -/
def cls (l : List CO) : List Value := l.flatMap fun c => [.int .i64 c.obj, .int .i64 c.op, .int .i64 c.key, .int .i64 c.val]
theorem cls_get : ∀ (l : List CO) (k : Nat) (c : CO), l[k]? = some c → (cls l)[k * 4]? = some (.int .i64 c.obj) ∧ (cls l)[k * 4 + 1]? = some (.int .i64 c.op) ∧ (cls l)[k * 4 + 2]? = some (.int .i64 c.key) ∧ (cls l)[k * 4 + 3]? = some (.int .i64 c.val)
  | [], k, c, h => by simp at h
  | o :: os, 0, c, h => by
    simp at h
    subst h
    exact ⟨rfl, rfl, rfl, rfl⟩
  | o :: os, k + 1, c, h => by
    have ih := cls_get os k c (by simpa using h)
    have e : (k + 1) * 4 = k * 4 + 4 := by omega
    rw [e]
    exact ih
/-- A store behind an operation; what is refused changes nothing. -/
def goS (S : List PS) (c : CO) : List PS := match sdoR S c.obj c.op c.key c.val with
  | .ok (X, _, _) => X
  | .error _ => S
def runS (S : List PS) (l : List CO) : List PS := l.foldl goS S
theorem goS_ok {S : List PS} {b : Nat} (h : OkS S b) (c : CO) : OkS (goS S c) (b + 1) ∧ (goS S c).length = S.length := by
  unfold goS
  split
  · rename_i X r g hd
    obtain ⟨h1, h2, _⟩ := h.next hd
    exact ⟨h1, h2⟩
  · exact ⟨fun s hs => by
      have h3 := h s hs
      exact ⟨h3.kind, h3.reg, h3.cnt, h3.num, h3.vs, h3.ks, h3.vb, h3.kb, h3.rises, Nat.le_succ_of_le h3.len⟩, rfl⟩
theorem runS_ok : ∀ (l : List CO) {S : List PS} {b : Nat}, OkS S b → OkS (runS S l) (b + l.length) ∧ (runS S l).length = S.length
  | [], S, b, h => ⟨h, rfl⟩
  | c :: l, S, b, h => by
    obtain ⟨h1, h2⟩ := goS_ok h c
    obtain ⟨h3, h4⟩ := runS_ok l h1
    refine ⟨?_, h4.trans h2⟩
    have e : b + (c :: l).length = b + 1 + l.length := by simp; omega
    rw [e]
    exact h3
theorem runS_step (S : List PS) (l : List CO) (j : Nat) (c : CO) (h : l[j]? = some c) : runS S (l.take (j + 1)) = goS (runS S (l.take j)) c := by
  have hj := (List.getElem?_eq_some_iff.1 h).1
  have e : l[j] = c := (List.getElem?_eq_some_iff.1 h).2
  unfold runS
  rw [List.take_succ_eq_append_getElem hj, List.foldl_append, e]
  rfl
end Go.Proofs.YtcjfcomadcebnaaGreatDoor

/- The document's stores as they begin: fit objects. -/
namespace Go.Proofs.YtcjfcomadcebnaaGreatDoor
open Go.RowKit Go.Maps Go.WideMaps Go.WideElems Go.ChangeShapes Go.WideShapes

set_option maxHeartbeats 2000000 in
set_option maxRecDepth 100000 in
theorem rnew7_ok (a : Option Addr) (c : Nat) (os : List (Int × Int)) (hn : os.length ≤ 8) (hv : ∀ o ∈ os, validO o.1 o.2 = true) (w : World) (h : SlAt w a (obs os)) :
    Calls Tryz.prog 35 #[.slice a os.length c] w fun e w' => ∃ (v : Value) (b : Option Addr) (n m : Nat), e = .returned (.tuple #[v, .agg #[.int .i64 0, .slice b n m]]) ∧ Hid (SAt w' (startS os) v ∧ Below w.heap.size w w') := by
  obtain ⟨i0, hi, hz0, hz1, hz2⟩ := info_parts elem39
  obtain ⟨W, hW, Hb, hs, Hx⟩ := cells_new w #[.int .i64 0, .slice none 0 0] 78
  have HV := Lib.hid (rvalid a c os W (h.below Hb.out))
  have Hgood : Hid (os.length ≤ 8 ∧ ∀ o ∈ os, validO o.1 o.2 = true) := ⟨hn, hv⟩
  obtain ⟨n, hnn⟩ : ∃ n, os.length = n := ⟨_, rfl⟩
  have Hob : Hid (∀ k, k < n → ∀ W', Below w.heap.size w W' → ∃ b off p q, a = some ⟨b, off, none⟩ ∧ (os[k]? = some (p, q) ∧ validO p q = true) ∧ W'.cell? ⟨b, off + k * 2, none⟩ = some (.int .i64 p) ∧ W'.cell? ⟨b, off + k * 2 + 1, none⟩ = some (.int .i64 q)) := by
    intro k hk W' hb'
    have hk' : k < os.length := by omega
    have g0 : (obs os)[k * 2]? = some (.int .i64 os[k].1) := (obs_get os k hk').1
    have g1 : (obs os)[k * 2 + 1]? = some (.int .i64 os[k].2) := (obs_get os k hk').2
    rcases h with ⟨_, h0⟩ | ⟨b, off, rfl, hbl, hc⟩
    · rw [h0] at g0; simp at g0
    have hb2 : b < w.heap.size := hbl (by intro e; rw [e] at g0; simp at g0)
    refine ⟨b, off, _, _, rfl, ⟨List.getElem?_eq_getElem hk', hv _ (List.getElem_mem hk')⟩, ?_, ?_⟩
    · exact (hb'.cell (p := ⟨b, off + k * 2, none⟩) hb2).trans (hc _ _ g0)
    · exact (hb'.cell (p := ⟨b, off + (k * 2 + 1), none⟩) hb2).trans (hc _ _ g1)
  rw [hnn] at hn HV ⊢
  have Hn := Lib.hid hnn
  clear h hv hnn
  go_enter Tryz.func35, Tryz.ntmps35
  go_wp2_with (first
    | (go_at_call 56; (with_reducible refine HV.out.mono ?_); rintro e w2 ⟨x, b, n2, m2, rfl, hx, h2⟩
       have hx0 : x = 0 := hx.2 (by have h9 := Hgood.out; rw [Hn.out] at h9; exact h9)
       clear hx
       subst hx0
       have B2 : Hid (Below w.heap.size w w2) := stepB Hb.out h2.out
       obtain ⟨V3, hV3, b3, -, TB⟩ := cells_new w2 #[.int .i64 0, .slice none 0 0] 78
       obtain ⟨F1, F2, hF1, hF2, ⟨⟨f0, e0⟩, ⟨f1, e1⟩⟩, HF, HE⟩ := box_put2 (w := w2) (V := V3) (.int .i64 0) (.slice b n2 m2) TB.out (Nat.le_refl _)
       have BF : Hid (Below w2.heap.size w2 F2) := b3.out.trans HE.out
       have Bw : Hid (Below w.heap.size w F2) := stepB B2.out BF.out
       have Rx := Lib.hid (keepB BF.out (keepB h2.out Hx.out))
       have t0 : F2.cell? ⟨w2.heap.size, 0, none⟩ = some (.int .i64 0) := (cell_of_row _ _ 0 _ _ _ HF.out).trans rfl
       have t1 : F2.cell? ⟨w2.heap.size, 1, none⟩ = some (.slice b n2 m2) := (cell_of_row _ _ 1 _ _ _ HF.out).trans rfl))
  go_loopw [5, 6] (fun v i wr => ∃ k : Nat, k ≤ n ∧ i = .int .i64 k ∧ Hid (wr.ownsRow F2.heap.size 39 4 v k ((std os).take (k * 4))) ∧ Hid (Below F2.heap.size F2 wr)) (fun _ i _ => n - (intOf i).toNat)
  case atStart => exact ⟨0, Nat.zero_le _, rfl, World.ownsRow_nil _ _ _ _, Below.refl _ _⟩
  case round =>
    obtain ⟨k, hk, rfl, Hown, Ho⟩ := hrel
    obtain ⟨v, hv⟩ : ∃ v, u5 = v := ⟨_, rfl⟩
    rw [hv] at Hown ⊢
    clear hv
    by_cases hlt2 : k < n
    · have Bwr : Hid (Below w.heap.size w wr) := stepB Bw.out Ho.out
      obtain ⟨b', off, p, q, rfl, hos, c0, c1⟩ := Hob.out k hlt2 wr Bwr.out
      have HN := Lib.hid (rnew_ok p q hos.2 wr)
      have Et := Lib.hid (std_step os k p q hos.1)
      clear hos
      go_wp2_with (first
        | (go_at_call 57; (with_reducible refine HN.out.mono ?_); rintro e w5 ⟨rfl, h5⟩
           obtain ⟨V5, hV5, b5, -, TB5⟩ := cells_new w5 dz 39
           obtain ⟨G1, G2, G3, G4, hG1, hG2, hG3, hG4, ⟨⟨x0, y0⟩, ⟨x1, y1⟩, ⟨x2, y2⟩, ⟨x3, y3⟩⟩, HG, HGE⟩ := mapped_box (w := w5) (V := V5) (.int .i64 p) (.int .i64 q) (.slice none 0 0) (.slice none 0 0) TB5.out (Nat.le_refl _)
           have BG : Hid (Below wr.heap.size wr G4) := stepB h5.out (b5.out.trans HGE.out.1)
           have HownG := Lib.hid (row_kept Hown.out BG.out)
           have BwG : Hid (Below w.heap.size w G4) := stepB Bwr.out BG.out
           obtain ⟨⟨z0, z1⟩, z2, z3⟩ := row_four HG.out)
        | (at_builtin; refine wpList_append_own _ rfl _ _ 30 rfl F2.heap.size 39 i0 (.agg dz) 4 64 Tryz.underlying30 hi hz0 hz1 hz2 rfl (by decide) v _ _ rfl (HownG.out.alloc _) ⟨G4.heap.size, 0, none⟩ 1 1 [.int .i64 p, .int .i64 q, .slice none 0 0, .slice none 0 0] rfl rfl (four_news _ _ _ _ _ _) (by intro u hu; simp only [List.mem_cons, List.not_mem_nil, or_false] at hu; rcases hu with rfl | rfl | rfl | rfl <;> rfl) (by unfold maxLen; omega) (by omega) (by show _ ≤ _; simp; exact Nat.le_trans (stepB Ho.out BG.out).size (Nat.le_succ _)) ?_))
      intro v' w6 hown6 hgrow6 hnil6
      have Ho6 : Hid (Below F2.heap.size F2 w6) := ((stepB Ho.out BG.out).alloc (stepB Ho.out BG.out).size _).grown hgrow6 ((stepB Ho.out BG.out).alloc (stepB Ho.out BG.out).size _).size (fun j hj => (Hown.out.lt j hj).1)
      have Hown6 : Hid (w6.ownsRow F2.heap.size 39 4 v' (k + 1) ((std os).take ((k + 1) * 4))) := by show World.ownsRow _ _ _ _ _ _ _; rw [Et.out]; exact hown6
      clear hown6 hgrow6 hnil6 Hown Ho c0 c1 Et HownG BwG BG Bwr
      go_wp2_with fail
      go_roundw
      case rel => exact ⟨k + 1, by omega, by go_num, Hown6.out, Ho6.out⟩
      case measure => simp [intOf]; omega
    · have hkn : k = n := by omega
      subst hkn
      have Bwr : Hid (Below w.heap.size w wr) := stepB Bw.out Ho.out
      have hf := keepB Ho.out HF.out
      have t2 : wr.cell? ⟨w2.heap.size, 0, none⟩ = some (.int .i64 0) := (cell_of_row _ _ 0 _ _ _ hf).trans rfl
      have t3 : wr.cell? ⟨w2.heap.size, 1, none⟩ = some (.slice b n2 m2) := (cell_of_row _ _ 1 _ _ _ hf).trans rfl
      obtain ⟨G1, G2, hG1, hG2, ⟨⟨g0, d0⟩, ⟨g1, d1⟩⟩, HG, HGE⟩ := box_put2 (w := w) (V := wr.drew) (.int .i64 0) (.slice b n2 m2) (keepD (keepB Ho.out Rx.out)) (Nat.le_refl _)
      clear hf
      go_wp2_with fail
      go_region_with (fail)
      all_goals
        go_wp2_with fail
        refine bodyPost_ret (results_tmp_row rfl _ _ w.heap.size 78 _ (0, 0) _ rfl HG.out Tryz.underlying78 rfl (by kernel_rfl)) rfl ?_
        have hlt : w.heap.size < F2.heap.size := (Array.getElem?_eq_some_iff.1 Rx.out).1
        have hr : G2.ownsRow F2.heap.size 39 4 v k (std os) := by
          have h9 := Hown.out.drew
          rw [List.take_of_length_le (by rw [std_len, Hn.out]; exact Nat.le_refl _)] at h9
          rw [← hG2, ← hG1]
          exact ownsRow_setCell_below (ownsRow_setCell_below h9 (a := ⟨w.heap.size, 0, none⟩) hlt _) (a := ⟨w.heap.size, 1, none⟩) hlt _
        obtain ⟨a', c', rfl, hsl, hle⟩ := row_sl hr
        have hl : (startS os).length = k := by simp [startS, Hn.out]
        exact ⟨_, b, n2, m2, rfl, ⟨a', c', std os, by rw [hl]; rfl, hsl, (row_sl0 hr).2, by rw [hl]; exact hle, start_ds _ os⟩, Bwr.out.drew.trans HGE.out⟩
end Go.Proofs.YtcjfcomadcebnaaGreatDoor

/- Behind: objects that are not fit. -/
namespace Go.Proofs.YtcjfcomadcebnaaGreatDoor
open Go.RowKit Go.Maps Go.WideMaps Go.WideElems Go.ChangeShapes Go.WideShapes
variable {T : TypeId} {er : Nat → Addr}

theorem results_row_tmp2 {P : Program} {fn : Func} {p u1 u2 : Tmp} {ty : TypeId} (h : fn.results = #[.cell p ty, .tmp u1, .tmp u2]) (tmps : Array Value) (w : World) (g : Nat) (t : TypeId) (cs : Array Value) (fr : Nat × Nat) (d : TypeDesc)
    (hp : tmps.getD p undef = .pointer (some ⟨g, 0, none⟩)) (hg : w.heap[g]? = some (.cells cs t fr))
    (hu : P.underlying ty = some d) (hd : (match d with | .struct _ | .array _ _ => true | _ => false) = true) (hi : (P.info? ty).map (·.size) = some cs.size) :
    (results fn tmps).run P w = .ok (.tuple #[.agg cs, tmps.getD u1 undef, tmps.getD u2 undef]) w := by
  have hp' : tmps[p]?.getD undef = .pointer (some ⟨g, 0, none⟩) := by simpa using hp
  simp only [results, h]
  simp [hp', asAddr, run_loadVar_row w g t ty cs fr d hg hu hd hi, Result.andThen]
/-- A box of one, written. -/
theorem box_put1 {w V : World} {rb : Nat} {x : Value} {t : TypeId} (p : Value) (hM : V.heap[rb]? = some (.cells #[x] t)) (hr : w.heap.size ≤ rb) :
    ∃ V1, V.setCell ⟨rb, 0, none⟩ p = V1 ∧ (V.cell? ⟨rb, 0, none⟩ = some x ∧ V.frozen? ⟨rb, 0, none⟩ = false) ∧ Hid (V1.heap[rb]? = some (.cells #[p] t)) ∧ Hid (Below w.heap.size V V1) :=
  ⟨_, rfl, ⟨(cell_of_row _ _ 0 _ _ _ hM).trans rfl, frozen_of_row _ rb 0 _ t hM⟩, heap_setCell_same V rb 0 _ t p hM, (Below.refl _ V).setCell (p := ⟨rb, 0, none⟩) hr _⟩

set_option maxRecDepth 100000 in
set_option maxHeartbeats 2000000 in
theorem behind_bad (a : Option Addr) (c : Nat) (os : List (Int × Int)) (hbad : ¬ (os.length ≤ 8 ∧ ∀ o ∈ os, validO o.1 o.2 = true)) (calls : Value) (w : World) (h : SlAt w a (obs os)) (hG : Glob T er w) :
    Calls Tryz.prog 9 #[.slice a os.length c, calls] w fun e w' => e = .returned (.tuple #[.agg #[.slice none 0 0], .slice none 0 0, .bool false]) ∧ Hid (Below w.heap.size w w') := by
  obtain ⟨W, hW, Hb, hs, Hx⟩ := cells_new w #[.slice none 0 0] 29
  have H34 := Lib.hid (spnew_bad (T := T) (er := er) a c os hbad W (h.below Hb.out) (hG.below' Hb.out))
  have H35 := Lib.hid (fun V (hV : Below w.heap.size w V) => rnew7_bad a c os hbad V (h.below hV))
  clear h hG hbad
  obtain ⟨n, hn⟩ : ∃ n, os.length = n := ⟨_, rfl⟩
  rw [hn] at H34 H35 ⊢
  clear hn
  go_enter Tryz.func9, Tryz.ntmps9
  go_wp2_with (first
    | (go_at_call 34; (with_reducible refine H34.out.mono ?_); rintro e w2 ⟨t2, p2, rfl, h2⟩
       obtain ⟨V3, hV3, b3, -, TB⟩ := cells_new w2 #[.slice none 0 0] 29
       obtain ⟨F1, hF1, ⟨f0, e0⟩, HF, HE⟩ := box_put1 (w := w2) (V := V3) (.slice none 0 0) TB.out (Nat.le_refl _)
       have BF : Hid (Below w2.heap.size w2 F1) := b3.out.trans HE.out
       have BwF : Hid (Below w.heap.size w F1) := stepB (stepB Hb.out h2.out) BF.out
       have Rx := Lib.hid (keepB BF.out (keepB h2.out Hx.out)))
    | (go_at_call 35; (with_reducible refine (H35.out F1 BwF.out).mono ?_); rintro e w5 ⟨x, b, n2, m2, rfl, hx, h5⟩
       obtain ⟨V6, hV6, b6, -, TB6⟩ := cells_new w5 #[.int .i64 0, .slice none 0 0] 78
       obtain ⟨G1, G2, hG1, hG2, ⟨⟨g0, d0⟩, ⟨g1, d1⟩⟩, HG2, HGE⟩ := box_put2 (w := w5) (V := V6) (.int .i64 x) (.slice b n2 m2) TB6.out (Nat.le_refl _)
       have BG : Hid (Below w5.heap.size w5 G2) := b6.out.trans HGE.out
       have BwG : Hid (Below w.heap.size w G2) := stepB (stepB BwF.out h5.out) BG.out
       have hc7 : G2.cell? ⟨w2.heap.size, 0, none⟩ = some (.slice none 0 0) := (cell_of_row _ _ 0 _ _ _ (keepB BG.out (keepB h5.out HF.out))).trans rfl
       obtain ⟨Q1, hQ1, ⟨q0, q1⟩, HQ, HQE⟩ := box_put1 (w := w) (V := G2) (.slice none 0 0) (keepB BG.out (keepB h5.out Rx.out)) (Nat.le_refl _)))
  refine bodyPost_ret (results_row_tmp2 rfl _ _ w.heap.size 29 _ (0, 0) _ rfl HQ.out Tryz.underlying29 rfl (by kernel_rfl)) rfl ?_
  exact ⟨rfl, BwG.out.trans HQE.out⟩
end Go.Proofs.YtcjfcomadcebnaaGreatDoor

/- Behind: fit objects. -/
namespace Go.Proofs.YtcjfcomadcebnaaGreatDoor
open Go.RowKit Go.Maps Go.WideMaps Go.WideElems Go.ChangeShapes Go.WideShapes
variable {T : TypeId} {er : Nat → Addr}

/-- What Behind's loop keeps. -/
structure Bh (w : World) (b7 : Nat) (S : List PS) (pa : Option Addr) (pn pc : Nat) (u : Value) (V : World) : Prop where
  box : V.heap[b7]? = some (.cells #[.slice pa pn pc] 29)
  res : V.heap[w.heap.size]? = some (.cells #[.slice none 0 0] 29)
  prog : PAt V S (.agg #[.slice pa pn pc])
  doc : SAt V S u
  below : Below w.heap.size w V

set_option maxRecDepth 100000 in
set_option maxHeartbeats 8000000 in
theorem behind_ok (a : Option Addr) (c : Nat) (os : List (Int × Int)) (hn : os.length ≤ 8) (hv : ∀ o ∈ os, validO o.1 o.2 = true) (l : List CO) (hlen : l.length ≤ 200) (hf : ∀ x ∈ l, fits64 x.key ∧ fits64 x.val) (ca : Option Addr) (cc : Nat) (w : World) (h : SlAt w a (obs os)) (hc : SlAt w ca (cls l)) (hG : Glob T er w) :
    Calls Tryz.prog 9 #[.slice a os.length c, .slice ca l.length cc] w fun e w' => ∃ v u, e = .returned (.tuple #[v, u, .bool true]) ∧ Hid (PAt w' (runS (startS os) l) v ∧ SAt w' (runS (startS os) l) u ∧ Below w.heap.size w w') := by
  obtain ⟨W, hW, Hb, hs, Hx⟩ := cells_new w #[.slice none 0 0] 29
  have H34 := Lib.hid (spnew_ok (T := T) (er := er) a c os hn hv W (h.below Hb.out) (hG.below' Hb.out))
  have H35 := Lib.hid (fun V (hV : Below w.heap.size w V) => rnew7_ok a c os hn hv V (h.below hV))
  have HG := Lib.hid hG
  have Hst := Lib.hid (start_ok os hv)
  have HstL : Hid ((startS os).length ≤ 8) := by show _ ≤ _; simpa [startS] using hn
  obtain ⟨m, hm⟩ : ∃ m, l.length = m := ⟨_, rfl⟩
  have Hat : Hid (∀ j, j < m → ∃ cb off co, ca = some ⟨cb, off, none⟩ ∧ l[j]? = some co ∧ (fits64 co.key ∧ fits64 co.val) ∧ cb < w.heap.size ∧ w.cell? ⟨cb, off + j * 4, none⟩ = some (.int .i64 co.obj) ∧ w.cell? ⟨cb, off + j * 4 + 1, none⟩ = some (.int .i64 co.op) ∧ w.cell? ⟨cb, off + j * 4 + 2, none⟩ = some (.int .i64 co.key) ∧ w.cell? ⟨cb, off + j * 4 + 3, none⟩ = some (.int .i64 co.val)) := by
    intro j hj
    have hjl : j < l.length := by omega
    have hjs : l[j]? = some l[j] := List.getElem?_eq_getElem hjl
    obtain ⟨g0, g1, g2, g3⟩ := cls_get l j _ hjs
    rcases hc with ⟨_, h0⟩ | ⟨cb, off, rfl, hbl, hcell⟩
    · rw [h0] at g0; simp at g0
    exact ⟨cb, off, l[j], rfl, hjs, hf _ (List.getElem_mem hjl), hbl (by intro e; rw [e] at g0; simp at g0), hcell _ _ g0, hcell _ _ g1, hcell _ _ g2, hcell _ _ g3⟩
  have Hok : Hid (∀ j, OkS (runS (startS os) (l.take j)) 40000 ∧ (runS (startS os) (l.take j)).length ≤ 8) := by
    intro j
    obtain ⟨h1, h2⟩ := runS_ok (l.take j) Hst.out
    refine ⟨fun s hs => ?_, by rw [h2]; exact HstL.out⟩
    have h3 := h1 s hs
    have h4 := h3.len
    rw [List.length_take] at h4
    exact ⟨h3.kind, h3.reg, h3.cnt, h3.num, h3.vs, h3.ks, h3.vb, h3.kb, h3.rises, by omega⟩
  rw [hm] at hlen ⊢
  have Hm := Lib.hid hm
  clear h hG hv hc hf hm
  obtain ⟨n, hnn⟩ : ∃ n, os.length = n := ⟨_, rfl⟩
  rw [hnn] at H34 H35 ⊢
  clear hnn hn
  go_enter Tryz.func9, Tryz.ntmps9
  go_wp2_with (first
    | (go_at_call 34; (with_reducible refine H34.out.mono ?_); rintro e w2 ⟨v2, rfl, h2⟩
       obtain ⟨pa, pn, pc, rfl⟩ : ∃ x y z, v2 = .agg #[.slice x y z] := by obtain ⟨x, z, e, _⟩ := h2.out.1; exact ⟨_, _, _, e⟩
       obtain ⟨V3, hV3, b3, -, TB⟩ := cells_new w2 #[.slice none 0 0] 29
       obtain ⟨F1, hF1, ⟨f0, e0⟩, HF, HE⟩ := box_put1 (w := w2) (V := V3) (.slice pa pn pc) TB.out (Nat.le_refl _)
       have BF1 : Hid (Below w2.heap.size w2 F1) := b3.out.trans HE.out
       have BwF : Hid (Below w.heap.size w F1) := stepB (stepB Hb.out h2.out.2) BF1.out
       have P1 := Lib.hid (h2.out.1.below BF1.out)
       have Rx := Lib.hid (keepB BF1.out (keepB h2.out.2 Hx.out)))
    | (go_at_call 35; (with_reducible refine (H35.out F1 BwF.out).mono ?_); rintro e w5 ⟨u5, b, n2, m2, rfl, h5⟩
       obtain ⟨V6, hV6, b6, -, TB6⟩ := cells_new w5 #[.int .i64 0, .slice none 0 0] 78
       obtain ⟨G1, G2, hG1, hG2, ⟨⟨g0, d0⟩, ⟨g1, d1⟩⟩, HG2, HGE⟩ := box_put2 (w := w5) (V := V6) (.int .i64 0) (.slice b n2 m2) TB6.out (Nat.le_refl _)
       have BG : Hid (Below w5.heap.size w5 G2) := b6.out.trans HGE.out
       have y0 : G2.cell? ⟨w5.heap.size, 0, none⟩ = some (.int .i64 0) := (cell_of_row _ _ 0 _ _ _ HG2.out).trans rfl
       have B0 : Hid (Bh w w2.heap.size (runS (startS os) (l.take 0)) pa pn pc u5 G2) := ⟨keepB BG.out (keepB h5.out.2 HF.out), keepB BG.out (keepB h5.out.2 Rx.out), (P1.out.below h5.out.2).below BG.out, h5.out.1.below BG.out, stepB (stepB BwF.out h5.out.2) BG.out⟩))
  go_loopw [9, 11] (fun u i wr => ∃ (j : Nat) (pa : Option Addr) (pn pc : Nat), j ≤ m ∧ i = .int .i64 j ∧ Hid (Bh w w2.heap.size (runS (startS os) (l.take j)) pa pn pc u wr)) (fun _ i _ => m - (intOf i).toNat)
  case atStart => exact ⟨0, pa, pn, pc, Nat.zero_le _, rfl, B0.out⟩
  case round =>
    clear y0 B0
    obtain ⟨j, pa, pn, pc, hj, rfl, HB⟩ := hrel
    obtain ⟨u, hu⟩ : ∃ u, u9 = u := ⟨_, rfl⟩
    rw [hu] at HB ⊢
    clear hu
    have z7 : wr.cell? ⟨w2.heap.size, 0, none⟩ = some (.slice pa pn pc) := (cell_of_row _ _ 0 _ _ _ HB.out.box).trans rfl
    by_cases hlt2 : j < m
    · obtain ⟨cb, off, co, rfl, hco, hfit, hcb, c0, c1, c2, c3⟩ := Hat.out j hlt2
      have Step := Lib.hid (runS_step (startS os) l j co hco)
      obtain ⟨hokS, hlenS⟩ := Hok.out j
      obtain ⟨S, hS⟩ : ∃ S, runS (startS os) (l.take j) = S := ⟨_, rfl⟩
      rw [hS] at Step HB hokS hlenS
      clear hS
      have Hb7 : Hid (w2.heap.size < wr.heap.size) := (Array.getElem?_eq_some_iff.1 HB.out.box).1
      have Hcb : Hid (cb < wr.heap.size) := Nat.lt_of_lt_of_le hcb HB.out.below.size
      have Lx0 := Lib.hid z7
      have k0 := (HB.out.below.cell (p := ⟨cb, off + j * 4, none⟩) hcb).trans c0
      have k1 : wr.cell? ⟨cb, off + j * 4 + 1, none⟩ = some (.int .i64 co.op) := (HB.out.below.cell (p := ⟨cb, off + j * 4 + 1, none⟩) hcb).trans c1
      have k2 : wr.cell? ⟨cb, off + j * 4 + 2, none⟩ = some (.int .i64 co.key) := (HB.out.below.cell (p := ⟨cb, off + j * 4 + 2, none⟩) hcb).trans c2
      have k3 : wr.cell? ⟨cb, off + j * 4 + 3, none⟩ = some (.int .i64 co.val) := (HB.out.below.cell (p := ⟨cb, off + j * 4 + 3, none⟩) hcb).trans c3
      have Lx1 := Lib.hid k0
      have Lx2 := Lib.hid k1
      have Lx3 := Lib.hid k2
      have Lx4 := Lib.hid k3
      have HS0 := And.intro z7 (And.intro k0 (And.intro k1 (And.intro k2 k3)))
      have HSP := Lib.hid (fun V (hV : Below wr.heap.size wr V) => spdo_any (T := T) (er := er) S 40000 (Nat.le_refl _) hokS (by omega) _ V (HB.out.prog.below hV) ((HG.out.below' HB.out.below).below' hV) co.obj co.op co.key co.val hfit.1 hfit.2)
      have HDO := Lib.hid (fun V (hV : Below wr.heap.size wr V) => rdo7_any S 40000 (by omega) hokS (by omega) u V (HB.out.doc.below hV) co.obj co.op co.key co.val)
      clear c0 c1 c2 c3 hcb hfit hco hokS
      have hjI : (j : Int) < (m : Int) := by omega
      rcases hd : sdoR S co.obj co.op co.key co.val with cd | ⟨X, r, g⟩
      · have Hd := Lib.hid hd
        have Hgo : Hid (goS S co = S) := by show _ = _; unfold goS; rw [hd]
        clear hd
        go_wp2_with fail
        go_region_held3 (fun w' => w'.cell? ⟨w2.heap.size, 0, none⟩ = some (.slice pa pn pc) ∧ w'.cell? ⟨cb, off + j * 4, none⟩ = some (.int .i64 co.obj) ∧ w'.cell? ⟨cb, off + j * 4 + 1, none⟩ = some (.int .i64 co.op) ∧ w'.cell? ⟨cb, off + j * 4 + 2, none⟩ = some (.int .i64 co.key) ∧ w'.cell? ⟨cb, off + j * 4 + 3, none⟩ = some (.int .i64 co.val)) ((first | (with_reducible exact HS0) | (refine ⟨?_, ?_, ?_, ?_, ?_⟩; all_goals (first | (refine cellB (n := wr.heap.size) ?_ Hb7.out (Lx0.out); (repeat (first | (with_reducible exact B9.out) | (with_reducible exact BF.out) | (with_reducible exact B5.out) | (with_reducible exact B4.out) | (with_reducible exact Below.refl _ _) | (with_reducible refine stepD ?_) | (with_reducible refine stepA ?_ _))); done) | (refine cellB (n := wr.heap.size) ?_ Hcb.out (Lx1.out); (repeat (first | (with_reducible exact B9.out) | (with_reducible exact BF.out) | (with_reducible exact B5.out) | (with_reducible exact B4.out) | (with_reducible exact Below.refl _ _) | (with_reducible refine stepD ?_) | (with_reducible refine stepA ?_ _))); done) | (refine cellB (n := wr.heap.size) ?_ Hcb.out (Lx2.out); (repeat (first | (with_reducible exact B9.out) | (with_reducible exact BF.out) | (with_reducible exact B5.out) | (with_reducible exact B4.out) | (with_reducible exact Below.refl _ _) | (with_reducible refine stepD ?_) | (with_reducible refine stepA ?_ _))); done) | (refine cellB (n := wr.heap.size) ?_ Hcb.out (Lx3.out); (repeat (first | (with_reducible exact B9.out) | (with_reducible exact BF.out) | (with_reducible exact B5.out) | (with_reducible exact B4.out) | (with_reducible exact Below.refl _ _) | (with_reducible refine stepD ?_) | (with_reducible refine stepA ?_ _))); done) | (refine cellB (n := wr.heap.size) ?_ Hcb.out (Lx4.out); (repeat (first | (with_reducible exact B9.out) | (with_reducible exact BF.out) | (with_reducible exact B5.out) | (with_reducible exact B4.out) | (with_reducible exact Below.refl _ _) | (with_reducible refine stepD ?_) | (with_reducible refine stepA ?_ _))); done)))))
          (first
            | (go_at_call 31; (with_reducible refine (HSP.out _ (by (repeat (first | (with_reducible exact B9.out) | (with_reducible exact BF.out) | (with_reducible exact B5.out) | (with_reducible exact B4.out) | (with_reducible exact Below.refl _ _) | (with_reducible refine stepD ?_) | (with_reducible refine stepA ?_ _))))).mono ?_); intro e w4 hr
               unfold SpRes at hr
               rw [Hd.out] at hr
               obtain ⟨t4, p4, rfl, h4⟩ := hr
               have B4 : Hid (Below wr.heap.size wr w4) := stepB (by (repeat (first | (with_reducible exact B9.out) | (with_reducible exact BF.out) | (with_reducible exact B5.out) | (with_reducible exact B4.out) | (with_reducible exact Below.refl _ _) | (with_reducible refine stepD ?_) | (with_reducible refine stepA ?_ _)))) h4.out
               have h4b := Lib.hid h4.out
               first
               | (have TB : Hid (w4.heap[wr.heap.size]? = some (.cells #[.slice none 0 0] 29)) := keepB h4b.out (newA _ rfl)
                  obtain ⟨F, hF, ⟨f0, e0⟩, HF, HE⟩ := box_put1 (w := wr) (V := w4) (.slice none 0 0) TB.out (Nat.le_refl _)
                  have BF : Hid (Below wr.heap.size wr F) := B4.out.trans HE.out
                  have HT := Lib.hid trivial)
               | (obtain ⟨V5, hV5, b5, -, TB⟩ := cells_new w4 #[.slice none 0 0] 29
                  have B5 : Hid (Below wr.heap.size wr V5) := stepB B4.out b5.out
                  obtain ⟨F, hF, ⟨f0, e0⟩, HF, HE⟩ := box_put1 (w := w4) (V := V5) (.slice none 0 0) TB.out (Nat.le_refl _)
                  have BF : Hid (Below wr.heap.size wr F) := B5.out.trans (HE.out.mono B4.out.size)
                  have HT := Lib.hid trivial)))
        all_goals
          go_wp2_with fail
          go_region_held3 (fun w' => w'.cell? ⟨w2.heap.size, 0, none⟩ = some (.slice pa pn pc) ∧ w'.cell? ⟨cb, off + j * 4, none⟩ = some (.int .i64 co.obj) ∧ w'.cell? ⟨cb, off + j * 4 + 1, none⟩ = some (.int .i64 co.op) ∧ w'.cell? ⟨cb, off + j * 4 + 2, none⟩ = some (.int .i64 co.key) ∧ w'.cell? ⟨cb, off + j * 4 + 3, none⟩ = some (.int .i64 co.val)) ((first | (with_reducible exact HS0) | (refine ⟨?_, ?_, ?_, ?_, ?_⟩; all_goals (first | (refine cellB (n := wr.heap.size) ?_ Hb7.out (Lx0.out); (repeat (first | (with_reducible exact B9.out) | (with_reducible exact BF.out) | (with_reducible exact B5.out) | (with_reducible exact B4.out) | (with_reducible exact Below.refl _ _) | (with_reducible refine stepD ?_) | (with_reducible refine stepA ?_ _))); done) | (refine cellB (n := wr.heap.size) ?_ Hcb.out (Lx1.out); (repeat (first | (with_reducible exact B9.out) | (with_reducible exact BF.out) | (with_reducible exact B5.out) | (with_reducible exact B4.out) | (with_reducible exact Below.refl _ _) | (with_reducible refine stepD ?_) | (with_reducible refine stepA ?_ _))); done) | (refine cellB (n := wr.heap.size) ?_ Hcb.out (Lx2.out); (repeat (first | (with_reducible exact B9.out) | (with_reducible exact BF.out) | (with_reducible exact B5.out) | (with_reducible exact B4.out) | (with_reducible exact Below.refl _ _) | (with_reducible refine stepD ?_) | (with_reducible refine stepA ?_ _))); done) | (refine cellB (n := wr.heap.size) ?_ Hcb.out (Lx3.out); (repeat (first | (with_reducible exact B9.out) | (with_reducible exact BF.out) | (with_reducible exact B5.out) | (with_reducible exact B4.out) | (with_reducible exact Below.refl _ _) | (with_reducible refine stepD ?_) | (with_reducible refine stepA ?_ _))); done) | (refine cellB (n := wr.heap.size) ?_ Hcb.out (Lx4.out); (repeat (first | (with_reducible exact B9.out) | (with_reducible exact BF.out) | (with_reducible exact B5.out) | (with_reducible exact B4.out) | (with_reducible exact Below.refl _ _) | (with_reducible refine stepD ?_) | (with_reducible refine stepA ?_ _))); done)))))
            (first
              | (go_at_call 36; (with_reducible refine (HDO.out _ (by (repeat (first | (with_reducible exact B9.out) | (with_reducible exact BF.out) | (with_reducible exact B5.out) | (with_reducible exact B4.out) | (with_reducible exact Below.refl _ _) | (with_reducible refine stepD ?_) | (with_reducible refine stepA ?_ _))))).mono ?_); intro e w8 hr
                 unfold Rdo7 at hr
                 rw [Hd.out] at hr
                 obtain ⟨rfl, h8⟩ := hr
                 have B8 : Hid (Below F.heap.size F w8) := stepB (by first | exact Below.refl _ _ | exact (Below.refl _ _).drew) h8.out
                 have B9 : Hid (Below wr.heap.size wr w8) := stepB BF.out B8.out))
          all_goals
            have HBn : Hid (Bh w w2.heap.size (runS (startS os) (l.take (j + 1))) pa pn pc u w8) := by
              show Bh _ _ _ _ _ _ _ _
              rw [Step.out, Hgo.out]
              exact ⟨keepB B9.out HB.out.box, keepB B9.out HB.out.res, HB.out.prog.below B9.out, HB.out.doc.below B9.out, stepB HB.out.below B9.out⟩
            have hcd : (errD cd == 0) = false := by unfold errD; split <;> (try split) <;> rfl
            go_wp2_with fail
            go_roundw
            case rel => exact ⟨j + 1, pa, pn, pc, by omega, by go_num, HBn.out⟩
            case measure => simp [intOf]; omega

      · have Hd := Lib.hid hd
        have Hgo : Hid (goS S co = X) := by show _ = _; unfold goS; rw [hd]
        clear hd
        go_wp2_with fail
        go_region_held3 (fun w' => w'.cell? ⟨w2.heap.size, 0, none⟩ = some (.slice pa pn pc) ∧ w'.cell? ⟨cb, off + j * 4, none⟩ = some (.int .i64 co.obj) ∧ w'.cell? ⟨cb, off + j * 4 + 1, none⟩ = some (.int .i64 co.op) ∧ w'.cell? ⟨cb, off + j * 4 + 2, none⟩ = some (.int .i64 co.key) ∧ w'.cell? ⟨cb, off + j * 4 + 3, none⟩ = some (.int .i64 co.val)) ((first | (with_reducible exact HS0) | (refine ⟨?_, ?_, ?_, ?_, ?_⟩; all_goals (first | (refine cellB (n := wr.heap.size) ?_ Hb7.out (Lx0.out); (repeat (first | (with_reducible exact B9.out) | (with_reducible exact BF.out) | (with_reducible exact B5.out) | (with_reducible exact B4.out) | (with_reducible exact Below.refl _ _) | (with_reducible refine stepD ?_) | (with_reducible refine stepA ?_ _))); done) | (refine cellB (n := wr.heap.size) ?_ Hcb.out (Lx1.out); (repeat (first | (with_reducible exact B9.out) | (with_reducible exact BF.out) | (with_reducible exact B5.out) | (with_reducible exact B4.out) | (with_reducible exact Below.refl _ _) | (with_reducible refine stepD ?_) | (with_reducible refine stepA ?_ _))); done) | (refine cellB (n := wr.heap.size) ?_ Hcb.out (Lx2.out); (repeat (first | (with_reducible exact B9.out) | (with_reducible exact BF.out) | (with_reducible exact B5.out) | (with_reducible exact B4.out) | (with_reducible exact Below.refl _ _) | (with_reducible refine stepD ?_) | (with_reducible refine stepA ?_ _))); done) | (refine cellB (n := wr.heap.size) ?_ Hcb.out (Lx3.out); (repeat (first | (with_reducible exact B9.out) | (with_reducible exact BF.out) | (with_reducible exact B5.out) | (with_reducible exact B4.out) | (with_reducible exact Below.refl _ _) | (with_reducible refine stepD ?_) | (with_reducible refine stepA ?_ _))); done) | (refine cellB (n := wr.heap.size) ?_ Hcb.out (Lx4.out); (repeat (first | (with_reducible exact B9.out) | (with_reducible exact BF.out) | (with_reducible exact B5.out) | (with_reducible exact B4.out) | (with_reducible exact Below.refl _ _) | (with_reducible refine stepD ?_) | (with_reducible refine stepA ?_ _))); done)))))
          (first
            | (go_at_call 31; (with_reducible refine (HSP.out _ (by (repeat (first | (with_reducible exact B9.out) | (with_reducible exact BF.out) | (with_reducible exact B5.out) | (with_reducible exact B4.out) | (with_reducible exact Below.refl _ _) | (with_reducible refine stepD ?_) | (with_reducible refine stepA ?_ _))))).mono ?_); intro e w4 hr
               unfold SpRes at hr
               rw [Hd.out] at hr
               obtain ⟨v4, rfl, h4⟩ := hr
               have B4 : Hid (Below wr.heap.size wr w4) := stepB (by (repeat (first | (with_reducible exact B9.out) | (with_reducible exact BF.out) | (with_reducible exact B5.out) | (with_reducible exact B4.out) | (with_reducible exact Below.refl _ _) | (with_reducible refine stepD ?_) | (with_reducible refine stepA ?_ _)))) h4.out.2
               obtain ⟨pa2, pn2, pc2, rfl⟩ : ∃ x y z, v4 = .agg #[.slice x y z] := by obtain ⟨x, z, e, _⟩ := h4.out.1; exact ⟨_, _, _, e⟩
               have P4 := Lib.hid h4.out.1
               have h4b := Lib.hid h4.out.2
               first
               | (have TB : Hid (w4.heap[wr.heap.size]? = some (.cells #[.slice none 0 0] 29)) := keepB h4b.out (newA _ rfl)
                  obtain ⟨F, hF, ⟨f0, e0⟩, HF, HE⟩ := box_put1 (w := wr) (V := w4) (.slice pa2 pn2 pc2) TB.out (Nat.le_refl _)
                  have BF : Hid (Below wr.heap.size wr F) := B4.out.trans HE.out
                  have HP : Hid (PAt F X (.agg #[.slice pa2 pn2 pc2])) := by show PAt _ _ _; rw [← hF]; exact P4.out.box TB.out
                  have HT := Lib.hid trivial)
               | (obtain ⟨V5, hV5, b5, -, TB⟩ := cells_new w4 #[.slice none 0 0] 29
                  have B5 : Hid (Below wr.heap.size wr V5) := stepB B4.out b5.out
                  obtain ⟨F, hF, ⟨f0, e0⟩, HF, HE⟩ := box_put1 (w := w4) (V := V5) (.slice pa2 pn2 pc2) TB.out (Nat.le_refl _)
                  have BF : Hid (Below wr.heap.size wr F) := B5.out.trans (HE.out.mono B4.out.size)
                  have HP : Hid (PAt F X (.agg #[.slice pa2 pn2 pc2])) := by show PAt _ _ _; rw [← hF]; exact (P4.out.below b5.out).box TB.out
                  have HT := Lib.hid trivial)))
        all_goals
          go_wp2_with fail
          go_region_held3 (fun w' => w'.cell? ⟨w2.heap.size, 0, none⟩ = some (.slice pa pn pc) ∧ w'.cell? ⟨cb, off + j * 4, none⟩ = some (.int .i64 co.obj) ∧ w'.cell? ⟨cb, off + j * 4 + 1, none⟩ = some (.int .i64 co.op) ∧ w'.cell? ⟨cb, off + j * 4 + 2, none⟩ = some (.int .i64 co.key) ∧ w'.cell? ⟨cb, off + j * 4 + 3, none⟩ = some (.int .i64 co.val)) ((first | (with_reducible exact HS0) | (refine ⟨?_, ?_, ?_, ?_, ?_⟩; all_goals (first | (refine cellB (n := wr.heap.size) ?_ Hb7.out (Lx0.out); (repeat (first | (with_reducible exact B9.out) | (with_reducible exact BF.out) | (with_reducible exact B5.out) | (with_reducible exact B4.out) | (with_reducible exact Below.refl _ _) | (with_reducible refine stepD ?_) | (with_reducible refine stepA ?_ _))); done) | (refine cellB (n := wr.heap.size) ?_ Hcb.out (Lx1.out); (repeat (first | (with_reducible exact B9.out) | (with_reducible exact BF.out) | (with_reducible exact B5.out) | (with_reducible exact B4.out) | (with_reducible exact Below.refl _ _) | (with_reducible refine stepD ?_) | (with_reducible refine stepA ?_ _))); done) | (refine cellB (n := wr.heap.size) ?_ Hcb.out (Lx2.out); (repeat (first | (with_reducible exact B9.out) | (with_reducible exact BF.out) | (with_reducible exact B5.out) | (with_reducible exact B4.out) | (with_reducible exact Below.refl _ _) | (with_reducible refine stepD ?_) | (with_reducible refine stepA ?_ _))); done) | (refine cellB (n := wr.heap.size) ?_ Hcb.out (Lx3.out); (repeat (first | (with_reducible exact B9.out) | (with_reducible exact BF.out) | (with_reducible exact B5.out) | (with_reducible exact B4.out) | (with_reducible exact Below.refl _ _) | (with_reducible refine stepD ?_) | (with_reducible refine stepA ?_ _))); done) | (refine cellB (n := wr.heap.size) ?_ Hcb.out (Lx4.out); (repeat (first | (with_reducible exact B9.out) | (with_reducible exact BF.out) | (with_reducible exact B5.out) | (with_reducible exact B4.out) | (with_reducible exact Below.refl _ _) | (with_reducible refine stepD ?_) | (with_reducible refine stepA ?_ _))); done)))))
            (first
              | (go_at_call 36; (with_reducible refine (HDO.out _ (by (repeat (first | (with_reducible exact B9.out) | (with_reducible exact BF.out) | (with_reducible exact B5.out) | (with_reducible exact B4.out) | (with_reducible exact Below.refl _ _) | (with_reducible refine stepD ?_) | (with_reducible refine stepA ?_ _))))).mono ?_); intro e w8 hr
                 unfold Rdo7 at hr
                 rw [Hd.out] at hr
                 obtain ⟨u8, rfl, h8⟩ := hr
                 have B8 : Hid (Below F.heap.size F w8) := stepB (by first | exact Below.refl _ _ | exact (Below.refl _ _).drew) h8.out.2
                 have B9 : Hid (Below wr.heap.size wr w8) := stepB BF.out B8.out
                 have S8 := Lib.hid h8.out.1))
          all_goals
            have hc12 := (cell_of_row _ _ 0 _ _ _ (keepB B8.out HF.out)).trans rfl
            have HB7 := Lib.hid (keepB B9.out HB.out.box)
            obtain ⟨Q, hQ, ⟨q0, q1⟩, HQ, HQE⟩ := box_put1 (w := w) (V := w8) (.slice pa2 pn2 pc2) HB7.out (Nat.le_trans Hb.out.size h2.out.2.size)
            have HBn : Hid (Bh w w2.heap.size (runS (startS os) (l.take (j + 1))) pa2 pn2 pc2 u8 Q) := by
              show Bh _ _ _ _ _ _ _ _
              rw [Step.out, Hgo.out]
              have hne : w2.heap.size ≠ w.heap.size := Nat.ne_of_gt (Nat.lt_of_lt_of_le hs.out h2.out.2.size)
              have e1 := keepS (o := 0) (v := .slice pa2 pn2 pc2) hne (keepB B9.out HB.out.res)
              have e2 := (HP.out.below B8.out).box (u := .slice pa2 pn2 pc2) HB7.out
              have e3 := S8.out.box (u := .slice pa2 pn2 pc2) HB7.out
              rw [hQ] at e1 e2 e3
              exact ⟨HQ.out, e1, e2, e3, (stepB HB.out.below B9.out).trans HQE.out⟩
            go_wp2_with fail
            go_roundw
            case rel => exact ⟨j + 1, pa2, pn2, pc2, by omega, by go_num, HBn.out⟩
            case measure => simp [intOf]; omega

    · have hjn : j = m := by omega
      obtain ⟨hokS, hlenS⟩ := Hok.out j
      go_wp2_with (first
        | (go_at_call 37; (with_reducible refine (is_true (T := T) (er := er) (runS (startS os) (l.take j)) 40000 (Nat.le_refl _) hokS (by omega) _ u wr HB.out.prog HB.out.doc (HG.out.below' HB.out.below)).mono ?_); rintro e w9 ⟨rfl, h9⟩
           have z9 : w9.cell? ⟨w2.heap.size, 0, none⟩ = some (.slice pa pn pc) := (cell_of_row _ _ 0 _ _ _ (keepB h9.out HB.out.box)).trans rfl
           obtain ⟨Q, hQ, ⟨q0, q1⟩, HQ, HQE⟩ := box_put1 (w := w) (V := w9) (.slice pa pn pc) (keepB h9.out HB.out.res) (Nat.le_refl _)))
      refine bodyPost_ret (results_row_tmp2 rfl _ _ w.heap.size 29 _ (0, 0) _ rfl HQ.out Tryz.underlying29 rfl (by kernel_rfl)) rfl ?_
      have e : l.take j = l := List.take_of_length_le (by rw [Hm.out]; omega)
      have e2 := (HB.out.prog.below h9.out).box (u := .slice pa pn pc) (keepB h9.out HB.out.res)
      have e3 := (HB.out.doc.below h9.out).box (u := .slice pa pn pc) (keepB h9.out HB.out.res)
      rw [hQ, e] at e2 e3
      exact ⟨_, u, rfl, e2, e3, (stepB HB.out.below h9.out).trans HQE.out⟩
end Go.Proofs.YtcjfcomadcebnaaGreatDoor

/- The chapter's examples (first), by a contract. -/
namespace Go.Proofs.YtcjfcomadcebnaaGreatDoor
open Go.RowKit Go.Maps Go.WideMaps Go.WideElems Go.ChangeShapes Go.WideShapes
variable {er : Nat → Addr}

theorem info_some {P : Program} {t : TypeId} {b : Bool} (h : (P.info? t).map (fun i => i.comparable) = some b) : ∃ i, P.info? t = some i ∧ i.comparable = b := by
  cases hi : P.info? t with
  | none => rw [hi] at h; cases h
  | some i => rw [hi] at h; exact ⟨i, rfl, Option.some.inj h⟩
theorem eql_err (a : Addr) (w : World) : (Go.binOp .eql 70 (.iface 212 (.pointer (some a))) (.iface 212 (.pointer (some a)))).run Tryz.prog w = .ok (.bool true) w := by
  obtain ⟨i, hi, hc⟩ := info_some (P := Tryz.prog) (t := 212) (b := true) (by kernel_rfl)
  obtain ⟨j, hj, _⟩ := info_some (P := Tryz.prog) (t := 214) (b := true) (by kernel_rfl)
  simp only [Go.binOp]
  simp [Op.equal, Op.maxDepth, run_equalIn_iface_ptr_same w 9998 (te := 214) a Tryz.underlying70 Tryz.underlying212 hi hc hj]

theorem dec_one {u : Nat} (h : u < 10) : Lib.decDigits u = [UInt8.ofNat (48 + u)] := by rw [Lib.decDigits, dif_pos h]
theorem itoa_d (n : Nat) (h : n < 10) : Lib.itoa (n : Int) = [UInt8.ofNat (48 + n)] := by unfold Lib.itoa; rw [if_neg (by omega), Int.toNat_natCast, dec_one h]
theorem itoa_3 : Lib.itoa 3 = [51] := itoa_d 3 (by decide)
theorem itoa_5 : Lib.itoa 5 = [53] := itoa_d 5 (by decide)

/-- The example's stores. -/
abbrev exS : List P3 := [(1, 5, []), (3, 0, [])]
abbrev exT : List P3 := [(1, 5, []), (3, 0, [32, 51])]
abbrev exQ : PS := ⟨3, 0, [], []⟩
theorem exQ_ok : exQ.Ok 0 := ⟨by decide, by decide, by decide, by decide, by decide, by decide, by decide, by decide, by unfold Rises; simp, by decide⟩
theorem ex_enq {w : World} (hG : Glob 212 er w) : DoIs 3 0 [] 5 0 3 (.tuple #[stv 3 0 [32, 51], .int .i64 1, .int .i64 0, .nilIface]) w := by
  have h := do_any exQ 0 (by decide) exQ_ok 5 0 3 (by unfold fits64; decide) (by unfold fits64; decide) w hG
  have e : doR exQ 5 0 3 = .ok (⟨3, 0, [3], []⟩, 1, 0) := rfl
  rw [e] at h
  have ht : (⟨3, 0, [3], []⟩ : PS).text = [32, 51] := by
    show (32 :: (Lib.itoa 3 ++ [])) ++ [] = _
    rw [itoa_3]; rfl
  change DoIs 3 0 [] 5 0 3 (.tuple #[stv 3 0 (⟨3, 0, [3], []⟩ : PS).text, .int .i64 1, .int .i64 0, .nilIface]) w at h
  rw [ht] at h
  exact h
theorem exS_tells : ∀ s ∈ exS, Tells s := by
  intro s hs
  simp at hs
  rcases hs with rfl | rfl <;> exact ⟨⟨by decide, by decide⟩, by decide⟩
theorem exT_tells : ∀ s ∈ exT, Tells s := by
  intro s hs
  simp at hs
  rcases hs with rfl | rfl <;> exact ⟨⟨by decide, by decide⟩, by decide⟩
theorem exS_key : keyS exS = [114, 101, 103, 105, 115, 116, 101, 114, 32, 53, 59, 32, 113, 117, 101, 117, 101] := by
  show (wordL 1 1 ++ 32 :: Lib.itoa 5) ++ (([59, 32] ++ (wordL 1 3 ++ [])) ++ []) = _
  rw [itoa_5]; rfl
theorem exT_key : keyS exT = [114, 101, 103, 105, 115, 116, 101, 114, 32, 53, 59, 32, 113, 117, 101, 117, 101, 32, 51] := by
  show (wordL 1 1 ++ 32 :: Lib.itoa 5) ++ (([59, 32] ++ (wordL 1 3 ++ [32, 51])) ++ []) = _
  rw [itoa_5]; rfl
theorem sl_new (w : World) (cs : Array Value) (t : TypeId) : SlAt (w.alloc (.cells cs t)) (some ⟨w.heap.size, 0, none⟩) cs.toList :=
  .inr ⟨w.heap.size, 0, rfl, fun _ => by simp, fun j u hj => by
    rw [Nat.zero_add, cell_of_row _ w.heap.size j cs t _ (World.alloc_heap_new w _)]
    simpa using hj⟩
theorem IAt.same {W W' : World} {a : Option Addr} {zs : List Int} (h : IAt W a zs) (e : W'.heap = W.heap) : IAt W' a zs := by
  rcases h with h | ⟨b, off, e1, h⟩
  · exact .inl h
  · exact .inr ⟨b, off, e1, fun k hk => by rw [← h k hk]; simp [World.cell?, e]⟩

/-- What lies while the examples are gone through: both stores, each in its box. -/
structure FsAt (er : Nat → Addr) (w : World) (b1 b3 : Nat) (v1 v3 : Value) (A : World) : Prop where
  below : Below w.heap.size w A
  glob : Glob 212 er A
  box1 : Boxed A b1 29 v1
  box3 : Boxed A b3 29 v3
  sl1 : ∃ a c, v1 = .slice a 2 c ∧ SlAt A a (sts exS)
  sl3 : ∃ a c, v3 = .slice a 2 c ∧ SlAt A a (sts exT)
theorem FsAt.next {w A A' : World} {b1 b3 : Nat} {v1 v3 : Value} (h : FsAt er w b1 b3 v1 v3 A) (hb : Below A.heap.size A A') : FsAt er w b1 b3 v1 v3 A' :=
  ⟨h.below.trans (hb.mono h.below.size), h.glob.below' hb, boxed_below h.box1 hb (Array.getElem?_eq_some_iff.1 h.box1).1, boxed_below h.box3 hb (Array.getElem?_eq_some_iff.1 h.box3).1, by obtain ⟨a, c, e, hs⟩ := h.sl1; exact ⟨a, c, e, hs.below hb⟩, by obtain ⟨a, c, e, hs⟩ := h.sl3; exact ⟨a, c, e, hs.below hb⟩⟩
theorem FsAt.more {w A : World} {b1 b3 : Nat} {v1 v3 : Value} (h : FsAt er w b1 b3 v1 v3 A) (o : Obj) : FsAt er w b1 b3 v1 v3 (A.alloc o) := h.next ((Below.refl _ _).alloc (Nat.le_refl _) _)

theorem ex_do {W : World} (a : Option Addr) (c : Nat) (hs : SlAt W a (stc [(1, 5), (3, 0)])) (hG : Glob 212 er W) :
    Calls Tryz.prog 31 #[.agg #[.slice a 2 c], .int .i64 1, .int .i64 5, .int .i64 0, .int .i64 3] W fun e w' => ∃ v', e = .returned (.tuple #[.agg #[v'], .int .i64 1, .int .i64 0, .nilIface]) ∧ Hid (w'.ownsRow W.heap.size 34 3 v' 2 (sts exT) ∧ Below W.heap.size W w') :=
  sdo_ok a 2 c (stc [(1, 5), (3, 0)]) rfl (stc_one _) (by decide) 1 (by decide) 3 0 [] rfl rfl rfl 5 0 3 3 0 1 0 [32, 51] (fun W h => ex_enq h) W hs hG
theorem ex_out {W : World} (a : Option Addr) (c : Nat) (hG : Glob 212 er W) :
    Calls Tryz.prog 31 #[.agg #[.slice a 2 c], .int .i64 2, .int .i64 1, .int .i64 0, .int .i64 0] W fun e w' => e = .returned (.tuple #[.agg #[.slice none 0 0], .int .i64 0, .int .i64 0, errE 212 er 3]) ∧ Hid (Below W.heap.size W w') :=
  sdo_out a 2 c 2 1 0 0 (by decide) W hG

theorem one2 (x y : Int) : ∀ u ∈ [Value.int .i64 x, .int .i64 y], u.oneCell' = true := by intro u hu; simp at hu; rcases hu with rfl | rfl <;> rfl
theorem one1 (x : Int) : ∀ u ∈ [Value.int .i64 x], u.oneCell' = true := by intro u hu; simp at hu; subst hu; rfl
theorem below_new {W w' : World} (o : Obj) (h : Below (W.alloc o).heap.size (W.alloc o) w') : Below W.heap.size W w' :=
  ((Below.refl _ _).alloc (Nat.le_refl _) o).trans (h.mono (by simp))
/-- A row that was made, read: a slice of so many whole numbers. -/
def IntsV (W W' : World) (xs : List Value) (n : Nat) (v : Value) : Prop := ∃ a c, v = .slice a n c ∧ (a = none → c = 0) ∧ SlAt W' a xs ∧ Below W.heap.size W W'
theorem intsV {W W' : World} {B n : Nat} {v : Value} {xs : List Value} (h : W'.ownsRow B 3 1 v n xs) (hb : Below W.heap.size W W') : IntsV W W' xs n v := by
  obtain ⟨a, c, rfl, hs, _⟩ := row_sl h
  exact ⟨a, c, rfl, (row_sl0 h).2, hs, hb⟩
theorem ex_of2 (W : World) : Calls Tryz.prog 22 #[.slice (some ⟨W.heap.size, 0, none⟩) 2 2] (W.alloc (.cells #[.int .i64 1, .int .i64 2] 3)) fun e w' => ∃ v', e = .returned (.agg #[v']) ∧ IntsV W w' [.int .i64 1, .int .i64 2] 2 v' :=
  (of_int (some ⟨W.heap.size, 0, none⟩) 2 2 [.int .i64 1, .int .i64 2] rfl (one2 _ _) (by decide) _ (sl_new W _ 3)).mono fun _ _ ⟨v', e, h⟩ => ⟨v', e, intsV h.out.1 (below_new _ h.out.2)⟩
theorem ex_of1 (W : World) : Calls Tryz.prog 22 #[.slice (some ⟨W.heap.size, 0, none⟩) 1 1] (W.alloc (.cells #[.int .i64 1] 3)) fun e w' => ∃ v', e = .returned (.agg #[v']) ∧ IntsV W w' [.int .i64 1] 1 v' :=
  (of_int (some ⟨W.heap.size, 0, none⟩) 1 1 [.int .i64 1] rfl (one1 _) (by decide) _ (sl_new W _ 3)).mono fun _ _ ⟨v', e, h⟩ => ⟨v', e, intsV h.out.1 (below_new _ h.out.2)⟩
theorem ex_with (W : World) (a : Option Addr) (c : Nat) (hs : SlAt W a [.int .i64 1, .int .i64 2]) : Calls Tryz.prog 23 #[.agg #[.slice a 2 c], .int .i64 1, .int .i64 7] W fun e w' => ∃ v', e = .returned (.agg #[v']) ∧ IntsV W w' [.int .i64 1, .int .i64 7] 2 v' :=
  (with_int_in a 2 c [.int .i64 1, .int .i64 2] rfl (one2 _ _) (by decide) 1 (by decide) 7 W hs).mono fun _ _ ⟨v', e, h⟩ => ⟨v', e, intsV h.out.1 h.out.2⟩
theorem ex_and (W : World) (a : Option Addr) (c : Nat) (hs : SlAt W a [.int .i64 1]) (hc : a = none → c = 0) : Calls Tryz.prog 24 #[.agg #[.slice a 1 c], .int .i64 2] W fun e w' => ∃ v', e = .returned (.agg #[v']) ∧ IntsV W w' [.int .i64 1, .int .i64 2] 2 v' :=
  (and_int a 1 c [.int .i64 1] rfl (one1 _) (by decide) 2 W hs hc).mono fun _ _ ⟨v', e, h⟩ => ⟨v', e, intsV h.out.1 h.out.2⟩
theorem ex_all (W : World) (a : Option Addr) (c : Nat) (x y : Int) (hs : SlAt W a [.int .i64 x, .int .i64 y]) : Calls Tryz.prog 26 #[.agg #[.slice a 2 c]] W fun e w' => ∃ v', e = .returned v' ∧ IntsV W w' [.int .i64 x, .int .i64 y] 2 v' :=
  (all_int a 2 c [.int .i64 x, .int .i64 y] rfl (one2 _ _) (by decide) W hs).mono fun _ _ ⟨v', e, h⟩ => ⟨v', e, intsV h.out.1 h.out.2⟩
theorem ex_same (W : World) (a : Option Addr) (c : Nat) (x y : Int) (hs : SlAt W a [.int .i64 x, .int .i64 y]) : Calls Tryz.prog 16 #[.slice a 2 c, .slice (some ⟨W.heap.size, 0, none⟩) 2 2] (W.alloc (.cells #[.int .i64 x, .int .i64 y] 3)) fun e w' => e = .returned (.bool true) ∧ Hid (Below W.heap.size W w') := by
  have h1 : IAt (W.alloc (.cells #[.int .i64 x, .int .i64 y] 3)) a [x, y] := SlAt.ints (zs := [x, y]) (hs.below ((Below.refl _ _).alloc (Nat.le_refl _) _))
  have h2 : IAt (W.alloc (.cells #[.int .i64 x, .int .i64 y] 3)) (some ⟨W.heap.size, 0, none⟩) [x, y] := SlAt.ints (zs := [x, y]) (sl_new W _ 3)
  have h := sameInts_any a (some ⟨W.heap.size, 0, none⟩) c 2 [x, y] [x, y] _ h1 h2 (by simp) (by simp)
  rw [decide_eq_true rfl] at h
  exact h.mono fun e w' ⟨e1, q, hq⟩ => ⟨e1, below_new _ (hq ▸ below_drewN (Below.refl _ _) q)⟩
theorem ex_keyS (W : World) (a : Option Addr) (c : Nat) (hs : SlAt W a (sts exS)) (hG : Glob 212 er W) : Calls Tryz.prog 33 #[.agg #[.slice a 2 c]] W fun e w' => e = .returned (tv [114, 101, 103, 105, 115, 116, 101, 114, 32, 53, 59, 32, 113, 117, 101, 117, 101]) ∧ Hid (Below W.heap.size W w') := by
  have h := skey_any a c exS (by decide) exS_tells W hs hG
  rw [exS_key] at h
  exact h
theorem ex_keyT (W : World) (a : Option Addr) (c : Nat) (hs : SlAt W a (sts exT)) (hG : Glob 212 er W) : Calls Tryz.prog 33 #[.agg #[.slice a 2 c]] W fun e w' => e = .returned (tv [114, 101, 103, 105, 115, 116, 101, 114, 32, 53, 59, 32, 113, 117, 101, 117, 101, 32, 51]) ∧ Hid (Below W.heap.size W w') := by
  have h := skey_any a c exT (by decide) exT_tells W hs hG
  rw [exT_key] at h
  exact h

set_option maxRecDepth 100000 in
set_option maxHeartbeats 1000000 in
theorem first_any (w : World) (hG : Glob 212 er w) : Calls Tryz.prog 8 #[] w fun e w' => e = .returned (.bool true) ∧ Hid (Below w.heap.size w w') := by
  have HG := Lib.hid hG
  obtain ⟨W1, hW1, Hb1, hs1, Hp1⟩ := cells_new w #[.int .i64 1, .int .i64 5, .int .i64 3, .int .i64 0] 83
  have HN := Lib.hid (snew_ok (T := 212) (er := er) (some ⟨w.heap.size, 0, none⟩) 2 [(1, 5), (3, 0)] (by decide) (by decide) W1 (hW1 ▸ sl_new w _ 83) (hG.below' Hb1.out))
  have eql := fun a w => eql_err a w
  clear hG
  go_enter Tryz.func8, Tryz.ntmps8
  go_wp2_with (first
    | (go_at_call 34; refine HN.out.mono ?_; rintro e w2 ⟨v2, rfl, h2⟩; obtain ⟨a2, c2, rfl, hsl2, -⟩ := row_sl h2.out.1; obtain ⟨W3, hW3, Hb3, hs3, Hx3⟩ := box_new w2 29 (.slice a2 2 c2); have x3 := Hx3.out.cell; have Hsl3 := Lib.hid (hsl2.below Hb3.out); have HB3 := Lib.hid ((Hb1.out.trans (h2.out.2.mono Hb1.out.size)).trans (Hb3.out.mono (Nat.le_trans Hb1.out.size h2.out.2.size))); have HG3 := Lib.hid (HG.out.below' HB3.out); have HD1 := Lib.hid (ex_do a2 c2 Hsl3.out HG3.out); clear hsl2)
    | (go_at_call 31; first
      | ((with_reducible refine HD1.out.mono ?_); rintro e w4 ⟨v4, rfl, h4⟩; obtain ⟨a4, c4, rfl, hsl4, -⟩ := row_sl h4.out.1; obtain ⟨W5, hW5, Hb5, hs5, Hx5⟩ := box_new w4 29 (.slice a4 2 c4); have HA : Hid (FsAt er w w2.heap.size w4.heap.size (.slice a2 2 c2) (.slice a4 2 c4) W5) := ⟨(HB3.out.trans (h4.out.2.mono HB3.out.size)).trans (Hb5.out.mono (Nat.le_trans HB3.out.size h4.out.2.size)), (HG3.out.below' h4.out.2).below' Hb5.out, boxed_below (boxed_below Hx3.out h4.out.2 hs3.out) Hb5.out (Nat.lt_of_lt_of_le hs3.out h4.out.2.size), Hx5.out, ⟨a2, c2, rfl, (Hsl3.out.below h4.out.2).below Hb5.out⟩, ⟨a4, c4, rfl, hsl4.below Hb5.out⟩⟩; clear hsl4 x3 HD1; have x3 := HA.out.box1.cell; have x5 := HA.out.box3.cell; have HD2 := Lib.hid (ex_out a2 c2 HA.out.glob))
      | ((with_reducible refine HD2.out.mono ?_); rintro e w6 ⟨rfl, h6⟩; obtain ⟨W7, hW7, Hb7, hs7, Hx7⟩ := box_new w6 29 (.slice none 0 0); have x7 := Hx7.out.cell; have f7 := Hx7.out.frozen; obtain ⟨V7, hV7⟩ : ∃ V, W7.setCell ⟨w6.heap.size, 0, none⟩ (.slice none 0 0) = V := ⟨_, rfl⟩; have HV := Lib.hid (HA.out.next (hV7 ▸ ((h6.out.trans (Hb7.out.mono h6.out.size)).setCell (p := ⟨w6.heap.size, 0, none⟩) h6.out.size (.slice none 0 0)))); clear HD2 x3 x5; have HO := Lib.hid (ex_of2 V7)))
    | (go_at_call 22; first
      | ((with_reducible refine HO.out.mono ?_); rintro e w8 ⟨v8, rfl, ⟨a8, c8, rfl, -, s8, b8⟩⟩; have H8 := Lib.hid (HV.out.next b8); have S8 := Lib.hid s8; clear HO b8 s8; have HWi := Lib.hid (ex_with w8 a8 c8 S8.out))
      | ((with_reducible refine HO1.out.mono ?_); rintro e w11 ⟨v11, rfl, ⟨a11, c11, rfl, n11, s11, b11⟩⟩; have H11 := Lib.hid (H10.out.next b11); have S10b := Lib.hid (S10.out.below b11); have HAn := Lib.hid (ex_and w11 a11 c11 s11 n11); clear HO1 b11 s11 n11))
    | (go_at_call 23; (with_reducible refine HWi.out.mono ?_); rintro e w9 ⟨v9, rfl, ⟨a9, c9, rfl, -, s9, b9⟩⟩; have H9 := Lib.hid (H8.out.next b9); have HAl := Lib.hid (ex_all w9 a9 c9 _ _ s9); clear HWi b9 s9)
    | (go_at_call 24; (with_reducible refine HAn.out.mono ?_); rintro e w12 ⟨v12, rfl, ⟨a12, c12, rfl, -, s12, b12⟩⟩; have H12 := Lib.hid (H11.out.next b12); have S10c := Lib.hid (S10b.out.below b12); have HAl2 := Lib.hid (ex_all w12 a12 c12 _ _ s12); clear HAn b12 s12)
    | (go_at_call 26; first
      | ((with_reducible refine HAl.out.mono ?_); rintro e w10 ⟨v10, rfl, ⟨a10, c10, rfl, -, s10, b10⟩⟩; have H10 := Lib.hid (H9.out.next b10); have S10 := Lib.hid s10; have HO1 := Lib.hid (ex_of1 w10); clear HAl b10 s10)
      | ((with_reducible refine HAl2.out.mono ?_); rintro e w13 ⟨v13, rfl, ⟨a13, c13, rfl, -, s13, b13⟩⟩; have H13 := Lib.hid (H12.out.next b13); have S13 := Lib.hid s13; have HSa := Lib.hid (ex_same w13 a10 c10 _ _ (S10c.out.below b13)); clear HAl2 b13 s13))
    | (go_at_call 16; first
      | ((with_reducible refine HSa.out.mono ?_); rintro e w14 ⟨rfl, h14⟩; have H14 := Lib.hid (H13.out.next h14.out); have HSb := Lib.hid (ex_same w14 a13 c13 _ _ (S13.out.below h14.out)); clear HSa)
      | ((with_reducible refine HSb.out.mono ?_); rintro e w15 ⟨rfl, h15⟩; have H15 := Lib.hid (H14.out.next h15.out); clear HSb; obtain ⟨a3', c3', e3', s3'⟩ := H15.out.sl3; cases e3'; have HK1 := Lib.hid (ex_keyT w15 a4 c4 s3' H15.out.glob); clear s3'; have q3 := H15.out.box3.cell))
    | (go_at_call 33; first
      | ((with_reducible refine HK1.out.mono ?_); rintro e w16 ⟨rfl, h16⟩; have H16 := Lib.hid (H15.out.next h16.out); clear HK1 q3; obtain ⟨a1', c1', e1', s1'⟩ := H16.out.sl1; cases e1'; have HK2 := Lib.hid (ex_keyS w16 a2 c2 s1' H16.out.glob); clear s1'; have q1 := H16.out.box1.cell)
      | ((with_reducible refine HK2.out.mono ?_); rintro e w17 ⟨rfl, h17⟩; have H17 := Lib.hid (H16.out.next h17.out); clear HK2 q1; have qe := H17.out.glob.eObject)))
  go_ret
  exact ⟨rfl, H17.out.below⟩
end Go.Proofs.YtcjfcomadcebnaaGreatDoor
