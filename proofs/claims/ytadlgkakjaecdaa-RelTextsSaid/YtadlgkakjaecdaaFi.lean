/- Fits, by a contract. -/
import Derived.Test.YtadlgkakjaecdaaDa
namespace Go.Proofs.Ytadlgkakjaecdaa
open Go.RowKit Go.Maps Go.WideMaps Go.WideElems Go.ChangeShapes Go.WideShapes

/-- A map of places in a list. -/
structure IdxAt (m N : Nat) (f : Int → Option Nat) (DA : DU) (W : World) : Prop where
  own : W.ownsMap Try.prog 3 plain3 m N DA
  val : ∀ b, fit64 b → DA.atKey (.int .i64 b) (.lit (.int .i64 0)) = .lit (.int .i64 ((f b).getD 0 : Nat))
  has : ∀ b, fit64 b → Maps.has DA (.int .i64 b) = (f b).isSome
theorem IdxAt.kept {m N : Nat} {f : Int → Option Nat} {DA : DU} {W W' : World} {row : Option Nat} (h : IdxAt m N f DA W) (hg : W.grownBy W' row) (hne : some m ≠ row) : IdxAt m N f DA W' := ⟨h.own.kept hg hne, h.val, h.has⟩
theorem IdxAt.mono {m N N' : Nat} {f : Int → Option Nat} {DA : DU} {W : World} (h : IdxAt m N f DA W) (hn : N ≤ N') : IdxAt m N' f DA W := ⟨h.own.mono hn, h.val, h.has⟩
theorem IdxAt.look {m N : Nat} {f : Int → Option Nat} {DA : DU} {W : World} (h : IdxAt m N f DA W) {b : Int} (hb : fit64 b) : (Instr.lookup 68 (.map (some m)) (.int .i64 b) true).run Try.prog W = .ok (.tuple #[.int .i64 ((f b).getD 0 : Nat), .bool (f b).isSome]) W := by
  have h0 : plain3 (.int .i64 0) = some (.lit (.int .i64 0), []) := plainElem_int Try.underlying3 (by decide)
  obtain ⟨v, ps, hrun, hv⟩ := h.own.look_ok K3 Try.underlying68 (zero3 W) h0 (keyI b hb)
  obtain ⟨c, rfl, hc, _⟩ := plainElem_int_inv Try.underlying3 hv
  have hc1 := congrArg Prod.fst hc
  simp only at hc1
  rw [h.val b hb] at hc1
  have e : (((f b).getD 0 : Nat) : Int) = c := by simpa using hc1
  rw [hrun, h.has b hb, e]
theorem IdxAt.put {m N N' : Nat} {f : Int → Option Nat} {DA : DU} {W W' : World} (h : IdxAt m N f DA W) {b : Int} (v : Nat) (hb : fit64 b)
    (hown : W'.ownsMap Try.prog 3 plain3 m N' (DA.put (.int .i64 b) (.lit (.int .i64 (v : Int))))) : IdxAt m N' (fun x => if x = b then some v else f x) (DA.put (.int .i64 b) (.lit (.int .i64 (v : Int)))) W' := by
  have hD : IsMap DA := by obtain ⟨es, clock, _, _, _, hD⟩ := h.own; exact ⟨_, hD⟩
  refine ⟨hown, fun c hc => ?_, fun c hc => ?_⟩
  · by_cases hcb : c = b
    · subst hcb
      rw [Maps.atKey_put_same hD (K3.key (keyI c hc))]
      simp
    · have hne : (Lit.int .i64 c) ≠ .int .i64 b := fun e => hcb (by simpa using e)
      rw [Maps.atKey_put_other hne, h.val c hc]
      simp [hcb]
  · by_cases hcb : c = b
    · subst hcb
      rw [Maps.has_put_same hD (K3.key (keyI c hc))]
      simp
    · have hne : (Lit.int .i64 c) ≠ .int .i64 b := fun e => hcb (by simpa using e)
      rw [Maps.has_put_other hne, h.has c hc]
      simp [hcb]
theorem idx_made (w : World) : IdxAt w.heap.size 0 (fun _ => none) (.map []) (w.alloc (.map #[] 0)) := ⟨World.ownsMap_made w Try.prog 3 plain3, fun _ _ => rfl, fun _ _ => rfl⟩
def FSpec (l : List Int) (f : Int → Option Nat) : Prop := ∀ x, (f x = none ∧ x ∉ l) ∨ ∃ i, f x = some i ∧ l[i]? = some x ∧ ∀ j, l[j]? = some x → i ≤ j
def LSpec (l : List Int) (f : Int → Option Nat) : Prop := ∀ x, (f x = none ∧ x ∉ l) ∨ ∃ i, f x = some i ∧ l[i]? = some x ∧ ∀ j, l[j]? = some x → j ≤ i
theorem get_snoc {l : List Int} {y x : Int} {j : Nat} (h : (l ++ [y])[j]? = some x) : l[j]? = some x ∨ (j = l.length ∧ x = y) := by
  by_cases hj : j < l.length
  · rw [List.getElem?_append_left hj] at h; exact .inl h
  · rw [List.getElem?_append_right (by omega)] at h
    have h1 : j - l.length = 0 := by
      have := (List.getElem?_eq_some_iff.1 h).1
      simp at this; omega
    rw [h1] at h
    simp at h
    exact .inr ⟨by omega, h.symm⟩
theorem get_old {l : List Int} {y x : Int} {j : Nat} (h : l[j]? = some x) : (l ++ [y])[j]? = some x := by
  rw [List.getElem?_append_left (List.getElem?_eq_some_iff.1 h).1]; exact h
theorem FSpec.old {l : List Int} {f : Int → Option Nat} (h : FSpec l f) {y : Int} {i0 : Nat} (hy : f y = some i0) : FSpec (l ++ [y]) f := fun x => by
  rcases h x with ⟨h1, h2⟩ | ⟨i, h1, h2, h3⟩
  · refine .inl ⟨h1, fun hm => ?_⟩
    rcases List.mem_append.1 hm with e | e
    · exact h2 e
    · simp at e; subst e; rw [h1] at hy; cases hy
  · refine .inr ⟨i, h1, get_old h2, fun j hj => ?_⟩
    rcases get_snoc hj with e | ⟨e, _⟩
    · exact h3 j e
    · have := (List.getElem?_eq_some_iff.1 h2).1; omega
theorem FSpec.new {l : List Int} {f : Int → Option Nat} (h : FSpec l f) {y : Int} (hy : f y = none) : FSpec (l ++ [y]) (fun x => if x = y then some l.length else f x) := fun x => by
  by_cases hxy : x = y
  · subst hxy
    refine .inr ⟨l.length, by simp, by simp, fun j hj => ?_⟩
    rcases get_snoc hj with e | ⟨e, _⟩
    · rcases h x with ⟨_, h2⟩ | ⟨i, h1, _⟩
      · exact absurd (List.mem_of_getElem? e) h2
      · rw [h1] at hy; cases hy
    · omega
  · simp only [hxy, if_false]
    rcases h x with ⟨h1, h2⟩ | ⟨i, h1, h2, h3⟩
    · exact .inl ⟨h1, by simp [h2, hxy]⟩
    · refine .inr ⟨i, h1, get_old h2, fun j hj => ?_⟩
      rcases get_snoc hj with e | ⟨_, e⟩
      · exact h3 j e
      · exact absurd e hxy
theorem LSpec.step {l : List Int} {f : Int → Option Nat} (h : LSpec l f) (y : Int) : LSpec (l ++ [y]) (fun x => if x = y then some l.length else f x) := fun x => by
  by_cases hxy : x = y
  · subst hxy
    refine .inr ⟨l.length, by simp, by simp, fun j hj => ?_⟩
    rcases get_snoc hj with e | ⟨e, _⟩
    · have := (List.getElem?_eq_some_iff.1 e).1; omega
    · omega
  · simp only [hxy, if_false]
    rcases h x with ⟨h1, h2⟩ | ⟨i, h1, h2, h3⟩
    · exact .inl ⟨h1, by simp [h2, hxy]⟩
    · refine .inr ⟨i, h1, get_old h2, fun j hj => ?_⟩
      rcases get_snoc hj with e | ⟨_, e⟩
      · exact h3 j e
      · exact absurd e hxy
/-- The order does not fit a pair. -/
def BadAt (zs : List Int) (p : Pr) : Prop := ∃ i j : Nat, i ≤ j ∧ zs[i]? = some p.2 ∧ zs[j]? = some p.1
theorem bad_iff {zs : List Int} {f1 f2 : Int → Option Nat} (h1 : FSpec zs f1) (h2 : LSpec zs f2) (p : Pr) : BadAt zs p ↔ ∃ i j, f1 p.2 = some i ∧ f2 p.1 = some j ∧ i ≤ j := by
  constructor
  · rintro ⟨i, j, hij, hi, hj⟩
    rcases h1 p.2 with ⟨_, h⟩ | ⟨i', a1, a2, a3⟩
    · exact absurd (List.mem_of_getElem? hi) h
    · rcases h2 p.1 with ⟨_, h⟩ | ⟨j', b1, b2, b3⟩
      · exact absurd (List.mem_of_getElem? hj) h
      · exact ⟨i', j', a1, b1, by have := a3 i hi; have := b3 j hj; omega⟩
  · rintro ⟨i, j, hi, hj, hij⟩
    rcases h1 p.2 with ⟨a1, _⟩ | ⟨i', a1, a2, a3⟩
    · rw [a1] at hi; cases hi
    · rcases h2 p.1 with ⟨b1, _⟩ | ⟨j', b1, b2, b3⟩
      · rw [b1] at hj; cases hj
      · rw [a1] at hi; rw [b1] at hj
        cases hi; cases hj
        exact ⟨_, _, hij, a2, b2⟩
/-- A slice of numbers that can be read. -/
def SlI (W : World) (a : Option Addr) (l : List Int) : Prop := l = [] ∨ ∃ b off, a = some ⟨b, off, none⟩ ∧ (l ≠ [] → b < W.heap.size) ∧ ∀ (k : Nat) (x : Int), l[k]? = some x → W.cell? ⟨b, off + k, none⟩ = some (.int .i64 x)
theorem SlI.below {W W' : World} {a : Option Addr} {l : List Int} (h : SlI W a l) (hb : W.grownBy W' none) : SlI W' a l := by
  rcases h with h | ⟨b, off, e, hl, h⟩
  · exact .inl h
  · refine .inr ⟨b, off, e, fun hx => Nat.lt_of_lt_of_le (hl hx) hb.size, fun k x hk => ?_⟩
    exact hb.cell (h k x hk) (by simp)
theorem SlI.at {W : World} {a : Option Addr} {l : List Int} (h : SlI W a l) {k : Nat} (hk : k < l.length) : ∃ b off, a = some ⟨b, off, none⟩ ∧ W.cell? ⟨b, off + k, none⟩ = some (.int .i64 (l.getD k 0)) := by
  rcases h with rfl | ⟨b, off, e, _, h⟩
  · simp at hk
  · exact ⟨b, off, e, h k _ (by simp [hk])⟩

set_option maxHeartbeats 4000000 in
set_option maxRecDepth 100000 in
theorem fits_any (r b : Nat) (L : List Pr) (D : DU) (hn : L.length ≤ 10000) (a : Option Addr) (c : Nat) (zs : List Int) (hz : zs.length ≤ 10000) (hzf : ∀ x ∈ zs, fit64 x) (w : World) (h : RelAt r b L D w) (hs : SlI w a zs) :
    Calls Try.prog 24 #[.pointer (some ⟨r, 0, none⟩), .slice a zs.length c] w fun e w' => ∃ c, e = .returned (.bool c) ∧ Hid ((c = true ↔ ∀ p ∈ L, ¬ BadAt zs p) ∧ Below w.heap.size w w') := by
  have hmm := @run_makeMap Try.prog
  obtain ⟨n, hnn⟩ : ∃ n, zs.length = n := ⟨_, rfl⟩
  rw [hnn] at hz ⊢
  have Hn := Lib.hid hnn
  have H := Lib.hid h
  have Hs := Lib.hid hs
  have HL := Lib.hid hn
  have Hzf := Lib.hid hzf
  have Hfit := Lib.hid h.prs.fit
  obtain ⟨W2, hW2⟩ : ∃ W, (w.alloc (.map #[] 0)).alloc (.map #[] 0) = W := ⟨_, rfl⟩
  have hsz : (w.alloc (.map #[] 0)).heap.size = w.heap.size + 1 := by simp
  have hI : Hid (IdxAt w.heap.size 0 (fun _ => none) (.map []) W2 ∧ IdxAt (w.heap.size + 1) 0 (fun _ => none) (.map []) W2 ∧ w.grownBy W2 none) := by
    refine ⟨?_, ?_, ?_⟩
    · rw [← hW2]; exact (idx_made w).kept (World.grownBy_alloc _ _ none) (by simp)
    · have := idx_made (w.alloc (.map #[] 0))
      rw [hsz, hW2] at this
      exact this
    · rw [← hW2]; exact (World.grownBy_alloc w _ none).trans (World.grownBy_alloc _ _ none)
  clear h hs hn hzf hnn hsz
  go_enter Try.func24, Try.ntmps24
  go_wp2
  go_loopw [20] (fun i wr => ∃ (k : Nat) (D1 D2 : DU) (f1 f2 : Int → Option Nat), i = .int .i64 k ∧ k ≤ n ∧ Hid (IdxAt w.heap.size k f1 D1 wr ∧ IdxAt (w.heap.size + 1) k f2 D2 wr ∧ w.grownBy wr none ∧ FSpec (zs.take k) f1 ∧ LSpec (zs.take k) f2)) (fun i _ => n - (intOf i).toNat)
  case atStart => exact ⟨0, _, _, _, _, rfl, Nat.zero_le _, hI.out.1, hI.out.2.1, hI.out.2.2, fun x => .inl ⟨rfl, by simp⟩, fun x => .inl ⟨rfl, by simp⟩⟩
  case round =>
    obtain ⟨k, D1, D2, f1, f2, rfl, hk, HR⟩ := hrel
    by_cases hlt : k < n
    · have hkz : k < zs.length := by rw [Hn.out]; exact hlt
      obtain ⟨b', off', rfl, hc0⟩ := (Hs.out.below HR.out.2.2.1).at hkz
      have hmem : zs.getD k 0 ∈ zs := by
        rw [List.getD_eq_getElem?_getD, List.getElem?_eq_getElem hkz]
        exact List.getElem_mem hkz
      have htk : zs.take (k + 1) = zs.take k ++ [zs.getD k 0] := by
        rw [List.take_add_one, List.getElem?_eq_getElem hkz, List.getD_eq_getElem?_getD, List.getElem?_eq_getElem hkz]
        rfl
      have htl : (zs.take k).length = k := by rw [List.length_take]; omega
      generalize zs.getD k 0 = z at *
      have Hfz := Lib.hid (Hzf.out z hmem)
      have Htk := Lib.hid htk
      have Htl := Lib.hid htl
      have Hwf : Hid (fit64 (k : Int)) := fit_small (by omega) (by omega)
      have hlook := HR.out.1.look Hfz.out
      have hm12 : some (w.heap.size + 1) ≠ some w.heap.size := fun e => by simp at e
      have hm21 : some w.heap.size ≠ some (w.heap.size + 1) := fun e => by simp at e
      have Hm12 := Lib.hid hm12
      have Hm21 := Lib.hid hm21
      clear hmem htk htl hkz hm12 hm21
      have hf := HR.out.2.2.2.1 z
      rcases hf with ⟨hf, _⟩ | ⟨i0, hf, _⟩
      · rw [hf] at hlook
        simp only [Option.getD_none, Option.isSome_none] at hlook
        have Hf := Lib.hid hf
        clear hf
        go_wp2_with (first
          | (at_mapUpdate; refine wpList_mapUpdate_own _ rfl _ _ _ 68 rfl 3 3 K3 Try.underlying68 plain3 w.heap.size k D1 rfl HR.out.1.own (by unfold maxLen; omega) _ _ _ rfl rfl (keyI z Hfz.out) _ [] (plainElem_int Try.underlying3 Hwf.out) ?_; intro w5 hown5 hgrow5
             have H15 := Lib.hid (HR.out.1.put k Hfz.out hown5)
             have H25 := Lib.hid (HR.out.2.1.kept hgrow5 Hm12.out)
             have Hg5 : Hid (w.grownBy w5 none) := HR.out.2.2.1.andThen hgrow5 (fun j e => by cases e; exact .inl (Nat.le_refl _))
             clear hown5 hgrow5)
          | (at_mapUpdate; refine wpList_mapUpdate_own _ rfl _ _ _ 68 rfl 3 3 K3 Try.underlying68 plain3 (w.heap.size + 1) k D2 rfl H25.out.own (by unfold maxLen; omega) _ _ _ rfl rfl (keyI z Hfz.out) _ [] (plainElem_int Try.underlying3 Hwf.out) ?_; intro w7 hown7 hgrow7)
          | go_in)
        have H17 := Lib.hid (H15.out.kept hgrow7 Hm21.out)
        have H27 := Lib.hid (H25.out.put k Hfz.out hown7)
        have Hg7 : Hid (w.grownBy w7 none) := Hg5.out.andThen hgrow7 (fun j e => by cases e; exact .inl (Nat.le_succ _))
        have HF : Hid (FSpec (zs.take (k + 1)) (fun x => if x = z then some k else f1 x)) := by
          have h1 := HR.out.2.2.2.1.new Hf.out
          rw [Htl.out] at h1
          show FSpec _ _
          rw [Htk.out]; exact h1
        have HLs : Hid (LSpec (zs.take (k + 1)) (fun x => if x = z then some k else f2 x)) := by
          have h1 := HR.out.2.2.2.2.step z
          rw [Htl.out] at h1
          show LSpec _ _
          rw [Htk.out]; exact h1
        clear hown7 hgrow7
        go_wp2
        go_roundw
        case rel => exact ⟨k + 1, _, _, _, _, by go_num, by omega, H17.out, H27.out, Hg7.out, HF.out, HLs.out⟩
        case measure => simp [intOf]; omega
      · rw [hf] at hlook
        simp only [Option.getD_some, Option.isSome_some] at hlook
        have Hf := Lib.hid hf
        clear hf
        go_wp2_with (first
          | (at_mapUpdate; refine wpList_mapUpdate_own _ rfl _ _ _ 68 rfl 3 3 K3 Try.underlying68 plain3 (w.heap.size + 1) k D2 rfl HR.out.2.1.own (by unfold maxLen; omega) _ _ _ rfl rfl (keyI z Hfz.out) _ [] (plainElem_int Try.underlying3 Hwf.out) ?_; intro w7 hown7 hgrow7)
          | go_in)
        have H17 := Lib.hid ((HR.out.1.kept hgrow7 Hm21.out).mono (Nat.le_succ k))
        have H27 := Lib.hid (HR.out.2.1.put k Hfz.out hown7)
        have Hg7 : Hid (w.grownBy w7 none) := HR.out.2.2.1.andThen hgrow7 (fun j e => by cases e; exact .inl (Nat.le_succ _))
        have HF : Hid (FSpec (zs.take (k + 1)) f1) := by
          have h1 := HR.out.2.2.2.1.old Hf.out (y := z)
          show FSpec _ _
          rw [Htk.out]; exact h1
        have HLs : Hid (LSpec (zs.take (k + 1)) (fun x => if x = z then some k else f2 x)) := by
          have h1 := HR.out.2.2.2.2.step z
          rw [Htl.out] at h1
          show LSpec _ _
          rw [Htk.out]; exact h1
        clear hown7 hgrow7
        go_wp2
        go_roundw
        case rel => exact ⟨k + 1, _, _, _, _, by go_num, by omega, H17.out, H27.out, Hg7.out, HF.out, HLs.out⟩
        case measure => simp [intOf]; omega
    · have hkn : k = n := by omega
      subst hkn
      have HF : Hid (FSpec zs f1) := by
        have h1 := HR.out.2.2.2.1
        rw [← Hn.out, List.take_length] at h1
        exact h1
      have HLs : Hid (LSpec zs f2) := by
        have h1 := HR.out.2.2.2.2
        rw [← Hn.out, List.take_length] at h1
        exact h1
      have Hr := Lib.hid (H.out.kept HR.out.2.2.1 (by simp) (by simp))
      have c1 := Hr.out.box.cell
      clear hlt hk
      go_wp2_with (first | (at_range; refine wpList_range_own _ rfl _ 59 rfl 57 62 K57 Try.underlying59 unitElem b L.length D rfl Hr.out.prs.own ?_; intro w2 hrg2 hg2 hs2) | go_in)
      go_frame
      obtain ⟨rg, hrg⟩ : ∃ rg, wr.heap.size = rg := ⟨_, rfl⟩
      rw [hrg] at hrg2 ⊢
      have H2 : Hid (RngP Try.prog 57 b rg L [] D (has D) (Maps.size D) w2 ∧ IdxAt w.heap.size k f1 D1 w2 ∧ IdxAt (w.heap.size + 1) k f2 D2 w2 ∧ w.grownBy w2 none ∧ ∀ p ∈ ([] : List Pr), ¬ BadAt zs p) := ⟨rng_start Hr.out.prs hrg2, HR.out.1.kept hg2 (by simp), HR.out.2.1.kept hg2 (by simp), HR.out.2.2.1.trans hg2, by simp⟩
      have Hrg : Hid (w.heap.size + 1 < rg) := by
        have h1 := HR.out.2.1.own.lt
        show _ < _
        omega
      clear hrg2 hg2 hs2 hrg c1 Hr HR
      go_loopw [11] (fun _ wr => ∃ done left cnt, Hid (RngP Try.prog 57 b rg L done D left cnt wr ∧ IdxAt w.heap.size k f1 D1 wr ∧ IdxAt (w.heap.size + 1) k f2 D2 wr ∧ w.grownBy wr none ∧ ∀ p ∈ done, ¬ BadAt zs p)) (fun _ wr => wr.rangeLeft b rg)
      case atStart => exact ⟨[], _, _, H2⟩
      case round =>
        obtain ⟨done, left, cnt, HR⟩ := hrel
        go_wp2_with (first | (at_next; refine wpList_next_ranges _ rfl _ rfl 57 K57 unitElem pv (fun _ : Unit => .agg #[]) invK57 invU b rg L.length D left cnt rfl HR.out.1.rng ?_ ?_) | go_in)
        · intro hc0 hl0
          have Hall := Lib.hid (rng_all HR.out.1 Hfit.out hl0)
          clear hc0 hl0
          go_wp2
          go_ret
          exact ⟨_, rfl, ⟨fun _ p hp => HR.out.2.2.2.2 p ((Hall.out p).2 hp), fun _ => rfl⟩, (Below.refl _ _).grown HR.out.2.2.2.1 (Nat.le_refl _) (fun k e => by cases e)⟩
        · intro x1 x2 kl y1 y2 w3 cnt3 hkx hlk hv hat hrg3 hlt3 hg3 hs3 hen
          obtain ⟨hfx, rfl⟩ := inv57 (x := (x1, x2)) hkx
          obtain ⟨hxL, hxn, hrng⟩ := rng_more A57 Try.underlying3 sz57 K57 HR.out.1 hfx hlk hrg3
          obtain ⟨left3, hrng⟩ : ∃ l, RngP Try.prog 57 b rg L (done ++ [(x1, x2)]) D l cnt3 w3 := ⟨_, hrng⟩
          have hn1 : some w.heap.size ≠ some rg := fun e => by
            have h1 : w.heap.size = rg := by simpa using e
            have h2 := Hrg.out
            omega
          have hn2 : some (w.heap.size + 1) ≠ some rg := fun e => by
            have h1 : w.heap.size + 1 = rg := by simpa using e
            have h2 := Hrg.out
            omega
          have hgro3 : w.grownBy w3 none := HR.out.2.2.2.1.andThen hg3 (fun j e => by cases e; left; have h2 := Hrg.out; omega)
          obtain ⟨W4, hW4, hb4, hs4, k0, k1⟩ := two_new w3 (.int .i64 x1) (.int .i64 x2) 57
          have Hrng4 := Lib.hid (hrng.keep (grown_below hb4.out) (by simp) (by simp))
          have H14 := Lib.hid ((HR.out.2.1.kept hg3 hn1).kept (grown_below hb4.out) (by simp))
          have H24 := Lib.hid ((HR.out.2.2.1.kept hg3 hn2).kept (grown_below hb4.out) (by simp))
          have Hg4 : Hid (w.grownBy W4 none) := hgro3.trans (grown_below hb4.out)
          have Hm4 : Hid (W4.rangeLeft b rg < wr.rangeLeft b rg) := by show _ < _; rw [Hrng4.out.rng.left_eq, HR.out.1.rng.left_eq]; exact hlt3
          have hlook1 := H24.out.look hfx.1
          have hlook2 := H14.out.look hfx.2
          have HxL := Lib.hid hxL
          have hbad := bad_iff HF.out HLs.out (x1, x2)
          simp only at hbad
          clear hkx hlk hv hat hrg3 hlt3 hg3 hs3 hxL hxn hrng hgro3 hfx hn1 hn2
          obtain ⟨o2, ho2⟩ : ∃ o, f2 x1 = o := ⟨_, rfl⟩
          obtain ⟨o1, ho1⟩ : ∃ o, f1 x2 = o := ⟨_, rfl⟩
          rw [ho2] at hlook1 hbad
          rw [ho1] at hlook2 hbad
          rcases o2 with _ | j
          · have Hnb : Hid (¬ BadAt zs (x1, x2)) := by
              show ¬ _
              rw [hbad]
              rintro ⟨i, j, _, h, _⟩
              cases h
            simp only [Option.getD_none, Option.isSome_none] at hlook1
            clear hbad ho1 ho2
            go_wp2
            go_roundw
            case rel =>
              refine ⟨done ++ [(x1, x2)], _, _, Hrng4.out, H14.out, H24.out, Hg4.out, fun p hp => ?_⟩
              rcases List.mem_append.1 hp with h1 | h1
              · exact HR.out.2.2.2.2 p h1
              · simp at h1; subst h1; exact Hnb.out
            case measure => exact Hm4.out
          rcases o1 with _ | i
          · have Hnb : Hid (¬ BadAt zs (x1, x2)) := by
              show ¬ _
              rw [hbad]
              rintro ⟨i, j, h, _, _⟩
              cases h
            simp only [Option.getD_none, Option.isSome_none] at hlook2
            simp only [Option.getD_some, Option.isSome_some] at hlook1
            clear hbad ho1 ho2
            go_wp2
            go_roundw
            case rel =>
              refine ⟨done ++ [(x1, x2)], _, _, Hrng4.out, H14.out, H24.out, Hg4.out, fun p hp => ?_⟩
              rcases List.mem_append.1 hp with h1 | h1
              · exact HR.out.2.2.2.2 p h1
              · simp at h1; subst h1; exact Hnb.out
            case measure => exact Hm4.out
          simp only [Option.getD_some, Option.isSome_some] at hlook1 hlook2
          by_cases hij : i ≤ j
          · have Hb : Hid (BadAt zs (x1, x2)) := hbad.2 ⟨i, j, rfl, rfl, hij⟩
            have e1 : decide ((i : Int) ≤ (j : Int)) = true := by simp; omega
            clear hbad ho1 ho2
            go_wp2
            go_ret
            exact ⟨_, rfl, ⟨(fun h => Bool.noConfusion h), (fun h => absurd Hb.out (h _ HxL.out))⟩, (Below.refl _ _).grown Hg4.out (Nat.le_refl _) (fun k e => by cases e)⟩
          · have Hnb : Hid (¬ BadAt zs (x1, x2)) := by
              show ¬ _
              rw [hbad]
              rintro ⟨i', j', h1, h2, h3⟩
              cases h1; cases h2
              exact hij h3
            have e1 : decide ((i : Int) ≤ (j : Int)) = false := by simp; omega
            clear hbad ho1 ho2
            go_wp2
            go_roundw
            case rel =>
              refine ⟨done ++ [(x1, x2)], _, _, Hrng4.out, H14.out, H24.out, Hg4.out, fun p hp => ?_⟩
              rcases List.mem_append.1 hp with h1 | h1
              · exact HR.out.2.2.2.2 p h1
              · simp at h1; subst h1; exact Hnb.out
            case measure => exact Hm4.out
end Go.Proofs.Ytadlgkakjaecdaa
