/- From at a key whose head is an object's word, by contracts. -/
import Derived.Test.YtgnpcbpbmalgiaaDoorSw
namespace Go.Proofs.YtgnpcbpbmalgiaaDoor
open Go.RowKit Go.Maps Go.WideMaps Go.WideElems Go.ChangeShapes Go.WideShapes

variable {T : TypeId} {er : Nat → Addr}

/-- What lies while From runs: the answer's box, and the state's. -/
structure FrAt (T : TypeId) (er : Nat → Addr) (w : World) (Z : Nat) (V : World) (k n : Int) (L : List UInt8) : Prop where
  below : Below w.heap.size w V
  glob : Glob T er V
  out : StAt V w.heap.size 0 0 []
  box : StAt V Z k n L
theorem FrAt.next {w V V' : World} {Z : Nat} {k n : Int} {L : List UInt8} (h : FrAt T er w Z V k n L) (hb : Below V.heap.size V V') : FrAt T er w Z V' k n L :=
  ⟨h.below.trans (hb.mono h.below.size), h.glob.below' hb, h.out.below' hb, h.box.below' hb⟩
theorem frAt_start {w W : World} (hb : Below w.heap.size w W) (hs : W.heap.size = w.heap.size + 1) (hz : StAt W w.heap.size 0 0 []) (hG : Glob T er w) (q : Nat) (k : Int) :
    FrAt T er w (w.heap.size + 1) ((W.drewN q).alloc (.cells #[.int .i64 k, .int .i64 0, .string ⟨#[]⟩] 27)) k 0 [] := by
  have h1 : Below W.heap.size W (W.drewN q) := below_drewN (Below.refl _ _) q
  have h2 : Below W.heap.size W ((W.drewN q).alloc (.cells #[.int .i64 k, .int .i64 0, .string ⟨#[]⟩] 27)) := h1.alloc (Nat.le_refl _) _
  have hst : StAt ((W.drewN q).alloc (.cells #[.int .i64 k, .int .i64 0, .string ⟨#[]⟩] 27)) W.heap.size k 0 [] := stAt_new (W.drewN q) k 0 []
  rw [hs] at hst
  exact ⟨hb.trans (h2.mono hb.size), (hG.below' hb).below' h2, hz.below' h2, hst⟩
theorem rising_b (w : World) : Calls Tryd.prog 28 #[] w fun e w' => ∃ B, e = .returned (mjv B) ∧ Hid (JudgeAt w' B true 0 ∧ Below w.heap.size w w' ∧ w.heap.size ≤ B) :=
  (rising_any w).mono fun e w' ⟨he, h⟩ => ⟨_, he, h.out.1, h.out.2.1, Nat.le_refl _⟩
/-- An error, or the state. -/
def ansV (ev ok : Value) : Value := match ev with
  | .nilIface => .tuple #[ok, .nilIface]
  | e => .tuple #[stv 0 0 [], e]
theorem err_is {ev : Value} (h : ev = .nilIface ∨ ∃ i, ev = errE T er i) : ev = .nilIface ∨ (ev ≠ .nilIface ∧ ∃ i, ev = errE T er i) := by
  rcases h with h | ⟨i, h⟩
  · exact .inl h
  · exact .inr ⟨by rw [h]; simp, i, h⟩

set_option maxRecDepth 100000 in
set_option maxHeartbeats 4000000 in
theorem from_1 (key : List UInt8) (hl : key.length ≤ 1000000000) (hc : codeL 1 (headL key) = some 1) (x : Int) (ev : Value) (hev : ev = .nilIface ∨ ∃ i, ev = errE T er i)
    (ha : ∀ W, Glob T er W → Calls Tryd.prog 25 #[tv (key.drop (headL key).length), .int .i64 1000000000] W fun e w' => e = .returned (.tuple #[.int .i64 x, ev]) ∧ Hid (Below W.heap.size W w'))
    (w : World) (hG : Glob T er w) : Calls Tryd.prog 13 #[tv key] w fun e w' => e = .returned (ansV ev (stv 1 x [])) ∧ Hid (Below w.heap.size w w') := by
  obtain ⟨W, hW⟩ : ∃ W, w.alloc (.cells #[.int .i64 0, .int .i64 0, .string ⟨#[]⟩] 27) = W := ⟨_, rfl⟩
  have hs1 : W.heap.size = w.heap.size + 1 := by rw [← hW]; exact Array.size_push ..
  have hal : Below w.heap.size w W := by rw [← hW]; exact (Below.refl _ _).alloc (Nat.le_refl _) _
  have hz : StAt W w.heap.size 0 0 [] := by rw [← hW]; exact stAt_new w 0 0 []
  have hGW := hG.below' hal
  obtain ⟨m, hm⟩ := hGW.maxLen
  have hcu := Tryd.strings_Cut ⟨key.toArray⟩ ⟨#[32]⟩ m W (by rw [tv_size]; omega) hm
  rw [tv_data, show (⟨#[32]⟩ : ByteArray).data.toList = [32] from rfl, cut_head] at hcu
  have Hcu := Lib.hid hcu
  have hco := fun W (h : WordsAt W) => code_any 1 (headL key) W h
  rw [hc] at hco
  have Hco := Lib.hid hco
  have HGW := Lib.hid hGW
  have hhl : (headL key).length ≤ key.length := by
    have h := (head_split key).2
    have := congrArg List.length h
    simp at this ⊢; omega
  have hcut : ∀ w, (Instr.slice 9 (tv key) (some (.int .i64 ((headL key).length : Int))) none none).run Tryd.prog w = .ok (tv (key.drop (headL key).length)) w := str_from key _ hhl
  have hsz := tv_size (headL key)
  have Ha := Lib.hid ha
  have Hst := Lib.hid (fun q k => frAt_start (T := T) (er := er) hal hs1 hz hG q k)
  obtain ⟨d0, d1, d2, fz⟩ := hz
  generalize key.drop (headL key).length = its at *
  generalize headL key = hd at *
  generalize (Lib.cut key [32]).2.1 = x1 at *
  generalize (Lib.cut key [32]).2.2 = x2 at *
  have hne : w.heap.size + 1 ≠ w.heap.size := by omega
  clear hcu hco hm hGW hal hc hG hl ha
  rcases err_is hev with he | ⟨hnn, i, he⟩
  · subst he
    show Calls Tryd.prog 13 #[tv key] w fun e w' => e = .returned (.tuple #[stv 1 x [], .nilIface]) ∧ Hid (Below w.heap.size w w')
    go_enter Tryd.func13, Tryd.ntmps13
    go_wp2_with (first
      | (go_at_call 23; refine Hcu.out.mono ?_; rintro e w' ⟨rfl, q, rfl⟩; have HG1 := Lib.hid (HGW.out.drewN q))
      | (go_at_call 24; refine (Hco.out _ HG1.out.words).mono ?_; rintro e w' ⟨rfl, rfl⟩)
      | (go_at_call 25; refine (Ha.out _ (Hst.out q _).glob).mono ?_; rintro e V ⟨rfl, hb⟩; have H2 := Lib.hid ((Hst.out q _).next hb.out); clear d0 d1 d2 fz; obtain ⟨c0, c1, c2, cz⟩ := H2.out.box; obtain ⟨d0, d1, d2, fz⟩ := H2.out.out))
    exact bodyPost_ret (res13 _ _ w.heap.size 1 x [] _ (H2.out.out.far hne _).set rfl rfl) rfl ⟨rfl, setSt_below (H2.out.below.setCell (p := ⟨w.heap.size + 1, 1, none⟩) (by show w.heap.size ≤ w.heap.size + 1; omega) _) (by omega) _ _ _⟩
  · subst he
    clear hnn
    show Calls Tryd.prog 13 #[tv key] w fun e w' => e = .returned (.tuple #[stv 0 0 [], errE T er i]) ∧ Hid (Below w.heap.size w w')
    go_enter Tryd.func13, Tryd.ntmps13
    go_wp2_with (first
      | (go_at_call 23; refine Hcu.out.mono ?_; rintro e w' ⟨rfl, q, rfl⟩; have HG1 := Lib.hid (HGW.out.drewN q))
      | (go_at_call 24; refine (Hco.out _ HG1.out.words).mono ?_; rintro e w' ⟨rfl, rfl⟩)
      | (go_at_call 25; refine (Ha.out _ (Hst.out q _).glob).mono ?_; rintro e V ⟨rfl, hb⟩; have H2 := Lib.hid ((Hst.out q _).next hb.out); clear d0 d1 d2 fz; obtain ⟨c0, c1, c2, cz⟩ := H2.out.box; obtain ⟨d0, d1, d2, fz⟩ := H2.out.out))
    exact bodyPost_ret (res13 _ _ w.heap.size 0 0 [] _ (H2.out.out.far hne _).set rfl rfl) rfl ⟨rfl, setSt_below (H2.out.below.setCell (p := ⟨w.heap.size + 1, 1, none⟩) (by show w.heap.size ≤ w.heap.size + 1; omega) _) (by omega) _ _ _⟩

set_option maxRecDepth 100000 in
set_option maxHeartbeats 4000000 in
theorem from_2 (key : List UInt8) (hl : key.length ≤ 1000000000) (hc : codeL 1 (headL key) = some 2) (x : Int) (ev : Value) (hev : ev = .nilIface ∨ ∃ i, ev = errE T er i)
    (ha : ∀ W, Glob T er W → Calls Tryd.prog 25 #[tv (key.drop (headL key).length), .int .i64 1000000000000000] W fun e w' => e = .returned (.tuple #[.int .i64 x, ev]) ∧ Hid (Below W.heap.size W w'))
    (w : World) (hG : Glob T er w) : Calls Tryd.prog 13 #[tv key] w fun e w' => e = .returned (ansV ev (stv 2 x [])) ∧ Hid (Below w.heap.size w w') := by
  obtain ⟨W, hW⟩ : ∃ W, w.alloc (.cells #[.int .i64 0, .int .i64 0, .string ⟨#[]⟩] 27) = W := ⟨_, rfl⟩
  have hs1 : W.heap.size = w.heap.size + 1 := by rw [← hW]; exact Array.size_push ..
  have hal : Below w.heap.size w W := by rw [← hW]; exact (Below.refl _ _).alloc (Nat.le_refl _) _
  have hz : StAt W w.heap.size 0 0 [] := by rw [← hW]; exact stAt_new w 0 0 []
  have hGW := hG.below' hal
  obtain ⟨m, hm⟩ := hGW.maxLen
  have hcu := Tryd.strings_Cut ⟨key.toArray⟩ ⟨#[32]⟩ m W (by rw [tv_size]; omega) hm
  rw [tv_data, show (⟨#[32]⟩ : ByteArray).data.toList = [32] from rfl, cut_head] at hcu
  have Hcu := Lib.hid hcu
  have hco := fun W (h : WordsAt W) => code_any 1 (headL key) W h
  rw [hc] at hco
  have Hco := Lib.hid hco
  have HGW := Lib.hid hGW
  have hhl : (headL key).length ≤ key.length := by
    have h := (head_split key).2
    have := congrArg List.length h
    simp at this ⊢; omega
  have hcut : ∀ w, (Instr.slice 9 (tv key) (some (.int .i64 ((headL key).length : Int))) none none).run Tryd.prog w = .ok (tv (key.drop (headL key).length)) w := str_from key _ hhl
  have hsz := tv_size (headL key)
  have Ha := Lib.hid ha
  have Hst := Lib.hid (fun q k => frAt_start (T := T) (er := er) hal hs1 hz hG q k)
  obtain ⟨d0, d1, d2, fz⟩ := hz
  generalize key.drop (headL key).length = its at *
  generalize headL key = hd at *
  generalize (Lib.cut key [32]).2.1 = x1 at *
  generalize (Lib.cut key [32]).2.2 = x2 at *
  have hne : w.heap.size + 1 ≠ w.heap.size := by omega
  clear hcu hco hm hGW hal hc hG hl ha
  rcases err_is hev with he | ⟨hnn, i, he⟩
  · subst he
    show Calls Tryd.prog 13 #[tv key] w fun e w' => e = .returned (.tuple #[stv 2 x [], .nilIface]) ∧ Hid (Below w.heap.size w w')
    go_enter Tryd.func13, Tryd.ntmps13
    go_wp2_with (first
      | (go_at_call 23; refine Hcu.out.mono ?_; rintro e w' ⟨rfl, q, rfl⟩; have HG1 := Lib.hid (HGW.out.drewN q))
      | (go_at_call 24; refine (Hco.out _ HG1.out.words).mono ?_; rintro e w' ⟨rfl, rfl⟩)
      | (go_at_call 25; refine (Ha.out _ (Hst.out q _).glob).mono ?_; rintro e V ⟨rfl, hb⟩; have H2 := Lib.hid ((Hst.out q _).next hb.out); clear d0 d1 d2 fz; obtain ⟨c0, c1, c2, cz⟩ := H2.out.box; obtain ⟨d0, d1, d2, fz⟩ := H2.out.out))
    exact bodyPost_ret (res13 _ _ w.heap.size 2 x [] _ (H2.out.out.far hne _).set rfl rfl) rfl ⟨rfl, setSt_below (H2.out.below.setCell (p := ⟨w.heap.size + 1, 1, none⟩) (by show w.heap.size ≤ w.heap.size + 1; omega) _) (by omega) _ _ _⟩
  · subst he
    clear hnn
    show Calls Tryd.prog 13 #[tv key] w fun e w' => e = .returned (.tuple #[stv 0 0 [], errE T er i]) ∧ Hid (Below w.heap.size w w')
    go_enter Tryd.func13, Tryd.ntmps13
    go_wp2_with (first
      | (go_at_call 23; refine Hcu.out.mono ?_; rintro e w' ⟨rfl, q, rfl⟩; have HG1 := Lib.hid (HGW.out.drewN q))
      | (go_at_call 24; refine (Hco.out _ HG1.out.words).mono ?_; rintro e w' ⟨rfl, rfl⟩)
      | (go_at_call 25; refine (Ha.out _ (Hst.out q _).glob).mono ?_; rintro e V ⟨rfl, hb⟩; have H2 := Lib.hid ((Hst.out q _).next hb.out); clear d0 d1 d2 fz; obtain ⟨c0, c1, c2, cz⟩ := H2.out.box; obtain ⟨d0, d1, d2, fz⟩ := H2.out.out))
    exact bodyPost_ret (res13 _ _ w.heap.size 0 0 [] _ (H2.out.out.far hne _).set rfl rfl) rfl ⟨rfl, setSt_below (H2.out.below.setCell (p := ⟨w.heap.size + 1, 1, none⟩) (by show w.heap.size ≤ w.heap.size + 1; omega) _) (by omega) _ _ _⟩

set_option maxRecDepth 100000 in
set_option maxHeartbeats 4000000 in
theorem from_3 (key : List UInt8) (hl : key.length ≤ 1000000000) (hc : codeL 1 (headL key) = some 3)  (ev : Value) (hev : ev = .nilIface ∨ ∃ i, ev = errE T er i)
    (ha : ∀ W, Glob T er W → Calls Tryd.prog 26 #[tv (key.drop (headL key).length), qjv] W fun e w' => e = .returned ev ∧ Hid (Below W.heap.size W w'))
    (w : World) (hG : Glob T er w) : Calls Tryd.prog 13 #[tv key] w fun e w' => e = .returned (ansV ev (stv 3 0 (key.drop (headL key).length))) ∧ Hid (Below w.heap.size w w') := by
  obtain ⟨W, hW⟩ : ∃ W, w.alloc (.cells #[.int .i64 0, .int .i64 0, .string ⟨#[]⟩] 27) = W := ⟨_, rfl⟩
  have hs1 : W.heap.size = w.heap.size + 1 := by rw [← hW]; exact Array.size_push ..
  have hal : Below w.heap.size w W := by rw [← hW]; exact (Below.refl _ _).alloc (Nat.le_refl _) _
  have hz : StAt W w.heap.size 0 0 [] := by rw [← hW]; exact stAt_new w 0 0 []
  have hGW := hG.below' hal
  obtain ⟨m, hm⟩ := hGW.maxLen
  have hcu := Tryd.strings_Cut ⟨key.toArray⟩ ⟨#[32]⟩ m W (by rw [tv_size]; omega) hm
  rw [tv_data, show (⟨#[32]⟩ : ByteArray).data.toList = [32] from rfl, cut_head] at hcu
  have Hcu := Lib.hid hcu
  have hco := fun W (h : WordsAt W) => code_any 1 (headL key) W h
  rw [hc] at hco
  have Hco := Lib.hid hco
  have HGW := Lib.hid hGW
  have hhl : (headL key).length ≤ key.length := by
    have h := (head_split key).2
    have := congrArg List.length h
    simp at this ⊢; omega
  have hcut : ∀ w, (Instr.slice 9 (tv key) (some (.int .i64 ((headL key).length : Int))) none none).run Tryd.prog w = .ok (tv (key.drop (headL key).length)) w := str_from key _ hhl
  have hsz := tv_size (headL key)
  have Ha := Lib.hid ha
  have Hst := Lib.hid (fun q k => frAt_start (T := T) (er := er) hal hs1 hz hG q k)
  obtain ⟨d0, d1, d2, fz⟩ := hz
  generalize key.drop (headL key).length = its at *
  generalize headL key = hd at *
  generalize (Lib.cut key [32]).2.1 = x1 at *
  generalize (Lib.cut key [32]).2.2 = x2 at *
  have hne : w.heap.size + 1 ≠ w.heap.size := by omega
  clear hcu hco hm hGW hal hc hG hl ha
  rcases err_is hev with he | ⟨hnn, i, he⟩
  · subst he
    show Calls Tryd.prog 13 #[tv key] w fun e w' => e = .returned (.tuple #[stv 3 0 its, .nilIface]) ∧ Hid (Below w.heap.size w w')
    go_enter Tryd.func13, Tryd.ntmps13
    go_wp2_with (first
      | (go_at_call 23; refine Hcu.out.mono ?_; rintro e w' ⟨rfl, q, rfl⟩; have HG1 := Lib.hid (HGW.out.drewN q))
      | (go_at_call 24; refine (Hco.out _ HG1.out.words).mono ?_; rintro e w' ⟨rfl, rfl⟩)
      | (go_at_call 26; refine (Ha.out _ (Hst.out q _).glob).mono ?_; rintro e V ⟨rfl, hb⟩; have H2 := Lib.hid ((Hst.out q _).next hb.out); clear d0 d1 d2 fz; obtain ⟨c0, c1, c2, cz⟩ := H2.out.box; obtain ⟨d0, d1, d2, fz⟩ := H2.out.out))
    exact bodyPost_ret (res13 _ _ w.heap.size 3 0 its _ (H2.out.out.far hne _).set rfl rfl) rfl ⟨rfl, setSt_below (H2.out.below.setCell (p := ⟨w.heap.size + 1, 2, none⟩) (by show w.heap.size ≤ w.heap.size + 1; omega) _) (by omega) _ _ _⟩
  · subst he
    clear hnn
    show Calls Tryd.prog 13 #[tv key] w fun e w' => e = .returned (.tuple #[stv 0 0 [], errE T er i]) ∧ Hid (Below w.heap.size w w')
    go_enter Tryd.func13, Tryd.ntmps13
    go_wp2_with (first
      | (go_at_call 23; refine Hcu.out.mono ?_; rintro e w' ⟨rfl, q, rfl⟩; have HG1 := Lib.hid (HGW.out.drewN q))
      | (go_at_call 24; refine (Hco.out _ HG1.out.words).mono ?_; rintro e w' ⟨rfl, rfl⟩)
      | (go_at_call 26; refine (Ha.out _ (Hst.out q _).glob).mono ?_; rintro e V ⟨rfl, hb⟩; have H2 := Lib.hid ((Hst.out q _).next hb.out); clear d0 d1 d2 fz; obtain ⟨c0, c1, c2, cz⟩ := H2.out.box; obtain ⟨d0, d1, d2, fz⟩ := H2.out.out))
    exact bodyPost_ret (res13 _ _ w.heap.size 0 0 [] _ (H2.out.out.far hne _).set rfl rfl) rfl ⟨rfl, setSt_below (H2.out.below.setCell (p := ⟨w.heap.size + 1, 2, none⟩) (by show w.heap.size ≤ w.heap.size + 1; omega) _) (by omega) _ _ _⟩

set_option maxRecDepth 100000 in
set_option maxHeartbeats 4000000 in
theorem from_4 (key : List UInt8) (hl : key.length ≤ 1000000000) (hc : codeL 1 (headL key) = some 4)  (ev : Value) (hev : ev = .nilIface ∨ ∃ i, ev = errE T er i)
    (ha : ∀ W B, JudgeAt W B true 0 → 15 ≤ B → Glob T er W → Calls Tryd.prog 26 #[tv (key.drop (headL key).length), mjv B] W fun e w' => e = .returned ev ∧ Hid (Below B W w'))
    (w : World) (hG : Glob T er w) : Calls Tryd.prog 13 #[tv key] w fun e w' => e = .returned (ansV ev (stv 4 0 (key.drop (headL key).length))) ∧ Hid (Below w.heap.size w w') := by
  obtain ⟨W, hW⟩ : ∃ W, w.alloc (.cells #[.int .i64 0, .int .i64 0, .string ⟨#[]⟩] 27) = W := ⟨_, rfl⟩
  have hs1 : W.heap.size = w.heap.size + 1 := by rw [← hW]; exact Array.size_push ..
  have hal : Below w.heap.size w W := by rw [← hW]; exact (Below.refl _ _).alloc (Nat.le_refl _) _
  have hz : StAt W w.heap.size 0 0 [] := by rw [← hW]; exact stAt_new w 0 0 []
  have hGW := hG.below' hal
  obtain ⟨m, hm⟩ := hGW.maxLen
  have hcu := Tryd.strings_Cut ⟨key.toArray⟩ ⟨#[32]⟩ m W (by rw [tv_size]; omega) hm
  rw [tv_data, show (⟨#[32]⟩ : ByteArray).data.toList = [32] from rfl, cut_head] at hcu
  have Hcu := Lib.hid hcu
  have hco := fun W (h : WordsAt W) => code_any 1 (headL key) W h
  rw [hc] at hco
  have Hco := Lib.hid hco
  have HGW := Lib.hid hGW
  have hhl : (headL key).length ≤ key.length := by
    have h := (head_split key).2
    have := congrArg List.length h
    simp at this ⊢; omega
  have hcut : ∀ w, (Instr.slice 9 (tv key) (some (.int .i64 ((headL key).length : Int))) none none).run Tryd.prog w = .ok (tv (key.drop (headL key).length)) w := str_from key _ hhl
  have hsz := tv_size (headL key)
  have Ha := Lib.hid ha
  have Hst := Lib.hid (fun q k => frAt_start (T := T) (er := er) hal hs1 hz hG q k)
  obtain ⟨d0, d1, d2, fz⟩ := hz
  generalize key.drop (headL key).length = its at *
  generalize headL key = hd at *
  generalize (Lib.cut key [32]).2.1 = x1 at *
  generalize (Lib.cut key [32]).2.2 = x2 at *
  have hne : w.heap.size + 1 ≠ w.heap.size := by omega
  clear hcu hco hm hGW hal hc hG hl ha
  rcases err_is hev with he | ⟨hnn, i, he⟩
  · subst he
    show Calls Tryd.prog 13 #[tv key] w fun e w' => e = .returned (.tuple #[stv 4 0 its, .nilIface]) ∧ Hid (Below w.heap.size w w')
    go_enter Tryd.func13, Tryd.ntmps13
    go_wp2_with (first
      | (go_at_call 23; refine Hcu.out.mono ?_; rintro e w' ⟨rfl, q, rfl⟩; have HG1 := Lib.hid (HGW.out.drewN q))
      | (go_at_call 24; refine (Hco.out _ HG1.out.words).mono ?_; rintro e w' ⟨rfl, rfl⟩)
      | (go_at_call 28; refine (rising_b _).mono ?_; rintro e V1 ⟨B, rfl, hr⟩; have H1 := Lib.hid ((Hst.out q _).next hr.out.2.1))
      | (go_at_call 26; refine (Ha.out _ B hr.out.1 (Nat.le_trans (Hst.out q _).glob.size hr.out.2.2) H1.out.glob).mono ?_; rintro e V ⟨rfl, hb⟩; have H2 := Lib.hid ((Hst.out q _).next (hr.out.2.1.trans (hb.out.mono hr.out.2.2))); clear d0 d1 d2 fz; obtain ⟨c0, c1, c2, cz⟩ := H2.out.box; obtain ⟨d0, d1, d2, fz⟩ := H2.out.out))
    exact bodyPost_ret (res13 _ _ w.heap.size 4 0 its _ (H2.out.out.far hne _).set rfl rfl) rfl ⟨rfl, setSt_below (H2.out.below.setCell (p := ⟨w.heap.size + 1, 2, none⟩) (by show w.heap.size ≤ w.heap.size + 1; omega) _) (by omega) _ _ _⟩
  · subst he
    clear hnn
    show Calls Tryd.prog 13 #[tv key] w fun e w' => e = .returned (.tuple #[stv 0 0 [], errE T er i]) ∧ Hid (Below w.heap.size w w')
    go_enter Tryd.func13, Tryd.ntmps13
    go_wp2_with (first
      | (go_at_call 23; refine Hcu.out.mono ?_; rintro e w' ⟨rfl, q, rfl⟩; have HG1 := Lib.hid (HGW.out.drewN q))
      | (go_at_call 24; refine (Hco.out _ HG1.out.words).mono ?_; rintro e w' ⟨rfl, rfl⟩)
      | (go_at_call 28; refine (rising_b _).mono ?_; rintro e V1 ⟨B, rfl, hr⟩; have H1 := Lib.hid ((Hst.out q _).next hr.out.2.1))
      | (go_at_call 26; refine (Ha.out _ B hr.out.1 (Nat.le_trans (Hst.out q _).glob.size hr.out.2.2) H1.out.glob).mono ?_; rintro e V ⟨rfl, hb⟩; have H2 := Lib.hid ((Hst.out q _).next (hr.out.2.1.trans (hb.out.mono hr.out.2.2))); clear d0 d1 d2 fz; obtain ⟨c0, c1, c2, cz⟩ := H2.out.box; obtain ⟨d0, d1, d2, fz⟩ := H2.out.out))
    exact bodyPost_ret (res13 _ _ w.heap.size 0 0 [] _ (H2.out.out.far hne _).set rfl rfl) rfl ⟨rfl, setSt_below (H2.out.below.setCell (p := ⟨w.heap.size + 1, 2, none⟩) (by show w.heap.size ≤ w.heap.size + 1; omega) _) (by omega) _ _ _⟩
end Go.Proofs.YtgnpcbpbmalgiaaDoor
