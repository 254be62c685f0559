/- Numbers from 0 to 15 as texts; keys of maps by an encoding; a range over such a map. -/
import Derived.Test.YtadlgkakjaecdaaRa
namespace Go.Proofs.Ytadlgkakjaecdaa
open Go.RowKit Go.Maps Go.WideMaps Go.WideElems Go.ChangeShapes Go.WideShapes

/-- How things are written as keys. -/
structure KeyEnc {X : Type} (P : Program) (k : TypeId) (enc : X → Value) (lit : X → Lit) (Fit : X → Prop) : Prop where
  keyed : Keyed P k
  key : ∀ x, Fit x → keyOf P k (enc x) = some (lit x)
  inj : ∀ x y, Fit x → Fit y → enc x = enc y → x = y
section
variable {X : Type} {P : Program} {k : TypeId} {enc : X → Value} {lit : X → Lit} {Fit : X → Prop}
theorem KeyEnc.lit_inj (E : KeyEnc P k enc lit Fit) {x y : X} (hx : Fit x) (hy : Fit y) (h : lit x = lit y) : x = y := by
  have h1 := E.key x hx
  rw [h] at h1
  exact E.inj x y hx hy (E.keyed.inj h1 (E.key y hy))
/-- A map whose keys are just these. -/
structure DomAt {H : Type} (P : Program) (k : TypeId) (lit : X → Lit) (Fit : X → Prop) (R : Value → Option (DataW H × List MemPlace)) (b n : Nat) (L : List X) (D : DataW H) (W : World) : Prop where
  own : W.ownsMap P k R b n D
  has : ∀ x, Fit x → (Maps.has D (lit x) = true ↔ x ∈ L)
  only : ∀ kl, Maps.has D kl = true → ∃ x ∈ L, kl = lit x
  fit : ∀ x ∈ L, Fit x
variable {H : Type} {R : Value → Option (DataW H × List MemPlace)} {b n : Nat} {L : List X} {D : DataW H} {W W' : World}
theorem dom_made (P : Program) (k : TypeId) (lit : X → Lit) (Fit : X → Prop) (R : Value → Option (DataW H × List MemPlace)) (w : World) : DomAt P k lit Fit R w.heap.size 0 [] (.map []) (w.alloc (.map #[] 0)) :=
  ⟨World.ownsMap_made w P k R, fun _ _ => by simp [Maps.has], fun kl h => by simp [Maps.has] at h, by simp⟩
theorem DomAt.kept {row : Option Nat} (h : DomAt P k lit Fit R b n L D W) (hg : W.grownBy W' row) (hne : some b ≠ row) : DomAt P k lit Fit R b n L D W' :=
  ⟨h.own.kept hg hne, h.has, h.only, h.fit⟩
theorem DomAt.put (E : KeyEnc P k enc lit Fit) (h : DomAt P k lit Fit R b n L D W) {x : X} (hx : Fit x) {n' : Nat} {d : DataW H} {L' : List X} (hL : ∀ y, y ∈ L' ↔ y ∈ L ∨ y = x) (hown : W'.ownsMap P k R b n' (D.put (lit x) d)) : DomAt P k lit Fit R b n' L' (D.put (lit x) d) W' := by
  have hkl := E.keyed.key (E.key x hx)
  have hD := h.own.isMap
  refine ⟨hown, fun y hy => ?_, fun kl hh => ?_, fun y hy => ?_⟩
  · by_cases e : y = x
    · subst e
      rw [Maps.has_put_same hD hkl]
      exact ⟨fun _ => (hL y).2 (.inr rfl), fun _ => rfl⟩
    · rw [Maps.has_put_other (fun e1 => e (E.lit_inj hy hx e1)), h.has y hy]
      exact ⟨fun h1 => (hL y).2 (.inl h1), fun h1 => ((hL y).1 h1).elim id (fun e1 => absurd e1 e)⟩
  · by_cases e : kl = lit x
    · exact ⟨x, (hL x).2 (.inr rfl), e⟩
    · rw [Maps.has_put_other e] at hh
      obtain ⟨y, h1, h2⟩ := h.only kl hh
      exact ⟨y, (hL y).2 (.inl h1), h2⟩
  · rcases (hL y).1 hy with h1 | h1
    · exact h.fit y h1
    · rw [h1]; exact hx
/-- A range over it: what has come, and what has not. -/
structure RngX (P : Program) (k : TypeId) (lit : X → Lit) (Fit : X → Prop) (R : Value → Option (DataW H × List MemPlace)) (b r n : Nat) (L done : List X) (D : DataW H) (left : Lit → Bool) (cnt : Nat) (W : World) : Prop where
  rng : W.ranges P k R b r n D left cnt
  left_iff : ∀ x, Fit x → (left (lit x) = true ↔ x ∈ L ∧ x ∉ done)
  only : ∀ kl, left kl = true → ∃ x ∈ L, kl = lit x
  once : done.Nodup
  sub : ∀ x ∈ done, x ∈ L
theorem rngX_start {r : Nat} (h : DomAt P k lit Fit R b n L D W) (hr : W'.ranges P k R b r n D (Maps.has D) (Maps.size D)) : RngX P k lit Fit R b r n L [] D (Maps.has D) (Maps.size D) W' :=
  ⟨hr, fun x hx => by rw [h.has x hx]; simp, h.only, List.nodup_nil, by simp⟩
theorem rngX_more (E : KeyEnc P k enc lit Fit) {r cnt cnt' : Nat} {done : List X} {left : Lit → Bool} {key : Value} {kl : Lit} (h : RngX P k lit Fit R b r n L done D left cnt W) (hL : ∀ x ∈ L, Fit x) (hk : keyOf P k key = some kl) (hl : left kl = true) (hr : W'.ranges P k R b r n D (fun z => left z && !z.sameKey kl) cnt') :
    ∃ x left', key = enc x ∧ kl = lit x ∧ Fit x ∧ x ∈ L ∧ x ∉ done ∧ RngX P k lit Fit R b r n L (done ++ [x]) D left' cnt' W' := by
  obtain ⟨x, hx, rfl⟩ := h.only kl hl
  have hf := hL x hx
  have h2 : x ∈ L ∧ x ∉ done := (h.left_iff x hf).1 hl
  refine ⟨x, _, E.keyed.inj hk (E.key x hf), rfl, hf, hx, h2.2, hr, fun y hy => ?_, fun kl' hk' => ?_, ?_, fun y hy => ?_⟩
  · show (left (lit y) && !(lit y).sameKey (lit x)) = true ↔ _
    by_cases e : y = x
    · subst e
      rw [WideAt.sameKey_self (E.keyed.key (E.key y hy))]
      simp
    · rw [Maps.sameKey_ne (fun e1 => e (E.lit_inj hy hf e1))]
      simp [e, h.left_iff y hy]
  · have h3 : left kl' = true := by
      have h4 : (left kl' && !kl'.sameKey (lit x)) = true := hk'
      simp at h4
      exact h4.1
    exact h.only kl' h3
  · exact List.nodup_append.2 ⟨h.once, by simp, fun a ha b hb => by simp at hb; subst hb; exact fun e1 => h2.2 (e1 ▸ ha)⟩
  · rcases List.mem_append.1 hy with h3 | h3
    · exact h.sub y h3
    · simp at h3; subst h3; exact hx
theorem rngX_all {r cnt : Nat} {done : List X} {left : Lit → Bool} (h : RngX P k lit Fit R b r n L done D left cnt W) (hL : ∀ x ∈ L, Fit x) (hno : ∀ kl, left kl = false) : ∀ x, x ∈ done ↔ x ∈ L := fun x => by
  refine ⟨h.sub x, fun hx => ?_⟩
  have h1 := h.left_iff x (hL x hx)
  rw [hno] at h1
  exact Classical.byContradiction fun hd => Bool.noConfusion (h1.2 ⟨hx, hd⟩)
theorem RngX.keep {r cnt : Nat} {done : List X} {left : Lit → Bool} {row : Option Nat} (h : RngX P k lit Fit R b r n L done D left cnt W) (hg : W.grownBy W' row) (h1 : some b ≠ row) (h2 : some r ≠ row) : RngX P k lit Fit R b r n L done D left cnt W' :=
  ⟨h.rng.kept hg h1 h2, h.left_iff, h.only, h.once, h.sub⟩
theorem rngX_objs {r cnt : Nat} {done : List X} {left : Lit → Bool} (h : RngX P k lit Fit R b r n L done D left cnt W) : (∃ o, W.heap[b]? = some o ∧ o.isCells = false) ∧ (∃ o, W.heap[r]? = some o ∧ o.isCells = false) := by
  obtain ⟨es, clock, since, seen, c0, h1, _, _, _, h2, _⟩ := h.rng
  exact ⟨⟨_, h1, rfl⟩, ⟨_, h2, rfl⟩⟩
theorem dom_obj (h : DomAt P k lit Fit R b n L D W) : ∃ o, W.heap[b]? = some o ∧ o.isCells = false := by
  obtain ⟨es, clock, hb, _⟩ := h.own
  exact ⟨_, hb, rfl⟩
end

/-- The text that stands for a number. -/
def tb (x : Int) : ByteArray := ⟨#[120, (97 + x.toNat).toUInt8]⟩
abbrev tv (x : Int) : Value := .string (tb x)
def tl (x : Int) : Lit := .string (tb x).data.toList
def FitT (x : Int) : Prop := 0 ≤ x ∧ x < 16
instance (x : Int) : Decidable (FitT x) := by unfold FitT; infer_instance
def FitQ (p : Pr) : Prop := FitT p.1 ∧ FitT p.2
theorem tb_inj {x y : Int} (hx : FitT x) (hy : FitT y) (h : tb x = tb y) : x = y := by
  unfold FitT at hx hy
  have h1 : (tb x).data[1]!.toNat = (tb y).data[1]!.toNat := by rw [h]
  simp [tb] at h1
  omega
theorem tb_size (x : Int) : (tb x).size ≤ maxLen := by
  show 2 ≤ maxLen
  decide
theorem enc9 : KeyEnc Try.prog 9 tv tl FitT where
  keyed := string_keyed Try.underlying9
  key := fun x _ => by
    have h1 := tb_size x
    unfold keyOf tl
    simp [Try.underlying9, mapKey, h1]
  inj := fun x y hx hy h => tb_inj hx hy (by simpa using h)
theorem A52 : ArrKey Try.prog 52 9 2 := ⟨Try.underlying52, by kernel_rfl, by kernel_rfl, by kernel_rfl⟩
theorem K52 : Keyed Try.prog 52 := Keyed.of_law (deep_law_laid laidOut (m := 3) (by decide) (of_decide_eq_true (by kernel_rfl)) (by kernel_rfl) (by kernel_rfl))
abbrev tpv (p : Pr) : Value := .agg #[tv p.1, tv p.2]
def tpl (p : Pr) : Lit := .string (keyBytes [tl p.1, tl p.2])
theorem key_tpl (p : Pr) : keyOf Try.prog 52 (tpv p) = some (tpl p) := by
  have hkt := A52.keyType sz57
  have h1 := tb_size p.1
  have h2 := tb_size p.2
  obtain ⟨m, hm⟩ := sz57
  unfold keyOf
  simp only [A52.hu]
  rw [if_pos (by simp [hkt, Value.formed, A52.hu, A52.size]), hm]
  unfold Program.keyLits
  simp only [A52.hu, Value.cells]
  rw [if_pos (by rw [A52.size]; rfl), show List.range 2 = [0, 1] from rfl, List.mapM_cons, List.mapM_cons, List.mapM_nil]
  simp [A52.one, Program.keyLits, Try.underlying9, h1, h2, tpl, tl]
theorem enc52 : KeyEnc Try.prog 52 tpv tpl FitQ where
  keyed := K52
  key := fun p _ => key_tpl p
  inj := fun p q hp hq h => by
    obtain ⟨a, b⟩ := p
    obtain ⟨c, d⟩ := q
    simp only [Value.agg.injEq] at h
    have h1 : tb a = tb c ∧ tb b = tb d := by simpa using h
    exact Prod.ext (tb_inj hp.1 hq.1 h1.1) (tb_inj hp.2 hq.2 h1.2)
set_option maxRecDepth 100000 in
/-- A key that is two texts. -/
theorem invQ : ∀ key kl, keyOf Try.prog 52 key = some kl → ∃ x : ByteArray × ByteArray, key = .agg #[.string x.1, .string x.2] := fun key kl h => by
  have hag : ∃ c0 c1, key = .agg #[c0, c1] := by
    unfold keyOf at h
    simp only [A52.hu] at h
    split at h
    · rename_i hf
      have hf2 := (Bool.and_eq_true _ _ ▸ hf).2
      cases key with
      | agg cs =>
        unfold Value.formed at hf2
        simp only [A52.hu, A52.size] at hf2
        obtain ⟨l⟩ := cs
        match l, hf2 with
        | [c0, c1], _ => exact ⟨c0, c1, rfl⟩
      | tuple cs => simp [Value.formed] at hf2
      | _ => simp [Value.formed, A52.hu] at hf2
    · cases h
  obtain ⟨c0, c1, rfl⟩ := hag
  obtain ⟨m, hm⟩ := sz57
  unfold keyOf at h
  simp only [A52.hu] at h
  split at h
  · rw [hm] at h
    unfold Program.keyLits at h
    simp only [A52.hu, Value.cells] at h
    rw [if_pos (by rw [A52.size]; rfl), show List.range 2 = [0, 1] from rfl, List.mapM_cons, List.mapM_cons, List.mapM_nil] at h
    simp only [A52.one, Nat.zero_mul, Nat.one_mul, List.drop_zero, List.take_succ_cons, List.take_zero, List.drop_succ_cons] at h
    have one : ∀ {c : Value} {d : Nat} {ls : List Lit}, Try.prog.keyLits (d + 1) 9 [c] = some ls → ∃ s, c = .string s := by
      intro c d ls hc
      unfold Program.keyLits at hc
      simp only [Try.underlying9] at hc
      cases c with
      | string s => exact ⟨s, rfl⟩
      | _ => simp at hc
    cases h1 : Try.prog.keyLits (m + 1) 9 [c0] with
    | none => simp [h1] at h
    | some l0 =>
      cases h2 : Try.prog.keyLits (m + 1) 9 [c1] with
      | none => simp [h1, h2] at h
      | some l1 =>
        obtain ⟨a, rfl⟩ := one h1
        obtain ⟨b, rfl⟩ := one h2
        exact ⟨(a, b), rfl⟩
  · cases h
theorem invT : ∀ key kl, keyOf Try.prog 9 key = some kl → ∃ x : ByteArray, key = .string x := fun key kl h => by
  unfold keyOf at h
  simp only [Try.underlying9] at h
  cases key <;> simp [mapKey, Try.underlying9] at h
  exact ⟨_, rfl⟩
/-- A set of pairs of texts. -/
structure PairsT (b : Nat) (L : List Pr) (D : DU) (W : World) : Prop where
  dom : DomAt Try.prog 52 tpl FitQ unitElem b L.length L D W
  size : Maps.size D = L.length
  once : L.Nodup
/-- A relation of texts that holds just these pairs. -/
structure RelT (r b : Nat) (L : List Pr) (D : DU) (W : World) : Prop where
  box : Boxed W r 72 (.map (some b))
  prs : PairsT b L D W
theorem RelT.rlt {r b : Nat} {L : List Pr} {D : DU} {W : World} (h : RelT r b L D W) : r < W.heap.size := (Array.getElem?_eq_some_iff.1 h.box).1
theorem RelT.blt {r b : Nat} {L : List Pr} {D : DU} {W : World} (h : RelT r b L D W) : b < W.heap.size := h.prs.dom.own.lt
theorem RelT.ne {r b : Nat} {L : List Pr} {D : DU} {W : World} (h : RelT r b L D W) : r ≠ b := by
  intro e
  obtain ⟨es, clock, hb, _⟩ := h.prs.dom.own
  have := h.box
  rw [e] at this
  rw [show W.heap[b]? = _ from this] at hb
  cases hb
theorem RelT.kept {r b : Nat} {L : List Pr} {D : DU} {W W' : World} {row : Option Nat} (h : RelT r b L D W) (hg : W.grownBy W' row) (h1 : some r ≠ row) (h2 : some b ≠ row) : RelT r b L D W' :=
  ⟨(hg.block r h.rlt h1).trans h.box, h.prs.dom.kept hg h2, h.prs.size, h.prs.once⟩
theorem RelT.below {r b : Nat} {L : List Pr} {D : DU} {W W' : World} (h : RelT r b L D W) (hb : Below W.heap.size W W') : RelT r b L D W' := h.kept (grown_below hb) (by simp) (by simp)
theorem RelT.drew {r b : Nat} {L : List Pr} {D : DU} {W : World} (h : RelT r b L D W) : RelT r b L D W.drew := h.kept (row := none) ⟨rfl, rfl, rfl, Nat.le_refl _, fun _ _ _ => rfl⟩ (by simp) (by simp)

set_option maxHeartbeats 400000 in
theorem newT_any (w : World) : Calls Try.prog 29 #[] w fun e w' => ∃ r b, e = .returned (.pointer (some ⟨r, 0, none⟩)) ∧ Hid (RelT r b [] (.map []) w' ∧ Below w.heap.size w w' ∧ w.heap.size ≤ r ∧ w.heap.size ≤ b) := by
  have hmm := @run_makeMap Try.prog
  obtain ⟨W, hW⟩ : ∃ W, w.alloc (.map #[] 0) = W := ⟨_, rfl⟩
  have hb : Below w.heap.size w W := by rw [← hW]; exact (Below.refl _ _).alloc (Nat.le_refl _) _
  have hs : W.heap.size = w.heap.size + 1 := by rw [← hW]; simp
  have hp : DomAt (H := Unit) Try.prog 52 tpl FitQ unitElem w.heap.size 0 [] (.map []) W := hW ▸ dom_made Try.prog 52 tpl FitQ unitElem w
  have Hb := Lib.hid hb
  have Hs := Lib.hid hs
  have Hp := Lib.hid hp
  clear hb hs hp
  go_enter Try.func29, Try.ntmps29
  go_wp2
  go_ret
  refine ⟨_, _, rfl, ⟨Boxed.new _ _ _, Hp.out.kept (World.grownBy_alloc W _ none) (by simp), rfl, List.nodup_nil⟩, Hb.out.alloc (by rw [Hs.out]; omega) _, by rw [Hs.out]; omega, Nat.le_refl _⟩

set_option maxHeartbeats 1000000 in
theorem hasT_any (r b : Nat) (L : List Pr) (D : DU) (p : Pr) (hf : FitQ p) (w : World) (h : RelT r b L D w) :
    Calls Try.prog 42 #[.pointer (some ⟨r, 0, none⟩), tv p.1, tv p.2] w fun e w' => e = .returned (.bool (decide (p ∈ L))) ∧ Hid (Below w.heap.size w w') := by
  have c0 := h.box.cell
  have HO := Lib.hid h.prs.dom.own
  have HK := Lib.hid (key_tpl p)
  have HH : Maps.has D (tpl p) = decide (p ∈ L) := by
    rw [Bool.eq_iff_iff, h.prs.dom.has p hf]
    simp
  rw [← HH]
  have hb2 : Below w.heap.size w (w.alloc (.cells #[] 62)) := (Below.refl _ _).alloc (Nat.le_refl _) _
  have Hb2 := Lib.hid hb2
  clear HH h hb2
  go_enter Try.func42, Try.ntmps42
  go_wp2_with (at_lookup; refine wpList_lookup_own_unit _ rfl _ _ 70 rfl 52 62 K52 Try.underlying70 (zero62 _) b L.length D rfl HO.out _ _ rfl HK.out ?_)
  go_ret
  exact ⟨rfl, Hb2.out⟩

set_option maxHeartbeats 1000000 in
theorem addT_in (r b : Nat) (L : List Pr) (D : DU) (p : Pr) (hf : FitQ p) (hp : p ∈ L) (w : World) (h : RelT r b L D w) :
    Calls Try.prog 30 #[.pointer (some ⟨r, 0, none⟩), tv p.1, tv p.2] w fun e w' => e = .returned (.bool false) ∧ Hid (Below w.heap.size w w') := by
  have hh := hasT_any r b L D p hf w h
  rw [decide_eq_true hp] at hh
  have HH := Lib.hid hh
  clear hh h hp hf
  go_enter Try.func30, Try.ntmps30
  go_wp2_with (first | (go_at_call 42; refine HH.out.mono ?_; rintro e w2 ⟨rfl, h2⟩))
  go_ret
  exact ⟨rfl, h2.out⟩

set_option maxHeartbeats 1000000 in
theorem addT_new (r b : Nat) (L : List Pr) (D : DU) (p : Pr) (hf : FitQ p) (hp : p ∉ L) (hn : L.length ≤ 1000000) (w : World) (h : RelT r b L D w) :
    Calls Try.prog 30 #[.pointer (some ⟨r, 0, none⟩), tv p.1, tv p.2] w fun e w' => e = .returned (.bool true) ∧ Hid (RelT r b (L ++ [p]) (D.put (tpl p) (.agg [])) w' ∧ w.grownBy w' (some b)) := by
  have hh := hasT_any r b L D p hf w h
  rw [decide_eq_false hp] at hh
  have HH := Lib.hid hh
  have H := Lib.hid h
  have Hf := Lib.hid hf
  have Hp := Lib.hid hp
  have HK := Lib.hid (key_tpl p)
  clear hh h hp hf
  go_enter Try.func30, Try.ntmps30
  go_wp2_with (first
    | (go_at_call 42; refine HH.out.mono ?_; rintro e w2 ⟨rfl, h2⟩; have H2 := Lib.hid (H.out.below h2.out); have c2 := H2.out.box.cell)
    | (at_mapUpdate; refine wpList_mapUpdate_own _ rfl _ _ _ 70 rfl 52 62 K52 Try.underlying70 _ b L.length D rfl H2.out.prs.dom.own (by unfold maxLen; omega) _ _ _ rfl rfl HK.out _ [] unitElem_mk ?_; intro w3 hown3 hgrow3))
  go_ret
  have hd : DomAt Try.prog 52 tpl FitQ unitElem b (L.length + 1) (L ++ [p]) (D.put (tpl p) (.agg [])) w3 := H2.out.prs.dom.put enc52 Hf.out (fun y => by simp) hown3
  refine ⟨rfl, ⟨(hgrow3.block r H2.out.rlt (fun e => H2.out.ne (Option.some.inj e))).trans H2.out.box, ?_, ?_, ?_⟩, ?_⟩
  · rw [List.length_append]; exact hd
  · have hh : Maps.has D (tpl p) = false := by
      cases e : Maps.has D (tpl p) with
      | false => rfl
      | true => exact absurd ((H2.out.prs.dom.has p Hf.out).1 e) Hp.out
    rw [Maps.size_put (H2.out.prs.dom.own.tidy K52) _, hh, H2.out.prs.size]
    simp
  · exact List.nodup_append.2 ⟨H2.out.prs.once, by simp, fun a ha b hb => by simp at hb; subst hb; exact fun e1 => Hp.out (e1 ▸ ha)⟩
  · exact ((grown_below h2.out).but _).trans hgrow3
theorem addT_any (r b : Nat) (L : List Pr) (D : DU) (p : Pr) (hf : FitQ p) (hn : L.length ≤ 1000000) (w : World) (h : RelT r b L D w) :
    Calls Try.prog 30 #[.pointer (some ⟨r, 0, none⟩), tv p.1, tv p.2] w fun e w' => ∃ L' D', e = .returned (.bool (!decide (p ∈ L))) ∧ Hid (RelT r b L' D' w' ∧ (∀ q, q ∈ L' ↔ q ∈ L ∨ q = p) ∧ w.grownBy w' (some b)) := by
  by_cases hp : p ∈ L
  · refine (addT_in r b L D p hf hp w h).mono ?_
    rintro e w' ⟨rfl, hb⟩
    refine ⟨L, D, by simp [hp], h.below hb.out, fun q => ⟨.inl, ?_⟩, (grown_below hb.out).but _⟩
    rintro (e | rfl)
    · exact e
    · exact hp
  · refine (addT_new r b L D p hf hp hn w h).mono ?_
    rintro e w' ⟨rfl, h'⟩
    exact ⟨_, _, by simp [hp], h'.out.1, fun q => by simp, h'.out.2⟩

theorem lenT_any (r b : Nat) (L : List Pr) (D : DU) (w : World) (h : RelT r b L D w) :
    Calls Try.prog 32 #[.pointer (some ⟨r, 0, none⟩)] w fun e w' => e = .returned (.int .i64 L.length) ∧ w = w' := by
  have c0 := h.box.cell
  have hl := h.prs.dom.own.len Try.underlying70
  rw [h.prs.size] at hl
  clear h
  go_enter Try.func32, Try.ntmps32
  go_wp2
  go_ret
  exact ⟨rfl, rfl⟩
end Go.Proofs.Ytadlgkakjaecdaa
