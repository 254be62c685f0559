/- The graph whose nodes are the letters a to h, told by the numbers 0 to 7: made by program out of the graph of numbers. -/
import Derived.Test.YthgkloapnihpaaaGreatM2
namespace Go.Proofs.YthgkloapnihpaaaGreat
open Go.RowKit Go.Maps Go.WideMaps Go.WideElems Go.ChangeShapes Go.WideShapes
namespace S
/-- A letter as a text. -/
def ltr (x : Int) : List UInt8 := [(97 + x.toNat).toUInt8]
def lb (x : Int) : ByteArray := ⟨(ltr x).toArray⟩
abbrev sv (x : Int) : Value := .string (lb x)
def sl (x : Int) : Lit := .string (ltr x)
def fitS (x : Int) : Prop := 0 ≤ x ∧ x < 8
theorem ltr_inj {x y : Int} (hx : fitS x) (hy : fitS y) (h : ltr x = ltr y) : x = y := by
  unfold fitS at hx hy
  have h1 : (ltr x)[0]!.toNat = (ltr y)[0]!.toNat := by rw [h]
  simp [ltr] at h1
  omega
theorem K9 : Keyed Tryz.prog 9 := string_keyed Tryz.underlying9
theorem keyS (a : Int) (_h : fitS a) : keyOf Tryz.prog 9 (sv a) = some (sl a) := by
  unfold keyOf sl
  have h2 : ¬ maxLen = 0 := by unfold maxLen; decide
  simp [Tryz.underlying9, mapKey, ByteArray.size, lb, ltr, h2]
theorem encS : KeyEnc Tryz.prog 9 sv sl fitS where
  keyed := K9
  key := keyS
  inj := fun x y hx hy h => ltr_inj hx hy (by
    have := congrArg (fun v => match v with | Value.string b => b.data.toList | _ => []) h
    simpa [lb] using this)
/-- An element of a map, looked up. -/
theorem look_as {b n : Nat} {L : List Int} {D : DV} {W : World} (h : DomAt Tryz.prog 9 sl fitS asIs b n L D W) {t e : TypeId} (ht : Tryz.prog.underlying t = some (.map 9 e)) {z v : Value} (hz : (zeroValue e).run Tryz.prog W = .ok z W) {a : Int} (ha : fitS a) (hv : D.atKey (sl a) (.held z) = .held v) :
    (Instr.lookup t (.map (some b)) (sv a) false).run Tryz.prog W = .ok v W := by
  obtain ⟨v', ps, hrun, hv'⟩ := h.own.lookup K9 ht hz (show asIs z = some _ from rfl) (keyS a ha)
  have h1 : (DataW.held v' : DV) = D.atKey (sl a) (.held z) := (Prod.mk.inj (Option.some.inj hv')).1
  rw [hv] at h1
  cases h1
  exact hrun
/-- An element laid in. -/
theorem put_as {b n : Nat} {L : List Int} {D : DV} {W : World} (h : DomAt Tryz.prog 9 sl fitS asIs b n L D W) {t e : TypeId} (ht : Tryz.prog.underlying t = some (.map 9 e)) (hn : n < maxLen) {a : Int} (ha : fitS a) (v : Value) {L' : List Int} (hL : ∀ y, y ∈ L' ↔ y ∈ L ∨ y = a) :
    ∃ w', (Instr.mapUpdate t (.map (some b)) (sv a) v).run Tryz.prog W = .ok () w' ∧ DomAt Tryz.prog 9 sl fitS asIs b (n + 1) L' (D.put (sl a) (.held v)) w' ∧ W.grownBy w' (some b) := by
  obtain ⟨w', h1, h2, h3⟩ := h.own.update K9 ht hn (keyS a ha) (show asIs v = some (.held v, []) from rfl)
  exact ⟨w', h1, h.put encS ha hL h2, h3⟩
theorem at_put {b n : Nat} {L : List Int} {D : DV} {W : World} (h : DomAt Tryz.prog 9 sl fitS asIs b n L D W) {a x : Int} (ha : fitS a) (hx : fitS x) (v : Value) (z : DV) : (D.put (sl a) (.held v)).atKey (sl x) z = if x = a then .held v else D.atKey (sl x) z := by
  by_cases e : x = a
  · subst e
    rw [if_pos rfl, Maps.atKey_put_same h.own.isMap (encS.keyed.key (keyS x hx))]
  · rw [if_neg e, Maps.atKey_put_other (fun e1 => e (encS.lit_inj hx ha e1))]

/-- A graph in memory: its box, the map of its nodes, of each a map to rows of kinds. -/
structure GrIn (B g ob c : Nat) (DO : DV) (F : Int → Nat) (DI : Int → DV) (f : Int → Int → Value) (N : List Int) (E : List Ed) (W : World) : Prop where
  box : Boxed W g 70 (.map (some ob))
  dom : DomAt Tryz.prog 9 sl fitS asIs ob c N DO W
  atO : ∀ a, fitS a → DO.atKey (sl a) (.held (.map none)) = .held (if a ∈ N then .map (some (F a)) else .map none)
  domI : ∀ a ∈ N, DomAt Tryz.prog 9 sl fitS asIs (F a) c (outsE N E a) (DI a) W
  atI : ∀ a ∈ N, ∀ b, fitS b → (DI a).atKey (sl b) (.held (.slice none 0 0)) = .held (f a b)
  row : ∀ a ∈ N, ∀ b, fitS b → W.ownsInts B 3 .i64 (f a b) (kindsE E a b)
  ends : EndsIn N E
  nodes : RiseI N
  edges : RiseE E
  apF : ∀ a ∈ N, ∀ a' ∈ N, F a = F a' → a = a'
  neF : ∀ a ∈ N, F a ≠ ob
  apR : ∀ a ∈ N, ∀ a' ∈ N, ∀ b b', fitS b → fitS b' → ∀ k, (f a b).ownBlock = some k → (f a' b').ownBlock = some k → a = a' ∧ b = b'
/-- The blocks of a graph. -/
def Foot (ob : Nat) (F : Int → Nat) (f : Int → Int → Value) (N : List Int) (k : Nat) : Prop := k = ob ∨ (∃ a ∈ N, F a = k) ∨ ∃ a ∈ N, ∃ b, fitS b ∧ (f a b).ownBlock = some k
/-- A graph whose blocks are among these. -/
def GrAt (Z : Nat → Prop) (B g c : Nat) (N : List Int) (E : List Ed) (W : World) : Prop := ∃ ob DO F DI f, GrIn B g ob c DO F DI f N E W ∧ ∀ k, Foot ob F f N k → Z k
/-- What grows no block of it leaves a graph as it was. -/
theorem GrIn.kept {B g ob c : Nat} {DO : DV} {F : Int → Nat} {DI : Int → DV} {f : Int → Int → Value} {N : List Int} {E : List Ed} {W W' : World} {row : Option Nat} (h : GrIn B g ob c DO F DI f N E W) (hg : W.grownBy W' row) (hr : ∀ k, row = some k → k ≠ g ∧ ¬ Foot ob F f N k) : GrIn B g ob c DO F DI f N E W' := by
  refine ⟨boxed_kept h.box hg (fun e => (hr g e.symm).1 rfl), h.dom.kept hg (fun e => (hr ob e.symm).2 (.inl rfl)), h.atO, fun a ha => (h.domI a ha).kept hg (fun e => (hr _ e.symm).2 (.inr (.inl ⟨a, ha, rfl⟩))), h.atI, fun a ha b hb => (h.row a ha b hb).kept hg ?_, h.ends, h.nodes, h.edges, h.apF, h.neF, h.apR⟩
  cases hf : (f a b).ownBlock with
  | none => exact .inl rfl
  | some k => exact .inr fun e => (hr k e.symm).2 (.inr (.inr ⟨a, ha, b, hb, hf⟩))
theorem GrAt.below {Z : Nat → Prop} {B g c : Nat} {N : List Int} {E : List Ed} {W W' : World} (h : GrAt Z B g c N E W) (hb : Below W.heap.size W W') : GrAt Z B g c N E W' := by
  obtain ⟨ob, DO, F, DI, f, h1, h2⟩ := h
  exact ⟨ob, DO, F, DI, f, h1.kept (grown_below hb) (fun k e => by cases e), h2⟩
theorem GrAt.mono {Z Z' : Nat → Prop} {B g c : Nat} {N : List Int} {E : List Ed} {W : World} (h : GrAt Z B g c N E W) (hz : ∀ k, Z k → Z' k) : GrAt Z' B g c N E W := by
  obtain ⟨ob, DO, F, DI, f, h1, h2⟩ := h
  exact ⟨ob, DO, F, DI, f, h1, fun k hk => hz k (h2 k hk)⟩
/-- What is written beside it leaves a graph as it was. -/
theorem GrIn.off {B g ob c : Nat} {DO : DV} {F : Int → Nat} {DI : Int → DV} {f : Int → Int → Value} {N : List Int} {E : List Ed} {W W' : World} (h : GrIn B g ob c DO F DI f N E W) {Z : Nat → Prop} (hg : Off Z W W') (hr : ∀ k, Z k → k ≠ g ∧ ¬ Foot ob F f N k) : GrIn B g ob c DO F DI f N E W' := by
  have one : ∀ k, (k = g ∨ Foot ob F f N k) → k < W.heap.size → W'.heap[k]? = W.heap[k]? := fun k hk hl => hg.block k hl fun hz => hk.elim (hr k hz).1 (hr k hz).2
  refine ⟨(one g (.inl rfl) (Array.getElem?_eq_some_iff.1 h.box).1).trans h.box, ?_, h.atO, fun a ha => ?_, h.atI, fun a ha b hb => ?_, h.ends, h.nodes, h.edges, h.apF, h.neF, h.apR⟩
  · obtain ⟨es, clock, hb, r⟩ := h.dom.own
    exact ⟨⟨es, clock, (one ob (.inr (.inl rfl)) (Array.getElem?_eq_some_iff.1 hb).1).trans hb, r⟩, h.dom.has, h.dom.only, h.dom.fit⟩
  · have hd := h.domI a ha
    obtain ⟨es, clock, hb, r⟩ := hd.own
    exact ⟨⟨es, clock, (one _ (.inr (.inr (.inl ⟨a, ha, rfl⟩))) (Array.getElem?_eq_some_iff.1 hb).1).trans hb, r⟩, hd.has, hd.only, hd.fit⟩
  · have ho := h.row a ha b hb
    refine ⟨⟨ho.1.1, ?_⟩, ho.2⟩
    rcases ho.1.2 with hn | ⟨q, cap, cur, e, hB, hq, r⟩
    · exact .inl hn
    · exact .inr ⟨q, cap, cur, e, hB, (one q (.inr (.inr (.inr ⟨a, ha, b, hb, by rw [e]; rfl⟩))) (Array.getElem?_eq_some_iff.1 hq).1).trans hq, r⟩
theorem zero65 (w : World) : (zeroValue 68).run Tryz.prog w = .ok (.map none) w := by kernel_rfl
theorem GrIn.glt {B g ob c : Nat} {DO : DV} {F : Int → Nat} {DI : Int → DV} {f : Int → Int → Value} {N : List Int} {E : List Ed} {W : World} (h : GrIn B g ob c DO F DI f N E W) : g < W.heap.size := (Array.getElem?_eq_some_iff.1 h.box).1
theorem GrIn.off_g {B g ob c : Nat} {DO : DV} {F : Int → Nat} {DI : Int → DV} {f : Int → Int → Value} {N : List Int} {E : List Ed} {W : World} (h : GrIn B g ob c DO F DI f N E W) : ob ≠ g := by
  intro e
  obtain ⟨o, h1, h2⟩ := dom_obj h.dom
  have h3 := h.box
  rw [← e] at h3
  rw [show W.heap[ob]? = _ from h3] at h1
  cases h1
  cases h2
theorem GrIn.row_off {B g ob c : Nat} {DO : DV} {F : Int → Nat} {DI : Int → DV} {f : Int → Int → Value} {N : List Int} {E : List Ed} {W : World} (h : GrIn B g ob c DO F DI f N E W) {a : Int} (ha : a ∈ N) {b : Int} (hb : fitS b) : (f a b).ownBlock ≠ some ob := by
  obtain ⟨o, h1, h2⟩ := dom_obj h.dom
  exact row_no (h.row a ha b hb).1 h1 h2
/-- A graph without a node. -/
theorem gr_new (w : World) : GrIn w.heap.size (w.heap.size + 1) w.heap.size 0 (.map []) (fun _ => 0) (fun _ => .map []) (fun _ _ => .slice none 0 0) [] [] ((w.alloc (.map #[] 0)).alloc (.cells #[.map (some w.heap.size)] 70)) := by
  refine ⟨?_, ?_, fun a _ => by simp [DataW.atKey], fun a ha => by simp at ha, fun a ha => by simp at ha, fun a ha => by simp at ha, fun a b h => by obtain ⟨k, hk⟩ := h; simp at hk, List.Pairwise.nil, List.Pairwise.nil, fun a ha => by simp at ha, fun a ha => by simp at ha, fun a ha => by simp at ha⟩
  · have := Boxed.new (w.alloc (.map #[] 0)) 70 (.map (some w.heap.size))
    simpa using this
  · exact (dom_made Tryz.prog 9 sl fitS asIs w).kept (World.grownBy_alloc _ _ none) (by simp)
set_option maxHeartbeats 8000000 in
set_option maxRecDepth 100000 in
theorem new_any (w : World) : Calls Tryz.prog 26 #[] w fun e w' => ∃ g, e = .returned (.pointer (some ⟨g, 0, none⟩)) ∧ Hid (GrAt (fun k => w.heap.size ≤ k ∧ k < w'.heap.size) w.heap.size g 0 [] [] w' ∧ Below w.heap.size w w' ∧ w.heap.size ≤ g) := by
  have hmm := @run_makeMap Tryz.prog
  obtain ⟨W, hW⟩ : ∃ W, w.alloc (.map #[] 0) = W := ⟨_, rfl⟩
  have Hb : Hid (Below w.heap.size w W) := by show Below _ _ _; rw [← hW]; exact (Below.refl _ _).alloc (Nat.le_refl _) _
  have Hs : Hid (W.heap.size = w.heap.size + 1) := by show _ = _; rw [← hW]; simp
  have Hg := Lib.hid (gr_new w)
  rw [hW] at Hg
  go_enter Tryz.func26, Tryz.ntmps26
  go_wp2
  go_ret
  refine ⟨_, rfl, ⟨w.heap.size, _, _, _, _, by have := Hg.out; rw [← Hs.out] at this; exact this, fun k hk => ?_⟩, Hb.out.alloc (by rw [Hs.out]; omega) _, by rw [Hs.out]; omega⟩
  rcases hk with rfl | ⟨a, ha, -⟩ | ⟨a, ha, -⟩
  · exact ⟨Nat.le_refl _, by have := Hs.out; simp; omega⟩
  · simp at ha
  · simp at ha
theorem look_ok_as {b n : Nat} {L : List Int} {D : DV} {W : World} (h : DomAt Tryz.prog 9 sl fitS asIs b n L D W) {t e : TypeId} (ht : Tryz.prog.underlying t = some (.map 9 e)) {z v : Value} (hz : (zeroValue e).run Tryz.prog W = .ok z W) {a : Int} (ha : fitS a) (hv : D.atKey (sl a) (.held z) = .held v) :
    (Instr.lookup t (.map (some b)) (sv a) true).run Tryz.prog W = .ok (.tuple #[v, .bool (decide (a ∈ L))]) W := by
  obtain ⟨v', ps, hrun, hv'⟩ := h.own.look_ok K9 ht hz (show asIs z = some _ from rfl) (keyS a ha)
  have h1 : (DataW.held v' : DV) = D.atKey (sl a) (.held z) := (Prod.mk.inj (Option.some.inj hv')).1
  rw [hv] at h1
  cases h1
  rw [hrun]
  have e : Maps.has D (sl a) = decide (a ∈ L) := by
    rw [Bool.eq_iff_iff, h.has a ha, decide_eq_true_eq]
  rw [e]
section
variable {B g ob c : Nat} {DO : DV} {F : Int → Nat} {DI : Int → DV} {f : Int → Int → Value} {N : List Int} {E : List Ed} {W : World}
/-- A node laid in. -/
theorem GrIn.node (h : GrIn B g ob c DO F DI f N E W) {k : Int} (hk : fitS k) (hn : k ∉ N) (hc : c < maxLen) :
    ∃ W2, (Instr.mapUpdate 67 (.map (some ob)) (sv k) (.map (some W.heap.size))).run Tryz.prog (W.alloc (.map #[] 0)) = .ok () W2 ∧
      GrIn B g ob (c + 1) (DO.put (sl k) (.held (.map (some W.heap.size)))) (fun a => if a = k then W.heap.size else F a) (fun a => if a = k then .map [] else DI a) (fun a b => if a = k then .slice none 0 0 else f a b) (putI N k) E W2 ∧ (W.alloc (.map #[] 0)).grownBy W2 (some ob) := by
  have h1 : GrIn B g ob c DO F DI f N E (W.alloc (.map #[] 0)) := h.kept (World.grownBy_alloc W _ none) (fun k e => by cases e)
  obtain ⟨W2, hrun, hd, hg⟩ := put_as h1.dom Tryz.underlying67 hc hk (.map (some W.heap.size)) (L' := putI N k) (fun y => by rw [mem_putI]; exact Or.comm)
  have hob : ob < W.heap.size := h.dom.own.lt
  have hF : ∀ a ∈ N, F a < W.heap.size := fun a ha => (h.domI a ha).own.lt
  have mem : ∀ a, a ∈ putI N k → a ≠ k → a ∈ N := fun a ha he => (mem_putI.1 ha).resolve_left he
  have hne : ∀ a, a ∈ N → a ≠ k := fun a ha e => hn (e ▸ ha)
  refine ⟨W2, hrun, ⟨boxed_kept h1.box hg (fun e => h1.off_g (Option.some.inj e).symm), hd, fun a ha => ?_, fun a ha => ?_, fun a ha b hb => ?_, fun a ha b hb => ?_, fun x y hxy => ⟨mem_putI.2 (.inr (h.ends x y hxy).1), mem_putI.2 (.inr (h.ends x y hxy).2)⟩, rise_putI k h.nodes, h.edges, fun a ha a' ha' e => ?_, fun a ha e => ?_, fun a ha a' ha' b b' hb hb' q h2 h3 => ?_⟩, hg⟩
  · rw [at_put h1.dom hk ha]
    by_cases e : a = k
    · subst e
      rw [if_pos rfl, if_pos (mem_putI.2 (.inl rfl)), if_pos rfl]
    · rw [if_neg e, h.atO a ha, if_neg e]
      by_cases hm : a ∈ N
      · rw [if_pos hm, if_pos (mem_putI.2 (.inr hm))]
      · rw [if_neg hm, if_neg (fun g => hm (mem a g e))]
  · rw [outsE_put h.nodes h.ends]
    by_cases e : a = k
    · subst e
      simp only [if_true]
      rw [outsE_none h.ends hn]
      exact ((dom_made Tryz.prog 9 sl fitS asIs W).kept hg (fun e => by have := Option.some.inj e; omega)).up (Nat.zero_le _)
    · simp only [e, if_false]
      exact ((h1.domI a (mem a ha e)).kept hg (fun e2 => h1.neF a (mem a ha e) (Option.some.inj e2))).up (Nat.le_succ _)
  · by_cases e : a = k
    · simp only [e, if_true]
      simp [DataW.atKey]
    · simp only [e, if_false]
      exact h.atI a (mem a ha e) b hb
  · by_cases e : a = k
    · subst e
      simp only [if_true]
      rw [kindsE_nil.2 (fun g => hn (h.ends a b g).1)]
      exact World.ownsInts_nil _ _ _ _
    · simp only [e, if_false]
      exact (h1.row a (mem a ha e) b hb).kept hg (by
        cases hf : (f a b).ownBlock with
        | none => exact .inl rfl
        | some q => exact .inr fun e2 => h1.row_off (mem a ha e) hb (hf.trans e2))
  · by_cases ea : a = k
    · by_cases ea' : a' = k
      · rw [ea, ea']
      · have := hF a' (mem a' ha' ea')
        simp only [ea, ea', if_true, if_false] at e
        omega
    · have h4 := hF a (mem a ha ea)
      by_cases ea' : a' = k
      · simp only [ea, ea', if_true, if_false] at e
        omega
      · simp only [ea, ea', if_false] at e
        exact h.apF a (mem a ha ea) a' (mem a' ha' ea') e
  · by_cases ea : a = k
    · simp only [ea, if_true] at e
      omega
    · simp only [ea, if_false] at e
      exact h.neF a (mem a ha ea) e
  · by_cases ea : a = k
    · simp only [ea, if_true] at h2
      simp [Value.ownBlock] at h2
    · by_cases ea' : a' = k
      · simp only [ea', if_true] at h3
        simp [Value.ownBlock] at h3
      · simp only [ea, ea', if_false] at h2 h3
        exact h.apR a (mem a ha ea) a' (mem a' ha' ea') b b' hb hb' q h2 h3
end
set_option maxHeartbeats 8000000 in
set_option maxRecDepth 100000 in
theorem node_any {Z : Nat → Prop} {B g c : Nat} {N : List Int} {E : List Ed} (k : Int) (hk : fitS k) (hc : c < maxLen) (w : World) (h : GrAt Z B g c N E w) :
    Calls Tryz.prog 27 #[.pointer (some ⟨g, 0, none⟩), sv k] w fun e w' => e = .returned (.bool (decide (k ∉ N))) ∧ Hid (GrAt (More Z w w') B g (c + 1) (putI N k) E w' ∧ Off Z w w') := by
  obtain ⟨ob, DO, F, DI, f, h, hZ⟩ := h
  have hmm := @run_makeMap Tryz.prog
  have c0 := h.box.cell
  have H := Lib.hid h
  have HZ := Lib.hid hZ
  by_cases hn : k ∈ N
  · have lk := look_ok_as h.dom Tryz.underlying67 (zero65 w) hk ((h.atO k hk).trans (by rw [if_pos hn]))
    rw [decide_eq_true hn] at lk
    have e1 : decide (k ∉ N) = false := decide_eq_false (fun g => g hn)
    have Hn := Lib.hid hn
    clear h hZ hn
    rw [e1]
    go_enter Tryz.func27, Tryz.ntmps27
    go_wp2
    go_ret
    rw [putI_in H.out.nodes Hn.out]
    exact ⟨rfl, ⟨ob, DO, F, DI, f, ⟨H.out.box, H.out.dom.up (Nat.le_succ _), H.out.atO, fun a ha => (H.out.domI a ha).up (Nat.le_succ _), H.out.atI, H.out.row, H.out.ends, H.out.nodes, H.out.edges, H.out.apF, H.out.neF, H.out.apR⟩, fun q hq => .inl (HZ.out q hq)⟩, Off.refl _ _⟩
  · have lk := look_ok_as h.dom Tryz.underlying67 (zero65 w) hk ((h.atO k hk).trans (by rw [if_neg hn]))
    rw [decide_eq_false hn] at lk
    have e1 : decide (k ∉ N) = true := decide_eq_true hn
    obtain ⟨W2, hup, hG, hgr⟩ := h.node hk hn hc
    obtain ⟨W1, hW1⟩ : ∃ W, w.alloc (.map #[] 0) = W := ⟨_, rfl⟩
    have Hs : Hid (W1.heap.size = w.heap.size + 1) := by show _ = _; rw [← hW1]; simp
    have Hg1 : Hid (w.grownBy W1 none) := by show w.grownBy _ _; rw [← hW1]; exact World.grownBy_alloc w _ none
    rw [hW1] at hup hgr
    have HG := Lib.hid hG
    have Hgr := Lib.hid hgr
    have c1 := (H.out.kept Hg1.out (fun k e => by cases e)).box.cell
    clear h hZ hn hG hgr
    rw [e1]
    go_enter Tryz.func27, Tryz.ntmps27
    go_wp2
    go_ret
    have hz2 := Hgr.out.size
    have hs1 := Hs.out
    refine ⟨rfl, ⟨ob, _, _, _, _, HG.out, fun q hq => ?_⟩, ⟨Hgr.out.os.trans Hg1.out.os, Hgr.out.tape.trans Hg1.out.tape, Hgr.out.output.trans Hg1.out.output, by omega, fun q hq hz => ?_⟩⟩
    · rcases hq with rfl | ⟨a, ha, rfl⟩ | ⟨a, ha, b, hb, hq⟩
      · exact .inl (HZ.out _ (.inl rfl))
      · by_cases e : a = k
        · simp only [e, if_true]
          exact .inr ⟨Nat.le_refl _, by omega⟩
        · simp only [e, if_false]
          exact .inl (HZ.out _ (.inr (.inl ⟨a, (mem_putI.1 ha).resolve_left e, rfl⟩)))
      · by_cases e : a = k
        · simp only [e, if_true] at hq
          simp [Value.ownBlock] at hq
        · simp only [e, if_false] at hq
          exact .inl (HZ.out _ (.inr (.inr ⟨a, (mem_putI.1 ha).resolve_left e, b, hb, hq⟩)))
    · refine (Hgr.out.block q (by omega) (fun e => hz (HZ.out q (.inl (Option.some.inj e))))).trans (Hg1.out.block q hq (by simp))
section
variable {B g ob c : Nat} {DO : DV} {F : Int → Nat} {DI : Int → DV} {f : Int → Int → Value} {N : List Int} {E : List Ed} {W W6 : World}
/-- The row of kinds from a to b, looked up. -/
theorem GrIn.rowAt (h : GrIn B g ob c DO F DI f N E W) {a b : Int} (ha : fitS a) (hb : fitS b) : ∃ m v, (Instr.lookup 67 (.map (some ob)) (sv a) false).run Tryz.prog W = .ok (.map m) W ∧ (Instr.lookup 68 (.map m) (sv b) false).run Tryz.prog W = .ok v W ∧ W.ownsInts B 3 .i64 v (kindsE E a b) := by
  by_cases hn : a ∈ N
  · exact ⟨some (F a), f a b, look_as h.dom Tryz.underlying67 (zero65 W) ha ((h.atO a ha).trans (by rw [if_pos hn])), look_as (h.domI a hn) Tryz.underlying68 (zero23 W) hb (h.atI a hn b hb), h.row a hn b hb⟩
  · refine ⟨none, .slice none 0 0, look_as h.dom Tryz.underlying67 (zero65 W) ha ((h.atO a ha).trans (by rw [if_neg hn])), ?_, ?_⟩
    · exact Maps.look_nil false K9 Tryz.underlying68 (zero23 W) (keyS b hb)
    · rw [kindsE_nil.2 (fun g => hn (h.ends a b g).1)]
      exact World.ownsInts_nil _ _ _ _
/-- A row that grows leaves the maps as they were. -/
theorem GrIn.row_grown (h : GrIn B g ob c DO F DI f N E W) {a b : Int} (ha : a ∈ N) (hb : fitS b) (hg : W.grownBy W6 (f a b).ownBlock) (hbox : (f a b).ownBlock ≠ some g) : Boxed W6 g 70 (.map (some ob)) ∧ DomAt Tryz.prog 9 sl fitS asIs ob c N DO W6 ∧ ∀ a' ∈ N, DomAt Tryz.prog 9 sl fitS asIs (F a') c (outsE N E a') (DI a') W6 := by
  refine ⟨boxed_kept h.box hg (fun e => hbox e.symm), h.dom.kept hg (fun e => h.row_off ha hb e.symm), fun a' ha' => (h.domI a' ha').kept hg (fun e => ?_)⟩
  obtain ⟨o, h1, h2⟩ := dom_obj (h.domI a' ha')
  exact row_no (h.row a ha b hb).1 h1 h2 e.symm
/-- An edge laid in. -/
theorem GrIn.edge (h : GrIn B g ob c DO F DI f N E W) {a b k : Int} (ha : a ∈ N) (hb : b ∈ N) (fb : fitS b) (hk : k ∉ kindsE E a b) (hc : c < maxLen) (hg : W.grownBy W6 (f a b).ownBlock) (hbox : (f a b).ownBlock ≠ some g) {v6 : Value}
    (hown : W6.ownsInts B 3 .i64 v6 ((kindsE E a b).take (lessN k (kindsE E a b)) ++ k :: (kindsE E a b).drop (lessN k (kindsE E a b)))) (hloc : ∀ q, v6.ownBlock = some q → (f a b).ownBlock = some q ∨ W.heap.size ≤ q) :
    ∃ W7, (Instr.mapUpdate 68 (.map (some (F a))) (sv b) v6).run Tryz.prog W6 = .ok () W7 ∧
      GrIn B g ob (c + 1) DO F (fun x => if x = a then (DI a).put (sl b) (.held v6) else DI x) (fun x y => if x = a ∧ y = b then v6 else f x y) N (putE E (a, b, k)) W7 ∧ W6.grownBy W7 (some (F a)) := by
  obtain ⟨hbox6, hdom6, hdomI6⟩ := h.row_grown ha fb hg hbox
  have hends : EndsIn N (putE E (a, b, k)) := fun x y hxy => by
    rcases edR_put.1 hxy with g1 | ⟨rfl, rfl⟩
    · exact h.ends x y g1
    · exact ⟨ha, hb⟩
  obtain ⟨W7, hrun, hd7, hg7⟩ := put_as (hdomI6 a ha) Tryz.underlying68 hc fb v6 (L' := outsE N (putE E (a, b, k)) a) (fun y => by
    rw [mem_outsE hends, mem_outsE h.ends, edR_put]
    simp)
  have outs_other : ∀ x, x ≠ a → outsE N (putE E (a, b, k)) x = outsE N E x := fun x hx => by
    refine riseI_ext (h.nodes.filter _) (h.nodes.filter _) fun y => ?_
    rw [mem_outsE hends, mem_outsE h.ends, edR_put]
    simp [hx]
  have hFo : ∃ o, W6.heap[F a]? = some o ∧ o.isCells = false := dom_obj (hdomI6 a ha)
  have fresh : ∀ x ∈ N, ∀ y, fitS y → ¬ (x = a ∧ y = b) → ∀ q, v6.ownBlock = some q → (f x y).ownBlock ≠ some q := by
    intro x hx y hy hne q hq e2
    rcases hloc q hq with g1 | g1
    · exact hne (h.apR x hx a ha y b hy fb q e2 g1)
    · have h2 := (World.ownsRow.lt (h.row x hx y hy).1 q e2).2
      omega
  have keep7 : ∀ {v : Value} {zs : List Int}, W6.ownsInts B 3 .i64 v zs → W7.ownsInts B 3 .i64 v zs := fun {v zs} ho => by
    obtain ⟨o, h1, h2⟩ := hFo
    refine ho.kept hg7 ?_
    cases hf : v.ownBlock with
    | none => exact .inl rfl
    | some q => exact .inr fun e => row_no ho.1 h1 h2 (hf.trans e)
  refine ⟨W7, hrun, ⟨boxed_kept hbox6 hg7 (fun e => ?_), (hdom6.kept hg7 (fun e => h.neF a ha (Option.some.inj e).symm)).up (Nat.le_succ _), h.atO, fun x hx => ?_, fun x hx y hy => ?_, fun x hx y hy => ?_, hends, h.nodes, rise_putE h.edges _, h.apF, h.neF, fun x hx x' hx' y y' hy hy' q h2 h3 => ?_⟩, hg7⟩
  · obtain ⟨o, h1, h2⟩ := hFo
    have h3 := hbox6
    rw [Option.some.inj e] at h3
    rw [show W6.heap[F a]? = _ from h3] at h1
    cases h1
    cases h2
  · by_cases e : x = a
    · subst e
      simp only [if_true]
      exact hd7
    · simp only [e, if_false]
      rw [outs_other x e]
      exact ((hdomI6 x hx).kept hg7 (fun e2 => e (h.apF x hx a ha (Option.some.inj e2)))).up (Nat.le_succ _)
  · by_cases e : x = a
    · subst e
      simp only [if_true, true_and]
      rw [at_put (hdomI6 x hx) fb hy, h.atI x hx y hy]
      split <;> rfl
    · simp only [e, if_false, false_and]
      exact h.atI x hx y hy
  · by_cases e : x = a ∧ y = b
    · rw [if_pos e]
      obtain ⟨rfl, rfl⟩ := e
      rw [kinds_new h.edges hk]
      exact keep7 hown
    · rw [if_neg e, kinds_other h.edges e]
      refine keep7 ((h.row x hx y hy).kept hg ?_)
      cases hf : (f x y).ownBlock with
      | none => exact .inl rfl
      | some q => exact .inr fun e2 => e (h.apR x hx a ha y b hy fb q hf e2.symm)
  · by_cases e : x = a ∧ y = b
    · rw [if_pos e] at h2
      by_cases e' : x' = a ∧ y' = b
      · exact ⟨e.1.trans e'.1.symm, e.2.trans e'.2.symm⟩
      · rw [if_neg e'] at h3
        exact absurd h3 (fresh x' hx' y' hy' e' q h2)
    · rw [if_neg e] at h2
      by_cases e' : x' = a ∧ y' = b
      · rw [if_pos e'] at h3
        exact absurd h2 (fresh x hx y hy e q h3)
      · rw [if_neg e'] at h3
        exact h.apR x hx x' hx' y y' hy hy' q h2 h3
end
theorem GrAt.up {Z : Nat → Prop} {B g c c' : Nat} {N : List Int} {E : List Ed} {W : World} (h : GrAt Z B g c N E W) (hc : c ≤ c') : GrAt Z B g c' N E W := by
  obtain ⟨ob, DO, F, DI, f, h, hz⟩ := h
  exact ⟨ob, DO, F, DI, f, ⟨h.box, h.dom.up hc, h.atO, fun a ha => (h.domI a ha).up hc, h.atI, h.row, h.ends, h.nodes, h.edges, h.apF, h.neF, h.apR⟩, hz⟩
theorem GrIn.row_box {B g ob c : Nat} {DO : DV} {F : Int → Nat} {DI : Int → DV} {f : Int → Int → Value} {N : List Int} {E : List Ed} {W : World} (h : GrIn B g ob c DO F DI f N E W) {a b : Int} (ha : a ∈ N) (hb : fitS b) : (f a b).ownBlock ≠ some g := by
  intro e
  rcases (h.row a ha b hb).1.2 with ⟨e1, _⟩ | ⟨q, cap, cur, e1, _, hq, _⟩
  · rw [e1] at e
    simp [Value.ownBlock] at e
  · rw [e1] at e
    have e2 : q = g := by simpa [Value.ownBlock] using e
    rw [e2] at hq
    have h3 := h.box
    rw [show W.heap[g]? = _ from h3] at hq
    cases hq
set_option maxHeartbeats 16000000 in
set_option maxRecDepth 100000 in
theorem edge_in {Z : Nat → Prop} {B g c : Nat} {N : List Int} {E : List Ed} (a b k : Int) (ha : fitS a) (hb : fitS b) (hc : c ≤ 100000) (hE : E.length ≤ 100000) (hk : (a, b, k) ∈ E) (w : World) (h : GrAt Z B g c N E w) :
    Calls Tryz.prog 28 #[.pointer (some ⟨g, 0, none⟩), sv a, sv b, iv k] w fun e w' => e = .returned (.bool false) ∧ Hid (GrAt (More Z w w') B g (c + 3) (putI (putI N a) b) (putE E (a, b, k)) w' ∧ Off Z w w') := by
  have HN1 := Lib.hid (node_any a ha (show c < maxLen by unfold maxLen; omega) w h)
  have Hk := Lib.hid hk
  have Ha := Lib.hid ha
  have Hb := Lib.hid hb
  have HE : Hid (E.length ≤ 100000) := hE
  have Hc : Hid (c ≤ 100000) := hc
  clear h hk ha hb hc hE
  go_enter Tryz.func28, Tryz.ntmps28
  go_wp2_with (first
    | (go_at_call 27; (with_reducible refine HN1.out.mono ?_); rintro e w1 ⟨rfl, S1⟩; have HN2 := Lib.hid (node_any b Hb.out (show c + 1 < maxLen by have := Hc.out; unfold maxLen; omega) w1 S1.out.1))
    | (go_at_call 27; (with_reducible refine HN2.out.mono ?_); rintro e w2 ⟨rfl, S2⟩
       obtain ⟨ob, DO, F, DI, f, h2, hZ⟩ := S2.out.1
       have c0 := h2.box.cell
       obtain ⟨m, v, l1, l2, ho⟩ := h2.rowAt Ha.out Hb.out
       have HS := Lib.hid (search_row k w2 ho (rise_kindsE h2.edges a b) (Nat.le_trans (kinds_len E a b) HE.out))
       rw [decide_eq_true (mem_kindsE.2 Hk.out)] at HS
       clear ho hZ)
    | (go_at_call 31; (with_reducible refine HS.out.mono ?_); rintro e w3 ⟨rfl, S3⟩))
  go_ret
  have e1 : putE E (a, b, k) = E := if_pos Hk.out
  rw [e1]
  have hs1 := S1.out.2.size
  have hs2 := S2.out.2.size
  have hs3 := S3.out.size
  refine ⟨rfl, ((S2.out.1.below S3.out).up (by omega)).mono fun q hq => ?_, (S1.out.2.trans S2.out.2).trans (Off.below S3.out)⟩
  rcases hq with (hq | hq) | hq
  · exact .inl hq
  · exact .inr ⟨hq.1, by omega⟩
  · exact .inr ⟨by omega, by omega⟩
set_option maxHeartbeats 32000000 in
set_option maxRecDepth 100000 in
theorem edge_new {Z : Nat → Prop} {B g c : Nat} {N : List Int} {E : List Ed} (a b k : Int) (ha : fitS a) (hb : fitS b) (hkf : fit64 k) (hc : c ≤ 100000) (hE : E.length ≤ 100000) (hk : (a, b, k) ∉ E) (w : World) (hB : B ≤ w.heap.size) (h : GrAt Z B g c N E w) :
    Calls Tryz.prog 28 #[.pointer (some ⟨g, 0, none⟩), sv a, sv b, iv k] w fun e w' => e = .returned (.bool true) ∧ Hid (GrAt (More Z w w') B g (c + 3) (putI (putI N a) b) (putE E (a, b, k)) w' ∧ Off Z w w') := by
  have HN1 := Lib.hid (node_any a ha (show c < maxLen by unfold maxLen; omega) w h)
  have Hnk : Hid (k ∉ kindsE E a b) := fun g => hk (mem_kindsE.1 g)
  have Ha := Lib.hid ha
  have Hb := Lib.hid hb
  have Hk := Lib.hid hkf
  have Hkl : Hid ((kindsE E a b).length ≤ 100000) := Nat.le_trans (kinds_len E a b) hE
  have Hc : Hid (c ≤ 100000) := hc
  have HB : Hid (B ≤ w.heap.size) := hB
  have hk0 : (0 : Int) ≤ (lessN k (kindsE E a b) : Int) := by omega
  clear h hk ha hb hc hE hkf hB
  go_enter Tryz.func28, Tryz.ntmps28
  go_wp2_with (first
    | (go_at_call 27; (with_reducible refine HN1.out.mono ?_); rintro e w1 ⟨rfl, S1⟩; have HN2 := Lib.hid (node_any b Hb.out (show c + 1 < maxLen by have := Hc.out; unfold maxLen; omega) w1 S1.out.1))
    | (go_at_call 27; (with_reducible refine HN2.out.mono ?_); rintro e w2 ⟨rfl, S2⟩
       obtain ⟨ob, DO, F, DI, f, h2, hZ⟩ := S2.out.1
       have HaN : Hid (a ∈ putI (putI N a) b) := mem_putI.2 (.inr (mem_putI.2 (.inl rfl)))
       have HbN : Hid (b ∈ putI (putI N a) b) := mem_putI.2 (.inl rfl)
       have c0 := h2.box.cell
       have l1 := look_as h2.dom Tryz.underlying67 (zero65 w2) Ha.out ((h2.atO a Ha.out).trans (by rw [if_pos HaN.out]))
       have l2 := look_as (h2.domI a HaN.out) Tryz.underlying68 (zero23 w2) Hb.out (h2.atI a HaN.out b Hb.out)
       have HG2 := Lib.hid h2
       have HZ2 := Lib.hid hZ
       have HS := Lib.hid (search_row k w2 (h2.row a HaN.out b Hb.out) (rise_kindsE h2.edges a b) Hkl.out)
       rw [decide_eq_false Hnk.out] at HS
       clear hZ h2)
    | (go_at_call 31; (with_reducible refine HS.out.mono ?_); rintro e w3 ⟨rfl, S3⟩))
  have HG3 := Lib.hid (HG2.out.kept (grown_below S3.out) (fun k e => by cases e))
  have HX : Hid (∀ V, Below w3.heap.size w3 V → (V.cell? ⟨g, 0, none⟩ = some (.map (some ob)) ∧ (Instr.lookup 67 (.map (some ob)) (sv a) false).run Tryz.prog V = .ok (.map (some (F a))) V) ∧ (Instr.lookup 68 (.map (some (F a))) (sv b) false).run Tryz.prog V = .ok (f a b) V) := fun V hV => by
    have hh := HG3.out.kept (grown_below hV) (fun k e => by cases e)
    exact ⟨⟨hh.box.cell, look_as hh.dom Tryz.underlying67 (zero65 V) Ha.out ((hh.atO a Ha.out).trans (by rw [if_pos HaN.out]))⟩, look_as (hh.domI a HaN.out) Tryz.underlying68 (zero23 V) Hb.out (hh.atI a HaN.out b Hb.out)⟩
  have HIns := Lib.hid (fun V (hV : Below w3.heap.size w3 V) (hn : V.heap[w3.heap.size]? = some (.cells #[iv k] 3)) => insert_row k (lessN k (kindsE E a b)) w3.heap.size V ((HG3.out.kept (grown_below hV) (fun k e => by cases e)).row a HaN.out b Hb.out) Hk.out (lessN_le _ _) Hkl.out (by have := HB.out; have := S1.out.2.size; have := S2.out.2.size; have := S3.out.size; have := hV.size; omega) hn (fun e => by have := ((HG3.out.row a HaN.out b Hb.out).1.lt _ e).2; omega))
  clear c0 l1 l2
  have HS0 := (HX.out w3.drew (Below.refl _ _).drew).1
  refine wp_region_held_drew (S := fun w' => w'.cell? ⟨g, 0, none⟩ = some (.map (some ob)) ∧ (Instr.lookup 67 (.map (some ob)) (sv a) false).run Tryz.prog w' = .ok (.map (some (F a))) w') (by kernel_rfl) HS0 (fun hHeld => ?_)
  refine held_take 0 (some 31) ?_ rfl rfl (by kernel_rfl) (by kernel_rfl) (by kernel_rfl) (fun _ _ _ h => h) (by kernel_rfl) ?_ (by assumption) ?_
  rotate_left
  · intro w hSw; (try dsimp only at hSw); go_simp <;> (try with_reducible rfl)
  simp only [Act.put, List.setIfInBounds_toArray, List.set_cons_zero, List.set_cons_succ]
  refine held_take 1 (some 32) ?_ rfl rfl (by kernel_rfl) (by kernel_rfl) (by kernel_rfl) (fun _ _ _ h => h) (by kernel_rfl) ?_ (by assumption) ?_
  rotate_left
  · intro w hSw; (try dsimp only at hSw); go_simp <;> (try with_reducible rfl)
  simp only [Act.put, List.setIfInBounds_toArray, List.set_cons_zero, List.set_cons_succ]
  refine held_take 2 (some 33) ?_ rfl rfl (by kernel_rfl) (by kernel_rfl) (by kernel_rfl) (fun _ _ _ h => h) (by kernel_rfl) ?_ (by assumption) ?_
  rotate_left
  · intro w hSw; (try dsimp only at hSw); go_simp <;> (try with_reducible rfl)
  simp only [Act.put, List.setIfInBounds_toArray, List.set_cons_zero, List.set_cons_succ]
  refine held_take 3 (some 34) ?_ rfl rfl (by kernel_rfl) (by kernel_rfl) (by kernel_rfl) (fun _ _ _ h => h) (by kernel_rfl) ?_ (by assumption) ?_
  rotate_left
  · intro w hSw; (try dsimp only at hSw); go_simp <;> (try with_reducible rfl)
  simp only [Act.put, List.setIfInBounds_toArray, List.set_cons_zero, List.set_cons_succ]
  refine held_take 4 (some 35) ?_ rfl rfl (by kernel_rfl) (by kernel_rfl) (by kernel_rfl) (fun _ _ _ h => h) (by kernel_rfl) ?_ (by assumption) ?_
  rotate_left
  · intro w hSw; (try dsimp only at hSw); go_simp <;> (try with_reducible rfl)
  simp only [Act.put, List.setIfInBounds_toArray, List.set_cons_zero, List.set_cons_succ]
  refine held_take 5 (some 36) ?_ rfl rfl (by kernel_rfl) (by kernel_rfl) (by kernel_rfl) (fun _ _ _ h => h) (by kernel_rfl) ?_ (by assumption) ?_
  rotate_left
  · intro w hSw; (try dsimp only at hSw); go_simp <;> (try with_reducible rfl)
  simp only [Act.put, List.setIfInBounds_toArray, List.set_cons_zero, List.set_cons_succ]
  refine held_take 6 (some 37) ?_ rfl rfl (by kernel_rfl) (by kernel_rfl) (by kernel_rfl) (fun _ _ _ h => h) (by kernel_rfl) ?_ (by assumption) ?_
  rotate_left
  · intro w hSw; (try dsimp only at hSw); go_simp <;> (try with_reducible rfl)
  simp only [Act.put, List.setIfInBounds_toArray, List.set_cons_zero, List.set_cons_succ]
  refine held_take 7 (some 38) ?_ rfl rfl (by kernel_rfl) (by kernel_rfl) (by kernel_rfl) (fun _ _ _ h => h) (by kernel_rfl) ?_ (by assumption) ?_
  rotate_left
  · intro w hSw; (try dsimp only at hSw); go_simp <;> (try with_reducible rfl)
  simp only [Act.put, List.setIfInBounds_toArray, List.set_cons_zero, List.set_cons_succ]
  refine held_take 8 (some 39) ?_ rfl rfl (by kernel_rfl) (by kernel_rfl) (by kernel_rfl) (fun _ _ _ h => h) (by kernel_rfl) ?_ (by assumption) ?_
  rotate_left
  · intro w hSw; (try dsimp only at hSw); go_simp <;> (try with_reducible rfl)
  simp only [Act.put, List.setIfInBounds_toArray, List.set_cons_zero, List.set_cons_succ]
  refine held_take 9 (some 40) ?_ rfl rfl (by kernel_rfl) (by kernel_rfl) (by kernel_rfl) (fun _ _ _ h => h) (by kernel_rfl) ?_ (by assumption) ?_
  rotate_left
  · intro w hSw; (try dsimp only at hSw); go_simp <;> (try with_reducible rfl)
  simp only [Act.put, List.setIfInBounds_toArray, List.set_cons_zero, List.set_cons_succ]
  refine held_take 10 (some 41) ?_ rfl rfl (by kernel_rfl) (by kernel_rfl) (by kernel_rfl) (fun _ _ _ h => h) (by kernel_rfl) ?_ (by assumption) ?_
  rotate_left
  · intro w hSw; (try dsimp only at hSw); go_simp <;> (try with_reducible rfl)
  simp only [Act.put, List.setIfInBounds_toArray, List.set_cons_zero, List.set_cons_succ]
  refine held_take 11 (some 42) ?_ rfl rfl (by kernel_rfl) (by kernel_rfl) (by kernel_rfl) (fun _ _ _ h => h) (by kernel_rfl) ?_ (by assumption) ?_
  rotate_left
  · intro w hSw; (try dsimp only at hSw); go_simp <;> (try with_reducible rfl)
  simp only [Act.put, List.setIfInBounds_toArray, List.set_cons_zero, List.set_cons_succ]
  refine held_take 12 (some 43) ?_ rfl rfl (by kernel_rfl) (by kernel_rfl) (by kernel_rfl) (fun _ _ _ h => h) (by kernel_rfl) ?_ (by assumption) ?_
  rotate_left
  · intro w hSw; (try dsimp only at hSw); go_simp <;> (try with_reducible rfl)
  simp only [Act.put, List.setIfInBounds_toArray, List.set_cons_zero, List.set_cons_succ]
  refine held_take 13 (some 44) ?_ rfl rfl (by kernel_rfl) (by kernel_rfl) (by kernel_rfl) (fun _ _ _ h => h) (by kernel_rfl) ?_ (by assumption) ?_
  rotate_left
  · intro w hSw; (try dsimp only at hSw); go_simp <;> (try with_reducible rfl)
  simp only [Act.put, List.setIfInBounds_toArray, List.set_cons_zero, List.set_cons_succ]
  refine held_take 15 (some 46) ?_ rfl rfl (by kernel_rfl) (by kernel_rfl) (by kernel_rfl) (fun _ _ _ h => h) (by kernel_rfl) ?_ (by assumption) ?_
  rotate_left
  · intro w hSw; (try dsimp only at hSw); go_simp <;> (try with_reducible rfl)
  simp only [Act.put, List.setIfInBounds_toArray, List.set_cons_zero, List.set_cons_succ]
  refine held_take 16 (some 47) ?_ rfl rfl (by kernel_rfl) (by kernel_rfl) (by kernel_rfl) (fun _ _ _ h => h) (by kernel_rfl) ?_ (by assumption) ?_
  rotate_left
  · intro w hSw; (try dsimp only at hSw); go_simp <;> (try with_reducible rfl)
  simp only [Act.put, List.setIfInBounds_toArray, List.set_cons_zero, List.set_cons_succ]

  refine wpAnyH_ready (rs := [14, 17]) (by kernel_rfl) (by simp) (AllReadyH.cons rfl (fun K hK => ?_) (AllReadyH.cons rfl (fun K hK => ?_) AllReadyH.nil))
  · have l2 := (HX.out w3.drew (Below.refl _ _).drew).2
    go_simp
    clear l2
    refine hK.out _ _ (HX.out _ (by first | exact Below.refl _ _ | exact stepD (Below.refl _ _) | exact stepA (stepD (Below.refl _ _)) _ | exact stepA (Below.refl _ _) _ | exact stepD (stepA (Below.refl _ _) _))).1 (fun hHeld => ?_)
    clear hK K
    try simp only [Act.put, List.setIfInBounds_toArray, List.set_cons_zero, List.set_cons_succ]
    refine wpAnyH_ready (rs := [17]) (by kernel_rfl) (by simp) (AllReadyH.cons rfl (fun K hK => ?_) AllReadyH.nil)
    go_simp
    refine hK.out _ _ (HX.out _ (by first | exact Below.refl _ _ | exact stepD (Below.refl _ _) | exact stepA (stepD (Below.refl _ _)) _ | exact stepA (Below.refl _ _) _ | exact stepD (stepA (Below.refl _ _) _))).1 (fun hHeld => ?_)
    clear hK K
    try simp only [Act.put, List.setIfInBounds_toArray, List.set_cons_zero, List.set_cons_succ]
    refine wpAnyH_ready (rs := [18]) (by kernel_rfl) (by simp) (AllReadyH.cons rfl (fun K hK => ?_) AllReadyH.nil)
    go_simp
    go_at_call 32
    obtain ⟨V, hV⟩ : ∃ V, (w3.alloc (.cells #[iv k] 3)).drew = V := ⟨_, rfl⟩
    have BV : Hid (Below w3.heap.size w3 V) := by show Below _ _ _; rw [← hV]; exact stepD (stepA (Below.refl _ _) _)
    have HVN : Hid (V.heap[w3.heap.size]? = some (.cells #[iv k] 3)) := by show _ = _; rw [← hV]; exact World.alloc_heap_new w3 _
    have HIV := Lib.hid (HIns.out V BV.out HVN.out)
    have HGV := Lib.hid (HG3.out.kept (grown_below BV.out) (fun k e => by cases e))
    rw [hV]
    clear hV
    (with_reducible refine HIV.out.mono ?_); rintro e w6 ⟨v6, rfl, h6⟩
    have hbx := HGV.out.row_box HaN.out Hb.out
    obtain ⟨W7, hup, hG7, hgr7⟩ := HGV.out.edge HaN.out HbN.out Hb.out Hnk.out (show c + 1 + 1 < maxLen by have := Hc.out; unfold maxLen; omega) h6.out.2.1 hbx h6.out.1 h6.out.2.2
    have HG7 := Lib.hid hG7
    have Hgr7 := Lib.hid hgr7
    have H6 := Lib.hid h6.out
    have HS6 : Hid (w6.cell? ⟨g, 0, none⟩ = some (.map (some ob)) ∧ (Instr.lookup 67 (.map (some ob)) (sv a) false).run Tryz.prog w6 = .ok (.map (some (F a))) w6) := by
      obtain ⟨r1, r2, -⟩ := HGV.out.row_grown HaN.out Hb.out h6.out.2.1 hbx
      exact ⟨r1.cell, look_as r2 Tryz.underlying67 (zero65 w6) Ha.out ((HGV.out.atO a Ha.out).trans (by rw [if_pos HaN.out]))⟩
    have HS7 : Hid (W7.cell? ⟨g, 0, none⟩ = some (.map (some ob)) ∧ (Instr.lookup 67 (.map (some ob)) (sv a) false).run Tryz.prog W7 = .ok (.map (some (F a))) W7) := ⟨HG7.out.box.cell, look_as HG7.out.dom Tryz.underlying67 (zero65 W7) Ha.out ((HG7.out.atO a Ha.out).trans (by rw [if_pos HaN.out]))⟩
    clear hG7 hgr7 h6 hbx
    go_wp2_with fail
    refine hK.out _ _ HS6.out (fun hHeld => ?_)
    clear hK K
    try simp only [Act.put, List.setIfInBounds_toArray, List.set_cons_zero, List.set_cons_succ]
    refine wpAnyH_ready (rs := [19]) (by kernel_rfl) (by simp) (AllReadyH.cons rfl (fun K hK => ?_) AllReadyH.nil)
    go_simp
    refine hK.out _ _ HS7.out (fun hHeld => ?_)
    clear hK K
    try simp only [Act.put]
    refine wpAnyH_done (by kernel_rfl) ?_ _
    clear hHeld hup
    go_wp2
    go_ret
    have hs1 := S1.out.2.size
    have hs2 := S2.out.2.size
    have hs3 := S3.out.size
    have hsV := BV.out.size
    have hs6 := H6.out.2.1.size
    have hs7 := Hgr7.out.size
    refine ⟨rfl, ⟨ob, _, _, _, _, HG7.out, fun q hq => ?_⟩, ((S1.out.2.trans S2.out.2).trans (Off.below (S3.out.trans (BV.out.mono hs3)))).trans ⟨Hgr7.out.os.trans H6.out.2.1.os, Hgr7.out.tape.trans H6.out.2.1.tape, Hgr7.out.output.trans H6.out.2.1.output, by omega, fun q hq hz => ?_⟩⟩
    · have back : ∀ q, More (More Z w w1) w1 w2 q → More Z w W7 q := fun q hq => by
        rcases hq with (hq | hq) | hq
        · exact .inl hq
        · exact .inr ⟨hq.1, by omega⟩
        · exact .inr ⟨by omega, by omega⟩
      rcases hq with rfl | hq | ⟨x, hx, y, hy, hq⟩
      · exact back _ (HZ2.out _ (.inl rfl))
      · exact back _ (HZ2.out _ (.inr (.inl hq)))
      · replace hq : (if x = a ∧ y = b then v6 else f x y).ownBlock = some q := hq
        by_cases e : x = a ∧ y = b
        · rw [if_pos e] at hq
          rcases H6.out.2.2 q hq with h1 | h1
          · exact back _ (HZ2.out _ (.inr (.inr ⟨a, HaN.out, b, Hb.out, h1⟩)))
          · have h2 := (World.ownsRow.lt H6.out.1.1 q hq).2
            exact .inr ⟨by omega, by omega⟩
        · rw [if_neg e] at hq
          exact back _ (HZ2.out _ (.inr (.inr ⟨x, hx, y, hy, hq⟩)))
    · have hzz : ∀ q, More (More Z w w1) w1 w2 q → More Z w V q := fun q hq => by
        rcases hq with (hq | hq) | hq
        · exact .inl hq
        · exact .inr ⟨hq.1, by omega⟩
        · exact .inr ⟨by omega, by omega⟩
      have n1 : some q ≠ (f a b).ownBlock := fun e => hz (hzz q (HZ2.out q (.inr (.inr ⟨a, HaN.out, b, Hb.out, e.symm⟩))))
      have n2 : some q ≠ some (F a) := fun e => hz (hzz q (HZ2.out q (.inr (.inl ⟨a, HaN.out, (Option.some.inj e).symm⟩))))
      exact (Hgr7.out.block q (by omega) n2).trans (H6.out.2.1.block q hq n1)
  · go_simp
    refine hK.out _ _ (HX.out _ (by first | exact Below.refl _ _ | exact stepD (Below.refl _ _) | exact stepA (stepD (Below.refl _ _)) _ | exact stepA (Below.refl _ _) _ | exact stepD (stepA (Below.refl _ _) _))).1 (fun hHeld => ?_)
    clear hK K
    try simp only [Act.put, List.setIfInBounds_toArray, List.set_cons_zero, List.set_cons_succ]
    have l2 := (HX.out (w3.alloc (.cells #[iv k] 3)).drew (stepD (stepA (Below.refl _ _) _))).2
    refine wpAnyH_ready (rs := [14]) (by kernel_rfl) (by simp) (AllReadyH.cons rfl (fun K hK => ?_) AllReadyH.nil)
    go_simp
    clear l2
    refine hK.out _ _ (HX.out _ (by first | exact Below.refl _ _ | exact stepD (Below.refl _ _) | exact stepA (stepD (Below.refl _ _)) _ | exact stepA (Below.refl _ _) _ | exact stepD (stepA (Below.refl _ _) _))).1 (fun hHeld => ?_)
    clear hK K
    try simp only [Act.put, List.setIfInBounds_toArray, List.set_cons_zero, List.set_cons_succ]
    refine wpAnyH_ready (rs := [18]) (by kernel_rfl) (by simp) (AllReadyH.cons rfl (fun K hK => ?_) AllReadyH.nil)
    go_simp
    go_at_call 32
    obtain ⟨V, hV⟩ : ∃ V, (w3.alloc (.cells #[iv k] 3)).drew = V := ⟨_, rfl⟩
    have BV : Hid (Below w3.heap.size w3 V) := by show Below _ _ _; rw [← hV]; exact stepD (stepA (Below.refl _ _) _)
    have HVN : Hid (V.heap[w3.heap.size]? = some (.cells #[iv k] 3)) := by show _ = _; rw [← hV]; exact World.alloc_heap_new w3 _
    have HIV := Lib.hid (HIns.out V BV.out HVN.out)
    have HGV := Lib.hid (HG3.out.kept (grown_below BV.out) (fun k e => by cases e))
    rw [hV]
    clear hV
    (with_reducible refine HIV.out.mono ?_); rintro e w6 ⟨v6, rfl, h6⟩
    have hbx := HGV.out.row_box HaN.out Hb.out
    obtain ⟨W7, hup, hG7, hgr7⟩ := HGV.out.edge HaN.out HbN.out Hb.out Hnk.out (show c + 1 + 1 < maxLen by have := Hc.out; unfold maxLen; omega) h6.out.2.1 hbx h6.out.1 h6.out.2.2
    have HG7 := Lib.hid hG7
    have Hgr7 := Lib.hid hgr7
    have H6 := Lib.hid h6.out
    have HS6 : Hid (w6.cell? ⟨g, 0, none⟩ = some (.map (some ob)) ∧ (Instr.lookup 67 (.map (some ob)) (sv a) false).run Tryz.prog w6 = .ok (.map (some (F a))) w6) := by
      obtain ⟨r1, r2, -⟩ := HGV.out.row_grown HaN.out Hb.out h6.out.2.1 hbx
      exact ⟨r1.cell, look_as r2 Tryz.underlying67 (zero65 w6) Ha.out ((HGV.out.atO a Ha.out).trans (by rw [if_pos HaN.out]))⟩
    have HS7 : Hid (W7.cell? ⟨g, 0, none⟩ = some (.map (some ob)) ∧ (Instr.lookup 67 (.map (some ob)) (sv a) false).run Tryz.prog W7 = .ok (.map (some (F a))) W7) := ⟨HG7.out.box.cell, look_as HG7.out.dom Tryz.underlying67 (zero65 W7) Ha.out ((HG7.out.atO a Ha.out).trans (by rw [if_pos HaN.out]))⟩
    clear hG7 hgr7 h6 hbx
    go_wp2_with fail
    refine hK.out _ _ HS6.out (fun hHeld => ?_)
    clear hK K
    try simp only [Act.put, List.setIfInBounds_toArray, List.set_cons_zero, List.set_cons_succ]
    refine wpAnyH_ready (rs := [19]) (by kernel_rfl) (by simp) (AllReadyH.cons rfl (fun K hK => ?_) AllReadyH.nil)
    go_simp
    refine hK.out _ _ HS7.out (fun hHeld => ?_)
    clear hK K
    try simp only [Act.put]
    refine wpAnyH_done (by kernel_rfl) ?_ _
    clear hHeld hup
    go_wp2
    go_ret
    have hs1 := S1.out.2.size
    have hs2 := S2.out.2.size
    have hs3 := S3.out.size
    have hsV := BV.out.size
    have hs6 := H6.out.2.1.size
    have hs7 := Hgr7.out.size
    refine ⟨rfl, ⟨ob, _, _, _, _, HG7.out, fun q hq => ?_⟩, ((S1.out.2.trans S2.out.2).trans (Off.below (S3.out.trans (BV.out.mono hs3)))).trans ⟨Hgr7.out.os.trans H6.out.2.1.os, Hgr7.out.tape.trans H6.out.2.1.tape, Hgr7.out.output.trans H6.out.2.1.output, by omega, fun q hq hz => ?_⟩⟩
    · have back : ∀ q, More (More Z w w1) w1 w2 q → More Z w W7 q := fun q hq => by
        rcases hq with (hq | hq) | hq
        · exact .inl hq
        · exact .inr ⟨hq.1, by omega⟩
        · exact .inr ⟨by omega, by omega⟩
      rcases hq with rfl | hq | ⟨x, hx, y, hy, hq⟩
      · exact back _ (HZ2.out _ (.inl rfl))
      · exact back _ (HZ2.out _ (.inr (.inl hq)))
      · replace hq : (if x = a ∧ y = b then v6 else f x y).ownBlock = some q := hq
        by_cases e : x = a ∧ y = b
        · rw [if_pos e] at hq
          rcases H6.out.2.2 q hq with h1 | h1
          · exact back _ (HZ2.out _ (.inr (.inr ⟨a, HaN.out, b, Hb.out, h1⟩)))
          · have h2 := (World.ownsRow.lt H6.out.1.1 q hq).2
            exact .inr ⟨by omega, by omega⟩
        · rw [if_neg e] at hq
          exact back _ (HZ2.out _ (.inr (.inr ⟨x, hx, y, hy, hq⟩)))
    · have hzz : ∀ q, More (More Z w w1) w1 w2 q → More Z w V q := fun q hq => by
        rcases hq with (hq | hq) | hq
        · exact .inl hq
        · exact .inr ⟨hq.1, by omega⟩
        · exact .inr ⟨by omega, by omega⟩
      have n1 : some q ≠ (f a b).ownBlock := fun e => hz (hzz q (HZ2.out q (.inr (.inr ⟨a, HaN.out, b, Hb.out, e.symm⟩))))
      have n2 : some q ≠ some (F a) := fun e => hz (hzz q (HZ2.out q (.inr (.inl ⟨a, HaN.out, (Option.some.inj e).symm⟩))))
      exact (Hgr7.out.block q (by omega) n2).trans (H6.out.2.1.block q hq n1)
set_option maxRecDepth 100000 in
/-- Edge. -/
theorem edge_any {Z : Nat → Prop} {B g c : Nat} {N : List Int} {E : List Ed} (a b k : Int) (ha : fitS a) (hb : fitS b) (hkf : fit64 k) (hc : c ≤ 100000) (hE : E.length ≤ 100000) (w : World) (hB : B ≤ w.heap.size) (h : GrAt Z B g c N E w) :
    Calls Tryz.prog 28 #[.pointer (some ⟨g, 0, none⟩), sv a, sv b, iv k] w fun e w' => e = .returned (.bool (decide ((a, b, k) ∉ E))) ∧ Hid (GrAt (More Z w w') B g (c + 3) (putI (putI N a) b) (putE E (a, b, k)) w' ∧ Off Z w w') := by
  by_cases hk : (a, b, k) ∈ E
  · rw [decide_eq_false (fun g => g hk)]
    exact edge_in a b k ha hb hc hE hk w h
  · rw [decide_eq_true hk]
    exact edge_new a b k ha hb hkf hc hE hk w hB h
end S
end Go.Proofs.YthgkloapnihpaaaGreat
