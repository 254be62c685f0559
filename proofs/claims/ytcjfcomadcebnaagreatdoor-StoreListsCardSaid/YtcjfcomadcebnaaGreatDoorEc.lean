/- store.Key, by a contract. -/
import Derived.Test.YtcjfcomadcebnaaGreatDoorEb
import Derived.Test.YtcjfcomadcebnaaGreatDoorJo
namespace Go.Proofs.YtcjfcomadcebnaaGreatDoor
open Go.RowKit Go.Maps Go.WideMaps Go.WideElems Go.ChangeShapes Go.WideShapes
attribute [local go_sem] Oper.semAt_some
variable {T : TypeId} {er : Nat → Addr}

/-- A state's key, and a store's. -/
def kS (s : P3) : List UInt8 := keyT s.1 s.2.1 s.2.2
def keyS (S : List P3) : List UInt8 := Lib.join (S.map kS) [59, 32]
/-- A state that can be told. -/
def Tells (s : P3) : Prop := fits64 s.2.1 ∧ s.2.2.length ≤ 1000000
theorem kS_len {s : P3} (h : Tells s) : (kS s).length ≤ 1000100 := by
  have h1 := wordL_len 1 s.1
  have h2 := itoa_len s.2.1 h.1.1 h.1.2
  have h3 := h.2
  unfold kS keyT
  split <;> simp <;> omega
theorem joinTail_len (sep : List UInt8) (B : Nat) : ∀ r : List (List UInt8), (∀ x ∈ r, x.length ≤ B) → (Lib.joinTail sep r).length ≤ r.length * (sep.length + B)
  | [], _ => by simp [Lib.joinTail]
  | x :: r, h => by
    have ih := joinTail_len sep B r (fun y hy => h y (by simp [hy]))
    have hx := h x (by simp)
    show ((sep ++ x) ++ Lib.joinTail sep r).length ≤ _
    simp only [List.length_append, List.length_cons, Nat.add_mul, Nat.one_mul]
    omega
theorem keyS_len {S : List P3} (hn : S.length ≤ 100) (h : ∀ s ∈ S, Tells s) : (keyS S).length ≤ 200000000 := by
  unfold keyS
  cases S with
  | nil => simp [Lib.join_nil]
  | cons s S =>
    rw [List.map_cons, Lib.join_cons, List.length_append]
    have h1 := kS_len (h s (by simp))
    have h2 := joinTail_len [59, 32] 1000100 (S.map kS) (fun x hx => by obtain ⟨t, ht, rfl⟩ := List.mem_map.1 hx; exact kS_len (h t (by simp [ht])))
    simp at h2 hn
    omega

/-- Two blocks of unlike types are two. -/
theorem row_apart {W : World} {B e size n k : Nat} {t : TypeId} {v u : Value} {xs : List Value} (hr : W.ownsRow B e size v n xs) (hb : Boxed W k t u) (hte : t ≠ e) : v.ownBlock ≠ some k := by
  rcases hr.2 with ⟨rfl, _⟩ | ⟨g, cap, cur, rfl, _, hg, _⟩
  · simp [Value.ownBlock]
  · intro e1
    have e2 : g = k := by simpa [Value.ownBlock] using e1
    subst e2
    rw [show W.heap[g]? = _ from hb] at hg
    injection hg with hg
    injection hg with _ h2
    exact hte h2
theorem row_setBox {W : World} {B e size n k : Nat} {t : TypeId} {v u : Value} {xs : List Value} (hr : W.ownsRow B e size v n xs) (hb : Boxed W k t u) (hte : t ≠ e) (x : Value) : (W.setCell ⟨k, 0, none⟩ x).ownsRow B e size v n xs := by
  have hne := row_apart hr hb hte
  refine ⟨hr.1, hr.2.imp id ?_⟩
  rintro ⟨g, cap, cur, rfl, hB, hg, r⟩
  exact ⟨g, cap, cur, rfl, hB, (Below.heap_setCell _ _ _ _ (fun e => hne (by simp [Value.ownBlock, e]))).trans hg, r⟩
theorem boxed_apart {W W' : World} {B e size n k : Nat} {t : TypeId} {v u : Value} {xs : List Value} (hr : W.ownsRow B e size v n xs) (hb : Boxed W k t u) (hte : t ≠ e) (hg : W.grownBy W' v.ownBlock) : Boxed W' k t u :=
  (hg.block k (Array.getElem?_eq_some_iff.1 hb).1 (fun e => row_apart hr hb hte e.symm)).trans hb

/-- What holds at the head of a round, and behind the loop. -/
structure KeyInv (T : TypeId) (er : Nat → Addr) (w : World) (rb kb Bs N : Nat) (S : List P3) (c0 : Value) (pre : List Nat) (W : World) : Prop where
  ex : ∃ a' c', W.ownsRow rb 9 1 (.slice a' pre.length c') pre.length (pre.map fun k => tv (kS (stA S k))) ∧ Boxed W kb 61 (.slice a' pre.length c')
  below : Below w.heap.size w W
  it : Boxed W Bs 29 c0
  size : N ≤ W.heap.size
theorem KeyInv.cells {w W W' : World} {rb kb Bs N : Nat} {S : List P3} {c0 : Value} {pre : List Nat} (h : KeyInv T er w rb kb Bs N S c0 pre W) (hb : Below w.heap.size W W') (hk : ∀ (k : Nat) (cs : Array Value) (t : TypeId) (fr : Nat × Nat), W.heap[k]? = some (Obj.cells cs t fr) → W'.heap[k]? = some (Obj.cells cs t fr)) : KeyInv T er w rb kb Bs N S c0 pre W' := by
  obtain ⟨a', c', hr, hx⟩ := h.ex
  refine ⟨⟨a', c', ⟨hr.1, hr.2.imp id ?_⟩, hk _ _ _ _ hx⟩, h.below.trans hb, hk _ _ _ _ h.it, Nat.le_trans h.size hb.size⟩
  rintro ⟨g, cap, cur, e1, hB, hg, r⟩
  exact ⟨g, cap, cur, e1, hB, hk _ _ _ _ hg, r⟩
theorem KeyInv.next {w W W' : World} {rb kb Bs N : Nat} {S : List P3} {c0 : Value} {pre : List Nat} (h : KeyInv T er w rb kb Bs N S c0 pre W) (hb : Below W.heap.size W W') : KeyInv T er w rb kb Bs N S c0 pre W' :=
  h.cells (hb.mono h.below.size) (fun k _ _ _ hk => (hb.block k (Array.getElem?_eq_some_iff.1 hk).1).trans hk)

/-- An append to a row of one's own, as one step of a region that draws, within a round. -/
theorem stepIn_append_own {F : Fence} {n : Nat} {P : Program} {ops : Array Oper} {o : Oper} {a : Act} {w : World} {K : Act → World → Prop} {Q : Exit → Act → World → Prop} {E : Prop}
    (hg : o.guard = none) (s x : Operand) (t : TypeId) (hop : o.op = Op.call { callee := Callee.builtin Builtin.append, args := #[s, x], argTypes := #[t, t] })
    (base : Nat) (e : TypeId) (i : TypeInfo) (z : Value) (size bytes : Nat) (h1 : P.underlying t = some (.slice e)) (h2 : P.info? e = some i) (h3 : i.zero = some z) (h4 : i.size = size) (h5 : i.bytes = bytes) (h6 : z.cells.size = size) (h7 : 0 < size)
    (v : Value) (k : Nat) (xs : List Value) (hs : a.eval s = v) (hown : w.ownsRow base e size v k xs) (ad : Addr) (m c : Nat) (news : List Value) (hx : a.eval x = .slice (some ad) m c) (hn : news.length = m * size)
    (hc : ∀ j u, news[j]? = some u → w.cell? (ad.add j) = some u) (h1c : ∀ u ∈ news, u.oneCell' = true) (b1 : k + m ≤ maxLen) (b2 : (k + m) * bytes ≤ 140737488355328) (b3 : base ≤ w.heap.size)
    (hK : ∀ v' w', w'.ownsRow base e size v' (k + m) (xs ++ news) → w.grownBy w' v.ownBlock → K (a.put o.dst v') w') :
    if Region.wanted o (yielded ops a.tmps) = true then Oper.wpIn F n P o a w K Q else E := by
  have hw : Region.wanted o (yielded ops a.tmps) = true := by simp [Region.wanted, hg]
  rw [if_pos hw]
  obtain ⟨v', w', hrun, r1, r2, _⟩ := run_append_own (P := P) w base t o.type e i z size bytes h1 h2 h3 h4 h5 h6 h7 v k xs hown ad m c news hn hc h1c b1 b2 b3
  unfold Oper.wpIn
  refine ⟨?_, ?_⟩
  · simp [Oper.about, hop, resolve, Target.leads, Sem.run_pure]
  · rw [Oper.semAt_plain F _ _ (by rw [hop]; intro c hc'; cases hc')]
    simp [execOp, hop, resolve, invoke, builtin, hs, hx, hrun, Result.andThen]
    exact hK v' w' r1 r2

theorem key_fin {w W w8 w9 : World} {rb kb Bs N : Nat} {S : List P3} {c0 v' : Value} {pre : List Nat} {a' : Option Addr} {c' x : Nat} {kk : List UInt8} (hI : KeyInv T er w rb kb Bs N S c0 pre W) (hrb : w.heap.size ≤ rb) (hrk : rb < kb) (hkB : kb < Bs) (hkN : Bs < N)
    (h8 : Below W.heap.size W w8) (hr8 : w8.ownsRow rb 9 1 (.slice a' pre.length c') pre.length (pre.map fun k => tv (kS (stA S k)))) (hx8 : Boxed w8 kb 61 (.slice a' pre.length c'))
    (hr9 : w9.ownsRow rb 9 1 v' (pre.length + 1) ((pre.map fun k => tv (kS (stA S k))) ++ [tv kk])) (hg : w8.grownBy w9 (Value.slice a' pre.length c').ownBlock) (hkk : kS (stA S x) = kk) :
    KeepsOthers W (w9.setCell ⟨kb, 0, none⟩ v') ∧ KpS w.heap.size Bs W (w9.setCell ⟨kb, 0, none⟩ v') ∧ KeyInv T er w rb kb Bs N S c0 (pre ++ [x]) (w9.setCell ⟨kb, 0, none⟩ v') := by
  have hBW : Bs < W.heap.size := Nat.lt_of_lt_of_le hkN hI.size
  have hit8 : Boxed w8 Bs 29 c0 := boxed_below hI.it h8 hBW
  have hit9 : Boxed w9 Bs 29 c0 := boxed_apart hr8 hit8 (by decide) hg
  have hx9 : Boxed w9 kb 61 (.slice a' pre.length c') := boxed_apart hr8 hx8 (by decide) hg
  have hwW : w.heap.size ≤ W.heap.size := hI.below.size
  have hbl : ∀ k, (Value.slice a' pre.length c').ownBlock = some k → rb ≤ k := fun k hk => by
    rcases hr8.2 with ⟨e, _⟩ | ⟨g, cap, cur, e, hB, _⟩
    · rw [e] at hk; cases hk
    · rw [e] at hk; injection hk with hk; rw [← hk]; exact hB
  have hB9 : Below w.heap.size W w9 := (h8.mono hwW).grown hg (Nat.le_trans hwW h8.size) (fun k hk => Nat.le_trans hrb (hbl k hk))
  have hB10 : Below w.heap.size W (w9.setCell ⟨kb, 0, none⟩ v') := hB9.setCell (p := ⟨kb, 0, none⟩) (by show w.heap.size ≤ kb; omega) _
  have hne : Bs ≠ (⟨kb, 0, none⟩ : Addr).block := by show Bs ≠ kb; omega
  have hbox : (w9.setCell ⟨kb, 0, none⟩ v').heap[Bs]? = some (.cells #[c0] 29 (0, 0)) := (Below.heap_setCell _ _ _ _ hne).trans hit9
  refine ⟨((keeps_below h8).trans ⟨hg.size, fun k o hk ho => ?_⟩).trans (KeepsOthers.setCell _ _ _), ⟨hB10, hbox.trans hI.it.symm⟩, ?_, hI.below.trans hB10, hbox, Nat.le_trans hI.size hB10.size⟩
  · refine (hg.block k (Array.getElem?_eq_some_iff.1 hk).1 (fun e => ?_)).trans hk
    rcases hr8.2 with ⟨e1, _⟩ | ⟨g, cap, cur, e1, _, hg1, _⟩
    · rw [e1] at e; cases e
    · rw [e1] at e; injection e with e; rw [e, hg1] at hk; cases hk; cases ho
  · obtain ⟨a9, c9, rfl, _, _⟩ := row_sl hr9
    refine ⟨a9, c9, ?_, ?_⟩
    · rw [List.length_append, List.map_append, List.length_singleton, List.map_singleton, hkk]
      exact row_setBox hr9 hx9 (by decide) _
    · rw [List.length_append, List.length_singleton]
      exact hx9.set _

theorem res33 (tmps : Array Value) (W : World) (v : Value) (h2 : tmps.getD 2 undef = v) : (results Tryz.f33 tmps).run Tryz.prog W = .ok v W := by
  have h2' : tmps[2]?.getD undef = v := by simpa using h2
  simp [results, Tryz.results33, h2']
theorem leave33 {R : Ending → World → Prop} {a : Act} {w : World} (D : Nat) (v : Value) (hd : a.defers = [{ target := .collected D, args := #[] }]) (hv : a.tmps.getD 2 undef = v) (hK : w.heap[D]? = some (.deferred (some [])))
    (hR : R (.returned v) (w.putObj D (.deferred none))) : bodyPostM Fence.wide 10 Tryz.prog Tryz.f33 R .ret a w := by
  show LeavesInM Fence.wide 10 Tryz.prog Tryz.f33 a.tmps R a.defers .returning w
  rw [hd]
  exact ⟨by simp, .inl ⟨_, _, rfl, run_takeDeferred hK, _, res33 _ _ v hv, hR⟩⟩

set_option maxRecDepth 100000 in
set_option maxHeartbeats 4000000 in
theorem skey_any (a : Option Addr) (c : Nat) (S : List P3) (hn : S.length ≤ 100) (hs : ∀ s ∈ S, Tells s) (w : World) (h : SlAt w a (sts S)) (hG : Glob T er w) :
    Calls Tryz.prog 33 #[.agg #[.slice a S.length c]] w fun e w' => e = .returned (tv (keyS S)) ∧ Hid (Below w.heap.size w w') := by
  obtain ⟨i0, hi, hz0, hz1, hz2⟩ := info_parts (P := Tryz.prog) (e := 9) (z := .string ⟨#[]⟩) (size := 1) (bytes := 16) (by kernel_rfl)
  obtain ⟨W0, hW0, Hb0, hs0, Hx0⟩ := box_new w 29 (.slice a S.length c)
  have x0 := Hx0.out.cell
  have HL := Lib.hid (slen_any a S.length c W0)
  have Hs := Lib.hid hs
  have H := Lib.hid h
  have HG := Lib.hid hG
  clear hs h hG
  refine callsIn_wide.1 (callsIn_of_wp_marks (F := Fence.wide) (n := 10) Tryz.func33 rfl trivial (wpIn_wide.2 ?_) rfl)
  simp only [Tryz.ntmps33, List.size_toArray, List.length_cons, List.length_nil, Nat.reduceAdd, Nat.reduceSub, Array.replicate_succ, Array.replicate_zero, List.push_toArray, List.append_toArray, List.nil_append, List.cons_append]
  go_wp2_with (first | (go_at_call 32; refine HL.out.mono ?_; rintro e w2 ⟨rfl, h2⟩) | (at_make; refine wpList_make_own _ rfl _ _ 61 rfl w2.heap.size 9 i0 (.string ⟨#[]⟩) 1 Tryz.underlying61 hi hz0 hz1 _ _ _ S.length rfl rfl rfl (by rw [hz2]; omega) (by unfold maxLen; omega) (Nat.le_refl _) ?_))
  intro w3 hown3 hgrow3
  have Hw3 : Hid (Below w2.heap.size w2 w3) := (Below.refl _ _).grown hgrow3 (Nat.le_refl _) (fun k hk => by cases hk)
  have Hown3 := Lib.hid hown3
  clear hown3 hgrow3
  obtain ⟨W4, hW4, Hb4, hs4, Hx4⟩ := box_new w3 61 (.slice (some ⟨w2.heap.size, 0, none⟩) 0 S.length)
  have HX4 := Lib.hid (boxed_below (boxed_below (boxed_below Hx0.out h2.out hs0.out) Hw3.out (Nat.lt_of_lt_of_le hs0.out h2.out.size)) Hb4.out (Nat.lt_of_lt_of_le hs0.out (Nat.le_trans h2.out.size Hw3.out.size)))
  have x4 := HX4.out.cell
  have He := Lib.hid (each_any (.slice a S.length c) W4)
  obtain ⟨W5, hW5, Hb5, hs5, Hx5⟩ := box_new W4 29 (.slice a S.length c)
  rw [hW5] at He
  clear x0
  go_wp2_with (first | (go_at_call 15; refine He.out.mono ?_; rintro e w5 ⟨rfl, rfl⟩))
  have hB5 : Hid (Below w.heap.size w W5) := ((((Hb0.out.trans (h2.out.mono Hb0.out.size)).trans (Hw3.out.mono (Nat.le_trans Hb0.out.size h2.out.size))).trans (Hb4.out.mono (Nat.le_trans Hb0.out.size (Nat.le_trans h2.out.size Hw3.out.size)))).trans (Hb5.out.mono (Nat.le_trans Hb0.out.size (Nat.le_trans h2.out.size (Nat.le_trans Hw3.out.size Hb4.out.size)))))
  have hseq := seach_seq (10 - 1) (by decide) W4.heap.size w.heap.size a c S (by omega) W5 Hx5.out hs5.out hB5.out.size (fun W' hb => by
    have hb2 := hB5.out.trans hb
    exact H.out.below hb2)
  have hI0 : Hid (KeyInv T er w w2.heap.size w3.heap.size W4.heap.size W5.heap.size S (.slice a S.length c) [] W5) :=
    ⟨⟨_, _, ownsRow_below (ownsRow_below Hown3.out Hb4.out) Hb5.out, boxed_below Hx4.out Hb5.out hs4.out⟩, hB5.out, Hx5.out, Nat.le_refl _⟩
  have hst : Hid (∀ x, Tells (stA S x)) := fun x => by
    unfold stA
    by_cases hx : x < S.length
    · rw [List.getElem?_eq_getElem hx]; exact Hs.out _ (List.getElem_mem hx)
    · rw [List.getElem?_eq_none (by omega)]; exact ⟨⟨by decide, by decide⟩, by simp⟩
  refine (wpIn_wide (n := 10)).1 ?_
  apply rangeFunc_d (F := Fence.wide) (n := 10) rfl (by decide) (gf := 43) (lb := #[.pointer (some ⟨W4.heap.size, 0, none⟩)]) rfl trivial (enters_of Tryz.func43 (by kernel_rfl) rfl)
    hseq (fun _ _ h => keeps_below h) (fun h k => h.trans k) (fun W o hl => ⟨(Below.refl _ _).grown (grownBy_putObj' W _ _) (by have := hB5.out.size; omega) (fun k e => by cases e; have := hB5.out.size; omega), World.putObj_heap_other (by have := hs5.out; omega)⟩) (Below.refl _ _) (fun _ => rfl)
    (fun pre W => KeyInv T er w w2.heap.size w3.heap.size W4.heap.size W5.heap.size S (.slice a S.length c) pre W) (fun _ _ _ => False)
    (fun s W W' row h hg hr => h.cells ((Below.refl _ _).grown hg (Nat.le_trans hB5.out.size h.size) (fun k e => Nat.le_trans hB5.out.size (hr k e).1)) (fun k cs t fr hk => (hg.block k (Array.getElem?_eq_some_iff.1 hk).1 (fun e => by obtain ⟨_, o, ho, hc⟩ := hr k e.symm; rw [hk] at ho; cases ho; cases hc)).trans hk))
    (fun _ _ _ h ht => h.next ht) (fun _ _ _ _ _ h => h.elim) hI0.out
    (fun x a' W => ∃ sb, a' = { tmps := #[.agg #[.slice a S.length c], .pointer (some ⟨w.heap.size, 0, none⟩), .string ⟨#[]⟩, .pointer (some ⟨w3.heap.size, 0, none⟩), undef, .pointer (some ⟨sb, 0, none⟩), .agg #[.slice a S.length c], .int .i64 S.length, .slice (some ⟨w2.heap.size, 0, none⟩) 0 S.length, .agg #[.slice a S.length c], .func (.func 43) #[] #[.pointer (some ⟨W4.heap.size, 0, none⟩)], .int .i64 (x : Int), stV (stA S x), undef, undef, undef, undef, undef, undef, undef], defers := [] } ∧ W.heap[sb]? = some (.cells #[.int .i64 (stA S x).1, .int .i64 (stA S x).2.1, tv (stA S x).2.2] 34))
    (fun x a' _ W W' row h hg hr => by
      obtain ⟨sb, h1, hk⟩ := h
      exact ⟨sb, h1, (hg.block sb (Array.getElem?_eq_some_iff.1 hk).1 (fun e => by obtain ⟨_, o, ho, hc⟩ := hr sb e.symm; rw [hk] at ho; cases ho; cases hc)).trans hk⟩)
    (fun s A B h ht => .of_below ht (Nat.le_trans hB5.out.size h.size) (Nat.lt_of_lt_of_le hs5.out h.size))
  case hassign =>
    intro l x W K hK
    gi_wp2
    exact hK _ _ ((Below.refl _ _).alloc (Nat.le_refl _) _) ⟨_, rfl, World.alloc_heap_new W _⟩
  case hbody =>
    rintro l pre x a' W hI ⟨sb, rfl, hsb⟩ hlt
    obtain ⟨a', c', hr, hx⟩ := hI.ex
    have Hr := Lib.hid hr
    have Hx := Lib.hid hx
    have HI := Lib.hid hI
    have ck : W.drew.cell? ⟨w3.heap.size, 0, none⟩ = _ := hx.cell
    have Hsb := Lib.hid hsb
    have HKey := Lib.hid (fun W' (hg : Glob T er W') => key_any (T := T) (er := er) (stA S x).1 (stA S x).2.1 (hst.out x).1 (stA S x).2.2 (by have := (hst.out x).2; omega) W' hg)
    obtain ⟨z0, z1, z2⟩ := row_three hsb
    have y0 : W.drew.cell? ⟨sb, 0, none⟩ = _ := z0
    have y1 : W.drew.cell? ⟨sb, 1, none⟩ = _ := z1
    have y2 : W.drew.cell? ⟨sb, 2, none⟩ = _ := z2
    have HGd : Hid (Glob T er W.drew) := (HG.out.below' hI.below).drew
    have Hn : Hid (pre.length < 1000) := by show _ < _; omega
    have hkS : kS (stA S x) = keyT (stA S x).1 (stA S x).2.1 (stA S x).2.2 := rfl
    have HkS := Lib.hid hkS
    clear hr hx hI hsb z0 z1 z2 hkS
    generalize keyT (stA S x).1 (stA S x).2.1 (stA S x).2.2 = kk at *
    generalize stA S x = sx at y0 y1 y2 HKey Hsb ⊢
    obtain ⟨sk, sn, sl⟩ := sx
    try dsimp only at y0 y1 y2 HKey
    have hO : Hid (w.heap.size ≤ w2.heap.size ∧ w2.heap.size < w3.heap.size ∧ w3.heap.size < W4.heap.size ∧ W4.heap.size < W5.heap.size) := ⟨Nat.le_trans Hb0.out.size h2.out.size, by have h := Hown3.out; rcases h.2 with ⟨e, _⟩ | ⟨g, cap, cur, e, _, hg, _⟩; (· cases e); (· cases e; exact (Array.getElem?_eq_some_iff.1 hg).1), hs4.out, hs5.out⟩
    have hB28 : Hid (∀ V : World, W5.heap.size ≤ V.heap.size → w2.heap.size ≤ V.heap.size) := fun V hV => by have := hO.out; omega
    gi_wp2
    refine wpIn_region_any (by kernel_rfl) ?_
    change wpAnyIn _ _ _ _ _ _ _ _ _ (World.drew _)
    refine wpAnyIn_ready (rs := [0, 1]) (by kernel_rfl) (by simp) (AllReadyIn.cons rfl (fun K hK => ?_) (AllReadyIn.cons rfl (fun K hK => ?_) (AllReadyIn.nil)))
    · go_simp
      refine hK _ _ ?_
      clear hK K
      refine wpAnyIn_ready (rs := [1]) (by kernel_rfl) (by simp) (AllReadyIn.cons rfl (fun K hK => ?_) (AllReadyIn.nil))
      go_simp
      refine hK _ _ ?_
      clear hK K
      refine wpAnyIn_ready (rs := [2]) (by kernel_rfl) (by simp) (AllReadyIn.cons rfl (fun K hK => ?_) (AllReadyIn.nil))
      go_simp
      refine ⟨trivial, ?_⟩
      gi_at_call 12
      refine (CallsIn.inRound l (callsIn_wide.2 (HKey.out _ HGd.out))).mono ?_
      rintro e w7 ⟨rfl, h7⟩
      have H7 : Hid (Below W.heap.size W w7) := (Below.refl W.heap.size W).drew.trans h7.out
      have Hx7 := Lib.hid (boxed_below Hx.out H7.out (Array.getElem?_eq_some_iff.1 Hx.out).1)
      have Hr7 := Lib.hid (ownsRow_below Hr.out H7.out)
      have Hx8 : Hid (Boxed (w7.alloc (.cells #[tv kk] 9)) w3.heap.size 61 _) := Hx7.out.alloc _
      have Hr8 := Lib.hid (Hr7.out.alloc (.cells #[tv kk] 9))
      have c7 := Hx7.out.cell
      have c8 := Hx8.out.cell
      refine hK _ _ ?_
      clear hK K
      refine wpAnyIn_ready (rs := [3]) (by kernel_rfl) (by simp) (AllReadyIn.cons rfl (fun K hK => ?_) (AllReadyIn.nil))
      go_simp
      refine hK _ _ ?_
      clear hK K
      refine wpAnyIn_ready (rs := [4]) (by kernel_rfl) (by simp) (AllReadyIn.cons rfl (fun K hK => ?_) (AllReadyIn.nil))
      refine stepIn_append_own rfl _ _ 61 rfl w2.heap.size 9 i0 (.string ⟨#[]⟩) 1 16 Tryz.underlying61 hi hz0 hz1 hz2 rfl (by decide) (.slice a' pre.length c') pre.length _ rfl Hr8.out ⟨w7.heap.size, 0, none⟩ 1 1 [tv kk] rfl rfl (cell_one_new _ _ _) (by intro u hu; simp at hu; subst hu; rfl) (by unfold maxLen; have := Hn.out; omega) (by have := Hn.out; omega) (Nat.le_trans (hB28.out W HI.out.size) (Nat.le_trans H7.out.size (by simp))) ?_
      intro v' w9 hown9 hgrow9
      obtain ⟨a9, d9, rfl, -, -⟩ := row_sl hown9
      have Hx9 := Lib.hid (boxed_apart Hr8.out Hx8.out (by decide) hgrow9)
      have Hown9 := Lib.hid hown9
      have Hgrow9 := Lib.hid hgrow9
      clear hown9 hgrow9
      have c9 := Hx9.out.cell
      have f9 := Hx9.out.frozen
      refine hK _ _ ?_
      clear hK K
      refine wpAnyIn_ready (rs := [5]) (by kernel_rfl) (by simp) (AllReadyIn.cons rfl (fun K hK => ?_) (AllReadyIn.nil))
      go_simp
      refine hK _ _ ?_
      clear hK K
      refine wpAnyIn_done (by kernel_rfl) ?_ _
      gi_wp2
      exact key_fin (x := x) HI.out hO.out.1 hO.out.2.1 hO.out.2.2.1 hO.out.2.2.2 (H7.out.alloc H7.out.size _) Hr8.out Hx8.out Hown9.out Hgrow9.out HkS.out
    · go_simp
      refine hK _ _ ?_
      clear hK K
      refine wpAnyIn_ready (rs := [0, 2]) (by kernel_rfl) (by simp) (AllReadyIn.cons rfl (fun K hK => ?_) (AllReadyIn.cons rfl (fun K hK => ?_) (AllReadyIn.nil)))
      · go_simp
        refine hK _ _ ?_
        clear hK K
        refine wpAnyIn_ready (rs := [2]) (by kernel_rfl) (by simp) (AllReadyIn.cons rfl (fun K hK => ?_) (AllReadyIn.nil))
        go_simp
        refine ⟨trivial, ?_⟩
        gi_at_call 12
        refine (CallsIn.inRound l (callsIn_wide.2 (HKey.out _ HGd.out))).mono ?_
        rintro e w7 ⟨rfl, h7⟩
        have H7 : Hid (Below W.heap.size W w7) := (Below.refl W.heap.size W).drew.trans h7.out
        have Hx7 := Lib.hid (boxed_below Hx.out H7.out (Array.getElem?_eq_some_iff.1 Hx.out).1)
        have Hr7 := Lib.hid (ownsRow_below Hr.out H7.out)
        have Hx8 : Hid (Boxed (w7.alloc (.cells #[tv kk] 9)) w3.heap.size 61 _) := Hx7.out.alloc _
        have Hr8 := Lib.hid (Hr7.out.alloc (.cells #[tv kk] 9))
        have c7 := Hx7.out.cell
        have c8 := Hx8.out.cell
        refine hK _ _ ?_
        clear hK K
        refine wpAnyIn_ready (rs := [3]) (by kernel_rfl) (by simp) (AllReadyIn.cons rfl (fun K hK => ?_) (AllReadyIn.nil))
        go_simp
        refine hK _ _ ?_
        clear hK K
        refine wpAnyIn_ready (rs := [4]) (by kernel_rfl) (by simp) (AllReadyIn.cons rfl (fun K hK => ?_) (AllReadyIn.nil))
        refine stepIn_append_own rfl _ _ 61 rfl w2.heap.size 9 i0 (.string ⟨#[]⟩) 1 16 Tryz.underlying61 hi hz0 hz1 hz2 rfl (by decide) (.slice a' pre.length c') pre.length _ rfl Hr8.out ⟨w7.heap.size, 0, none⟩ 1 1 [tv kk] rfl rfl (cell_one_new _ _ _) (by intro u hu; simp at hu; subst hu; rfl) (by unfold maxLen; have := Hn.out; omega) (by have := Hn.out; omega) (Nat.le_trans (hB28.out W HI.out.size) (Nat.le_trans H7.out.size (by simp))) ?_
        intro v' w9 hown9 hgrow9
        obtain ⟨a9, d9, rfl, -, -⟩ := row_sl hown9
        have Hx9 := Lib.hid (boxed_apart Hr8.out Hx8.out (by decide) hgrow9)
        have Hown9 := Lib.hid hown9
        have Hgrow9 := Lib.hid hgrow9
        clear hown9 hgrow9
        have c9 := Hx9.out.cell
        have f9 := Hx9.out.frozen
        refine hK _ _ ?_
        clear hK K
        refine wpAnyIn_ready (rs := [5]) (by kernel_rfl) (by simp) (AllReadyIn.cons rfl (fun K hK => ?_) (AllReadyIn.nil))
        go_simp
        refine hK _ _ ?_
        clear hK K
        refine wpAnyIn_done (by kernel_rfl) ?_ _
        gi_wp2
        exact key_fin (x := x) HI.out hO.out.1 hO.out.2.1 hO.out.2.2.1 hO.out.2.2.2 (H7.out.alloc H7.out.size _) Hr8.out Hx8.out Hown9.out Hgrow9.out HkS.out
      · go_simp
        refine ⟨trivial, ?_⟩
        gi_at_call 12
        refine (CallsIn.inRound l (callsIn_wide.2 (HKey.out _ HGd.out))).mono ?_
        rintro e w7 ⟨rfl, h7⟩
        have H7 : Hid (Below W.heap.size W w7) := (Below.refl W.heap.size W).drew.trans h7.out
        have Hx7 := Lib.hid (boxed_below Hx.out H7.out (Array.getElem?_eq_some_iff.1 Hx.out).1)
        have Hr7 := Lib.hid (ownsRow_below Hr.out H7.out)
        have Hx8 : Hid (Boxed (w7.alloc (.cells #[tv kk] 9)) w3.heap.size 61 _) := Hx7.out.alloc _
        have Hr8 := Lib.hid (Hr7.out.alloc (.cells #[tv kk] 9))
        have c7 := Hx7.out.cell
        have c8 := Hx8.out.cell
        refine hK _ _ ?_
        clear hK K
        refine wpAnyIn_ready (rs := [0, 3]) (by kernel_rfl) (by simp) (AllReadyIn.cons rfl (fun K hK => ?_) (AllReadyIn.cons rfl (fun K hK => ?_) (AllReadyIn.nil)))
        · go_simp
          refine hK _ _ ?_
          clear hK K
          refine wpAnyIn_ready (rs := [3]) (by kernel_rfl) (by simp) (AllReadyIn.cons rfl (fun K hK => ?_) (AllReadyIn.nil))
          go_simp
          refine hK _ _ ?_
          clear hK K
          refine wpAnyIn_ready (rs := [4]) (by kernel_rfl) (by simp) (AllReadyIn.cons rfl (fun K hK => ?_) (AllReadyIn.nil))
          refine stepIn_append_own rfl _ _ 61 rfl w2.heap.size 9 i0 (.string ⟨#[]⟩) 1 16 Tryz.underlying61 hi hz0 hz1 hz2 rfl (by decide) (.slice a' pre.length c') pre.length _ rfl Hr8.out ⟨w7.heap.size, 0, none⟩ 1 1 [tv kk] rfl rfl (cell_one_new _ _ _) (by intro u hu; simp at hu; subst hu; rfl) (by unfold maxLen; have := Hn.out; omega) (by have := Hn.out; omega) (Nat.le_trans (hB28.out W HI.out.size) (Nat.le_trans H7.out.size (by simp))) ?_
          intro v' w9 hown9 hgrow9
          obtain ⟨a9, d9, rfl, -, -⟩ := row_sl hown9
          have Hx9 := Lib.hid (boxed_apart Hr8.out Hx8.out (by decide) hgrow9)
          have Hown9 := Lib.hid hown9
          have Hgrow9 := Lib.hid hgrow9
          clear hown9 hgrow9
          have c9 := Hx9.out.cell
          have f9 := Hx9.out.frozen
          refine hK _ _ ?_
          clear hK K
          refine wpAnyIn_ready (rs := [5]) (by kernel_rfl) (by simp) (AllReadyIn.cons rfl (fun K hK => ?_) (AllReadyIn.nil))
          go_simp
          refine hK _ _ ?_
          clear hK K
          refine wpAnyIn_done (by kernel_rfl) ?_ _
          gi_wp2
          exact key_fin (x := x) HI.out hO.out.1 hO.out.2.1 hO.out.2.2.1 hO.out.2.2.2 (H7.out.alloc H7.out.size _) Hr8.out Hx8.out Hown9.out Hgrow9.out HkS.out
        · go_simp
          refine hK _ _ ?_
          clear hK K
          refine wpAnyIn_ready (rs := [0]) (by kernel_rfl) (by simp) (AllReadyIn.cons rfl (fun K hK => ?_) (AllReadyIn.nil))
          go_simp
          refine hK _ _ ?_
          clear hK K
          refine wpAnyIn_ready (rs := [4]) (by kernel_rfl) (by simp) (AllReadyIn.cons rfl (fun K hK => ?_) (AllReadyIn.nil))
          refine stepIn_append_own rfl _ _ 61 rfl w2.heap.size 9 i0 (.string ⟨#[]⟩) 1 16 Tryz.underlying61 hi hz0 hz1 hz2 rfl (by decide) (.slice a' pre.length c') pre.length _ rfl Hr8.out ⟨w7.heap.size, 0, none⟩ 1 1 [tv kk] rfl rfl (cell_one_new _ _ _) (by intro u hu; simp at hu; subst hu; rfl) (by unfold maxLen; have := Hn.out; omega) (by have := Hn.out; omega) (Nat.le_trans (hB28.out W HI.out.size) (Nat.le_trans H7.out.size (by simp))) ?_
          intro v' w9 hown9 hgrow9
          obtain ⟨a9, d9, rfl, -, -⟩ := row_sl hown9
          have Hx9 := Lib.hid (boxed_apart Hr8.out Hx8.out (by decide) hgrow9)
          have Hown9 := Lib.hid hown9
          have Hgrow9 := Lib.hid hgrow9
          clear hown9 hgrow9
          have c9 := Hx9.out.cell
          have f9 := Hx9.out.frozen
          refine hK _ _ ?_
          clear hK K
          refine wpAnyIn_ready (rs := [5]) (by kernel_rfl) (by simp) (AllReadyIn.cons rfl (fun K hK => ?_) (AllReadyIn.nil))
          go_simp
          refine hK _ _ ?_
          clear hK K
          refine wpAnyIn_done (by kernel_rfl) ?_ _
          gi_wp2
          exact key_fin (x := x) HI.out hO.out.1 hO.out.2.1 hO.out.2.2.1 hO.out.2.2.2 (H7.out.alloc H7.out.size _) Hr8.out Hx8.out Hown9.out Hgrow9.out HkS.out
  case hdone =>
    rintro D ys W hD rfl hI hK
    obtain ⟨a', c', hr, hx⟩ := hI.ex
    rw [List.length_range] at hr hx
    have ck := hx.cell
    have HI := Lib.hid hI
    have HK := Lib.hid hK
    have HD := Lib.hid hD
    have hxs : ((List.range S.length).map fun k => tv (kS (stA S k))) = (S.map kS).map tv := by
      rw [List.map_map]
      refine List.ext_getElem (by simp) (fun i h1 h2 => ?_)
      have hi : i < S.length := by simpa using h1
      simp [stA, List.getElem?_eq_getElem hi]
    rw [hxs] at hr
    have hj : Hid (Calls Tryz.prog 52 #[.slice a' S.length c', .string ⟨#[59, 32]⟩] W fun e w' => e = .returned (tv (keyS S)) ∧ Below W.heap.size W w') := by
      obtain ⟨a2, c2, e2, hsl, hcap⟩ := row_sl hr
      cases e2
      rcases hsl with ⟨rfl, h0⟩ | ⟨b, off, rfl, hbl, hc⟩
      · have h1 : S = [] := by simpa using h0
        subst h1
        exact (Tryz.strings_Join_none none c' ⟨#[59, 32]⟩ W).mono fun e w' h => ⟨h.1, by rw [h.2]; exact Below.refl _ _⟩
      · by_cases h0 : S = []
        · subst h0
          exact (Tryz.strings_Join_none _ c' ⟨#[59, 32]⟩ W).mono fun e w' h => ⟨h.1, by rw [h.2]; exact Below.refl _ _⟩
        · have hlen := keyS_len hn Hs.out
          have hmm : ((S.map kS).map fun l => (⟨l.toArray⟩ : ByteArray)).map (fun x => x.data.toList) = S.map kS := by
            rw [List.map_map]; simp [Function.comp_def]
          have hl0 : ((S.map kS).map fun l => (⟨l.toArray⟩ : ByteArray)).length = S.length := by simp
          have hJ := Tryz.strings_Join b off c' ((S.map kS).map fun l => ⟨l.toArray⟩) ⟨#[59, 32]⟩ W (fun j y hy => by
            refine hc j _ ?_
            rw [List.getElem?_map] at hy ⊢
            cases hq : (S.map kS)[j]? with
            | none => rw [hq] at hy; cases hy
            | some l => rw [hq] at hy; cases hy; rfl) (hbl (by simpa using h0)) (by rw [hl0]; omega) (by rw [hl0]; exact hcap) (by rw [hmm]; show (keyS S).length ≤ _; omega)
          rw [hl0, hmm] at hJ
          exact hJ
    clear hr hx hI hK hD hxs
    go_wp2_with (first | (go_at_call 52; refine hj.out.mono ?_; rintro e w7 ⟨rfl, h7⟩; have H7 := Lib.hid h7; clear h7))
    have hk7 : w7.heap[D]? = some (.deferred (some [])) := (H7.out.block D (Array.getElem?_eq_some_iff.1 HK.out).1).trans HK.out
    have hb7 : Below w.heap.size w w7 := HI.out.below.trans (H7.out.mono HI.out.below.size)
    exact leave33 D _ rfl rfl hk7 ⟨rfl, hb7.trans ((Below.refl _ _).grown (grownBy_putObj' w7 D _) hb7.size (fun k e => by cases e; exact Nat.le_trans hB5.out.size HD.out))⟩
  case hstop =>
    rintro D c' pre W hD _ hf
    exact hf.elim
end Go.Proofs.YtcjfcomadcebnaaGreatDoor
