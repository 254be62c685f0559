/- Helpers, joined: Ec, Rh, Rp, Rt. -/
import Derived.Test.YtcjfcomadcebnaaGreatDoorM1
import Derived.Test.YtcjfcomadcebnaaGreatDoorM4
import Derived.Deep.RegionHeld3

/- store.Key, by a contract. -/
namespace Go.Proofs.YtcjfcomadcebnaaGreatDoor
open Go.RowKit Go.Maps Go.WideMaps Go.WideElems Go.ChangeShapes Go.WideShapes
attribute [local go_sem] Oper.semAt_some
variable {T : TypeId} {er : Nat → Addr}

/-- A state's key, and a store's. -/
def kS (s : P3) : List UInt8 := keyT s.1 s.2.1 s.2.2
def keyS (S : List P3) : List UInt8 := Lib.join (S.map kS) [59, 32]
/-- A state that can be told. -/
def Tells (s : P3) : Prop := fits64 s.2.1 ∧ s.2.2.length ≤ 1000000
theorem kS_len {s : P3} (h : Tells s) : (kS s).length ≤ 1000100 := by
  have h1 := wordL_len 1 s.1
  have h2 := itoa_len s.2.1 h.1.1 h.1.2
  have h3 := h.2
  unfold kS keyT
  split <;> simp <;> omega
theorem joinTail_len (sep : List UInt8) (B : Nat) : ∀ r : List (List UInt8), (∀ x ∈ r, x.length ≤ B) → (Lib.joinTail sep r).length ≤ r.length * (sep.length + B)
  | [], _ => by simp [Lib.joinTail]
  | x :: r, h => by
    have ih := joinTail_len sep B r (fun y hy => h y (by simp [hy]))
    have hx := h x (by simp)
    show ((sep ++ x) ++ Lib.joinTail sep r).length ≤ _
    simp only [List.length_append, List.length_cons, Nat.add_mul, Nat.one_mul]
    omega
theorem keyS_len {S : List P3} (hn : S.length ≤ 100) (h : ∀ s ∈ S, Tells s) : (keyS S).length ≤ 200000000 := by
  unfold keyS
  cases S with
  | nil => simp [Lib.join_nil]
  | cons s S =>
    rw [List.map_cons, Lib.join_cons, List.length_append]
    have h1 := kS_len (h s (by simp))
    have h2 := joinTail_len [59, 32] 1000100 (S.map kS) (fun x hx => by obtain ⟨t, ht, rfl⟩ := List.mem_map.1 hx; exact kS_len (h t (by simp [ht])))
    simp at h2 hn
    omega

/-- Two blocks of unlike types are two. -/
theorem row_apart {W : World} {B e size n k : Nat} {t : TypeId} {v u : Value} {xs : List Value} (hr : W.ownsRow B e size v n xs) (hb : Boxed W k t u) (hte : t ≠ e) : v.ownBlock ≠ some k := by
  rcases hr.2 with ⟨rfl, _⟩ | ⟨g, cap, cur, rfl, _, hg, _⟩
  · simp [Value.ownBlock]
  · intro e1
    have e2 : g = k := by simpa [Value.ownBlock] using e1
    subst e2
    rw [show W.heap[g]? = _ from hb] at hg
    injection hg with hg
    injection hg with _ h2
    exact hte h2
theorem row_setBox {W : World} {B e size n k : Nat} {t : TypeId} {v u : Value} {xs : List Value} (hr : W.ownsRow B e size v n xs) (hb : Boxed W k t u) (hte : t ≠ e) (x : Value) : (W.setCell ⟨k, 0, none⟩ x).ownsRow B e size v n xs := by
  have hne := row_apart hr hb hte
  refine ⟨hr.1, hr.2.imp id ?_⟩
  rintro ⟨g, cap, cur, rfl, hB, hg, r⟩
  exact ⟨g, cap, cur, rfl, hB, (Below.heap_setCell _ _ _ _ (fun e => hne (by simp [Value.ownBlock, e]))).trans hg, r⟩
theorem boxed_apart {W W' : World} {B e size n k : Nat} {t : TypeId} {v u : Value} {xs : List Value} (hr : W.ownsRow B e size v n xs) (hb : Boxed W k t u) (hte : t ≠ e) (hg : W.grownBy W' v.ownBlock) : Boxed W' k t u :=
  (hg.block k (Array.getElem?_eq_some_iff.1 hb).1 (fun e => row_apart hr hb hte e.symm)).trans hb

/-- What holds at the head of a round, and behind the loop. -/
structure KeyInv (T : TypeId) (er : Nat → Addr) (w : World) (rb kb Bs N : Nat) (S : List P3) (c0 : Value) (pre : List Nat) (W : World) : Prop where
  ex : ∃ a' c', W.ownsRow rb 9 1 (.slice a' pre.length c') pre.length (pre.map fun k => tv (kS (stA S k))) ∧ Boxed W kb 61 (.slice a' pre.length c')
  below : Below w.heap.size w W
  it : Boxed W Bs 29 c0
  size : N ≤ W.heap.size
theorem KeyInv.cells {w W W' : World} {rb kb Bs N : Nat} {S : List P3} {c0 : Value} {pre : List Nat} (h : KeyInv T er w rb kb Bs N S c0 pre W) (hb : Below w.heap.size W W') (hk : ∀ (k : Nat) (cs : Array Value) (t : TypeId) (fr : Nat × Nat), W.heap[k]? = some (Obj.cells cs t fr) → W'.heap[k]? = some (Obj.cells cs t fr)) : KeyInv T er w rb kb Bs N S c0 pre W' := by
  obtain ⟨a', c', hr, hx⟩ := h.ex
  refine ⟨⟨a', c', ⟨hr.1, hr.2.imp id ?_⟩, hk _ _ _ _ hx⟩, h.below.trans hb, hk _ _ _ _ h.it, Nat.le_trans h.size hb.size⟩
  rintro ⟨g, cap, cur, e1, hB, hg, r⟩
  exact ⟨g, cap, cur, e1, hB, hk _ _ _ _ hg, r⟩
theorem KeyInv.next {w W W' : World} {rb kb Bs N : Nat} {S : List P3} {c0 : Value} {pre : List Nat} (h : KeyInv T er w rb kb Bs N S c0 pre W) (hb : Below W.heap.size W W') : KeyInv T er w rb kb Bs N S c0 pre W' :=
  h.cells (hb.mono h.below.size) (fun k _ _ _ hk => (hb.block k (Array.getElem?_eq_some_iff.1 hk).1).trans hk)

/-- An append to a row of one's own, as one step of a region that draws, within a round. -/
theorem stepIn_append_own {F : Fence} {n : Nat} {P : Program} {ops : Array Oper} {o : Oper} {a : Act} {w : World} {K : Act → World → Prop} {Q : Exit → Act → World → Prop} {E : Prop}
    (hg : o.guard = none) (s x : Operand) (t : TypeId) (hop : o.op = Op.call { callee := Callee.builtin Builtin.append, args := #[s, x], argTypes := #[t, t] })
    (base : Nat) (e : TypeId) (i : TypeInfo) (z : Value) (size bytes : Nat) (h1 : P.underlying t = some (.slice e)) (h2 : P.info? e = some i) (h3 : i.zero = some z) (h4 : i.size = size) (h5 : i.bytes = bytes) (h6 : z.cells.size = size) (h7 : 0 < size)
    (v : Value) (k : Nat) (xs : List Value) (hs : a.eval s = v) (hown : w.ownsRow base e size v k xs) (ad : Addr) (m c : Nat) (news : List Value) (hx : a.eval x = .slice (some ad) m c) (hn : news.length = m * size)
    (hc : ∀ j u, news[j]? = some u → w.cell? (ad.add j) = some u) (h1c : ∀ u ∈ news, u.oneCell' = true) (b1 : k + m ≤ maxLen) (b2 : (k + m) * bytes ≤ 140737488355328) (b3 : base ≤ w.heap.size)
    (hK : ∀ v' w', w'.ownsRow base e size v' (k + m) (xs ++ news) → w.grownBy w' v.ownBlock → K (a.put o.dst v') w') :
    if Region.wanted o (yielded ops a.tmps) = true then Oper.wpIn F n P o a w K Q else E := by
  have hw : Region.wanted o (yielded ops a.tmps) = true := by simp [Region.wanted, hg]
  rw [if_pos hw]
  obtain ⟨v', w', hrun, r1, r2, _⟩ := run_append_own (P := P) w base t o.type e i z size bytes h1 h2 h3 h4 h5 h6 h7 v k xs hown ad m c news hn hc h1c b1 b2 b3
  unfold Oper.wpIn
  refine ⟨?_, ?_⟩
  · simp [Oper.about, hop, resolve, Target.leads, Sem.run_pure]
  · rw [Oper.semAt_plain F _ _ (by rw [hop]; intro c hc'; cases hc')]
    simp [execOp, hop, resolve, invoke, builtin, hs, hx, hrun, Result.andThen]
    exact hK v' w' r1 r2

theorem key_fin {w W w8 w9 : World} {rb kb Bs N : Nat} {S : List P3} {c0 v' : Value} {pre : List Nat} {a' : Option Addr} {c' x : Nat} {kk : List UInt8} (hI : KeyInv T er w rb kb Bs N S c0 pre W) (hrb : w.heap.size ≤ rb) (hrk : rb < kb) (hkB : kb < Bs) (hkN : Bs < N)
    (h8 : Below W.heap.size W w8) (hr8 : w8.ownsRow rb 9 1 (.slice a' pre.length c') pre.length (pre.map fun k => tv (kS (stA S k)))) (hx8 : Boxed w8 kb 61 (.slice a' pre.length c'))
    (hr9 : w9.ownsRow rb 9 1 v' (pre.length + 1) ((pre.map fun k => tv (kS (stA S k))) ++ [tv kk])) (hg : w8.grownBy w9 (Value.slice a' pre.length c').ownBlock) (hkk : kS (stA S x) = kk) :
    KeepsOthers W (w9.setCell ⟨kb, 0, none⟩ v') ∧ KpS w.heap.size Bs W (w9.setCell ⟨kb, 0, none⟩ v') ∧ KeyInv T er w rb kb Bs N S c0 (pre ++ [x]) (w9.setCell ⟨kb, 0, none⟩ v') := by
  have hBW : Bs < W.heap.size := Nat.lt_of_lt_of_le hkN hI.size
  have hit8 : Boxed w8 Bs 29 c0 := boxed_below hI.it h8 hBW
  have hit9 : Boxed w9 Bs 29 c0 := boxed_apart hr8 hit8 (by decide) hg
  have hx9 : Boxed w9 kb 61 (.slice a' pre.length c') := boxed_apart hr8 hx8 (by decide) hg
  have hwW : w.heap.size ≤ W.heap.size := hI.below.size
  have hbl : ∀ k, (Value.slice a' pre.length c').ownBlock = some k → rb ≤ k := fun k hk => by
    rcases hr8.2 with ⟨e, _⟩ | ⟨g, cap, cur, e, hB, _⟩
    · rw [e] at hk; cases hk
    · rw [e] at hk; injection hk with hk; rw [← hk]; exact hB
  have hB9 : Below w.heap.size W w9 := (h8.mono hwW).grown hg (Nat.le_trans hwW h8.size) (fun k hk => Nat.le_trans hrb (hbl k hk))
  have hB10 : Below w.heap.size W (w9.setCell ⟨kb, 0, none⟩ v') := hB9.setCell (p := ⟨kb, 0, none⟩) (by show w.heap.size ≤ kb; omega) _
  have hne : Bs ≠ (⟨kb, 0, none⟩ : Addr).block := by show Bs ≠ kb; omega
  have hbox : (w9.setCell ⟨kb, 0, none⟩ v').heap[Bs]? = some (.cells #[c0] 29 (0, 0)) := (Below.heap_setCell _ _ _ _ hne).trans hit9
  refine ⟨((keeps_below h8).trans ⟨hg.size, fun k o hk ho => ?_⟩).trans (KeepsOthers.setCell _ _ _), ⟨hB10, hbox.trans hI.it.symm⟩, ?_, hI.below.trans hB10, hbox, Nat.le_trans hI.size hB10.size⟩
  · refine (hg.block k (Array.getElem?_eq_some_iff.1 hk).1 (fun e => ?_)).trans hk
    rcases hr8.2 with ⟨e1, _⟩ | ⟨g, cap, cur, e1, _, hg1, _⟩
    · rw [e1] at e; cases e
    · rw [e1] at e; injection e with e; rw [e, hg1] at hk; cases hk; cases ho
  · obtain ⟨a9, c9, rfl, _, _⟩ := row_sl hr9
    refine ⟨a9, c9, ?_, ?_⟩
    · rw [List.length_append, List.map_append, List.length_singleton, List.map_singleton, hkk]
      exact row_setBox hr9 hx9 (by decide) _
    · rw [List.length_append, List.length_singleton]
      exact hx9.set _

theorem res33 (tmps : Array Value) (W : World) (v : Value) (h2 : tmps.getD 2 undef = v) : (results Tryz.f33 tmps).run Tryz.prog W = .ok v W := by
  have h2' : tmps[2]?.getD undef = v := by simpa using h2
  simp [results, Tryz.results33, h2']
theorem leave33 {R : Ending → World → Prop} {a : Act} {w : World} (D : Nat) (v : Value) (hd : a.defers = [{ target := .collected D, args := #[] }]) (hv : a.tmps.getD 2 undef = v) (hK : w.heap[D]? = some (.deferred (some [])))
    (hR : R (.returned v) (w.putObj D (.deferred none))) : bodyPostM Fence.wide 10 Tryz.prog Tryz.f33 R .ret a w := by
  show LeavesInM Fence.wide 10 Tryz.prog Tryz.f33 a.tmps R a.defers .returning w
  rw [hd]
  exact ⟨by simp, .inl ⟨_, _, rfl, run_takeDeferred hK, _, res33 _ _ v hv, hR⟩⟩

set_option maxRecDepth 100000 in
set_option maxHeartbeats 4000000 in
theorem skey_any (a : Option Addr) (c : Nat) (S : List P3) (hn : S.length ≤ 100) (hs : ∀ s ∈ S, Tells s) (w : World) (h : SlAt w a (sts S)) (hG : Glob T er w) :
    Calls Tryz.prog 33 #[.agg #[.slice a S.length c]] w fun e w' => e = .returned (tv (keyS S)) ∧ Hid (Below w.heap.size w w') := by
  obtain ⟨i0, hi, hz0, hz1, hz2⟩ := info_parts (P := Tryz.prog) (e := 9) (z := .string ⟨#[]⟩) (size := 1) (bytes := 16) (by kernel_rfl)
  obtain ⟨W0, hW0, Hb0, hs0, Hx0⟩ := box_new w 29 (.slice a S.length c)
  have x0 := Hx0.out.cell
  have HL := Lib.hid (slen_any a S.length c W0)
  have Hs := Lib.hid hs
  have H := Lib.hid h
  have HG := Lib.hid hG
  clear hs h hG
  refine callsIn_wide.1 (callsIn_of_wp_marks (F := Fence.wide) (n := 10) Tryz.func33 rfl trivial (wpIn_wide.2 ?_) rfl)
  simp only [Tryz.ntmps33, List.size_toArray, List.length_cons, List.length_nil, Nat.reduceAdd, Nat.reduceSub, Array.replicate_succ, Array.replicate_zero, List.push_toArray, List.append_toArray, List.nil_append, List.cons_append]
  go_wp2_with (first | (go_at_call 32; refine HL.out.mono ?_; rintro e w2 ⟨rfl, h2⟩) | (at_make; refine wpList_make_own _ rfl _ _ 61 rfl w2.heap.size 9 i0 (.string ⟨#[]⟩) 1 Tryz.underlying61 hi hz0 hz1 _ _ _ S.length rfl rfl rfl (by rw [hz2]; omega) (by unfold maxLen; omega) (Nat.le_refl _) ?_))
  intro w3 hown3 hgrow3
  have Hw3 : Hid (Below w2.heap.size w2 w3) := (Below.refl _ _).grown hgrow3 (Nat.le_refl _) (fun k hk => by cases hk)
  have Hown3 := Lib.hid hown3
  clear hown3 hgrow3
  obtain ⟨W4, hW4, Hb4, hs4, Hx4⟩ := box_new w3 61 (.slice (some ⟨w2.heap.size, 0, none⟩) 0 S.length)
  have HX4 := Lib.hid (boxed_below (boxed_below (boxed_below Hx0.out h2.out hs0.out) Hw3.out (Nat.lt_of_lt_of_le hs0.out h2.out.size)) Hb4.out (Nat.lt_of_lt_of_le hs0.out (Nat.le_trans h2.out.size Hw3.out.size)))
  have x4 := HX4.out.cell
  have He := Lib.hid (each_any (.slice a S.length c) W4)
  obtain ⟨W5, hW5, Hb5, hs5, Hx5⟩ := box_new W4 29 (.slice a S.length c)
  rw [hW5] at He
  clear x0
  go_wp2_with (first | (go_at_call 15; refine He.out.mono ?_; rintro e w5 ⟨rfl, rfl⟩))
  have hB5 : Hid (Below w.heap.size w W5) := ((((Hb0.out.trans (h2.out.mono Hb0.out.size)).trans (Hw3.out.mono (Nat.le_trans Hb0.out.size h2.out.size))).trans (Hb4.out.mono (Nat.le_trans Hb0.out.size (Nat.le_trans h2.out.size Hw3.out.size)))).trans (Hb5.out.mono (Nat.le_trans Hb0.out.size (Nat.le_trans h2.out.size (Nat.le_trans Hw3.out.size Hb4.out.size)))))
  have hseq := seach_seq (10 - 1) (by decide) W4.heap.size w.heap.size a c S (by omega) W5 Hx5.out hs5.out hB5.out.size (fun W' hb => by
    have hb2 := hB5.out.trans hb
    exact H.out.below hb2)
  have hI0 : Hid (KeyInv T er w w2.heap.size w3.heap.size W4.heap.size W5.heap.size S (.slice a S.length c) [] W5) :=
    ⟨⟨_, _, ownsRow_below (ownsRow_below Hown3.out Hb4.out) Hb5.out, boxed_below Hx4.out Hb5.out hs4.out⟩, hB5.out, Hx5.out, Nat.le_refl _⟩
  have hst : Hid (∀ x, Tells (stA S x)) := fun x => by
    unfold stA
    by_cases hx : x < S.length
    · rw [List.getElem?_eq_getElem hx]; exact Hs.out _ (List.getElem_mem hx)
    · rw [List.getElem?_eq_none (by omega)]; exact ⟨⟨by decide, by decide⟩, by simp⟩
  refine (wpIn_wide (n := 10)).1 ?_
  apply rangeFunc_d (F := Fence.wide) (n := 10) rfl (by decide) (gf := 43) (lb := #[.pointer (some ⟨W4.heap.size, 0, none⟩)]) rfl trivial (enters_of Tryz.func43 (by kernel_rfl) rfl)
    hseq (fun _ _ h => keeps_below h) (fun h k => h.trans k) (fun W o hl => ⟨(Below.refl _ _).grown (grownBy_putObj' W _ _) (by have := hB5.out.size; omega) (fun k e => by cases e; have := hB5.out.size; omega), World.putObj_heap_other (by have := hs5.out; omega)⟩) (Below.refl _ _) (fun _ => rfl)
    (fun pre W => KeyInv T er w w2.heap.size w3.heap.size W4.heap.size W5.heap.size S (.slice a S.length c) pre W) (fun _ _ _ => False)
    (fun s W W' row h hg hr => h.cells ((Below.refl _ _).grown hg (Nat.le_trans hB5.out.size h.size) (fun k e => Nat.le_trans hB5.out.size (hr k e).1)) (fun k cs t fr hk => (hg.block k (Array.getElem?_eq_some_iff.1 hk).1 (fun e => by obtain ⟨_, o, ho, hc⟩ := hr k e.symm; rw [hk] at ho; cases ho; cases hc)).trans hk))
    (fun _ _ _ h ht => h.next ht) (fun _ _ _ _ _ h => h.elim) hI0.out
    (fun x a' W => ∃ sb, a' = { tmps := #[.agg #[.slice a S.length c], .pointer (some ⟨w.heap.size, 0, none⟩), .string ⟨#[]⟩, .pointer (some ⟨w3.heap.size, 0, none⟩), undef, .pointer (some ⟨sb, 0, none⟩), .agg #[.slice a S.length c], .int .i64 S.length, .slice (some ⟨w2.heap.size, 0, none⟩) 0 S.length, .agg #[.slice a S.length c], .func (.func 43) #[] #[.pointer (some ⟨W4.heap.size, 0, none⟩)], .int .i64 (x : Int), stV (stA S x), undef, undef, undef, undef, undef, undef, undef], defers := [] } ∧ W.heap[sb]? = some (.cells #[.int .i64 (stA S x).1, .int .i64 (stA S x).2.1, tv (stA S x).2.2] 34))
    (fun x a' _ W W' row h hg hr => by
      obtain ⟨sb, h1, hk⟩ := h
      exact ⟨sb, h1, (hg.block sb (Array.getElem?_eq_some_iff.1 hk).1 (fun e => by obtain ⟨_, o, ho, hc⟩ := hr sb e.symm; rw [hk] at ho; cases ho; cases hc)).trans hk⟩)
    (fun s A B h ht => .of_below ht (Nat.le_trans hB5.out.size h.size) (Nat.lt_of_lt_of_le hs5.out h.size))
  case hassign =>
    intro l x W K hK
    gi_wp2
    exact hK _ _ ((Below.refl _ _).alloc (Nat.le_refl _) _) ⟨_, rfl, World.alloc_heap_new W _⟩
  case hbody =>
    rintro l pre x a' W hI ⟨sb, rfl, hsb⟩ hlt
    obtain ⟨a', c', hr, hx⟩ := hI.ex
    have Hr := Lib.hid hr
    have Hx := Lib.hid hx
    have HI := Lib.hid hI
    have ck : W.drew.cell? ⟨w3.heap.size, 0, none⟩ = _ := hx.cell
    have Hsb := Lib.hid hsb
    have HKey := Lib.hid (fun W' (hg : Glob T er W') => key_any (T := T) (er := er) (stA S x).1 (stA S x).2.1 (hst.out x).1 (stA S x).2.2 (by have := (hst.out x).2; omega) W' hg)
    obtain ⟨z0, z1, z2⟩ := row_three hsb
    have y0 : W.drew.cell? ⟨sb, 0, none⟩ = _ := z0
    have y1 : W.drew.cell? ⟨sb, 1, none⟩ = _ := z1
    have y2 : W.drew.cell? ⟨sb, 2, none⟩ = _ := z2
    have HGd : Hid (Glob T er W.drew) := (HG.out.below' hI.below).drew
    have Hn : Hid (pre.length < 1000) := by show _ < _; omega
    have hkS : kS (stA S x) = keyT (stA S x).1 (stA S x).2.1 (stA S x).2.2 := rfl
    have HkS := Lib.hid hkS
    clear hr hx hI hsb z0 z1 z2 hkS
    generalize keyT (stA S x).1 (stA S x).2.1 (stA S x).2.2 = kk at *
    generalize stA S x = sx at y0 y1 y2 HKey Hsb ⊢
    obtain ⟨sk, sn, sl⟩ := sx
    try dsimp only at y0 y1 y2 HKey
    have hO : Hid (w.heap.size ≤ w2.heap.size ∧ w2.heap.size < w3.heap.size ∧ w3.heap.size < W4.heap.size ∧ W4.heap.size < W5.heap.size) := ⟨Nat.le_trans Hb0.out.size h2.out.size, by have h := Hown3.out; rcases h.2 with ⟨e, _⟩ | ⟨g, cap, cur, e, _, hg, _⟩; (· cases e); (· cases e; exact (Array.getElem?_eq_some_iff.1 hg).1), hs4.out, hs5.out⟩
    have hB28 : Hid (∀ V : World, W5.heap.size ≤ V.heap.size → w2.heap.size ≤ V.heap.size) := fun V hV => by have := hO.out; omega
    gi_wp2
    refine wpIn_region_any (by kernel_rfl) ?_
    change wpAnyIn _ _ _ _ _ _ _ _ _ (World.drew _)
    refine wpAnyIn_ready (rs := [0, 1]) (by kernel_rfl) (by simp) (AllReadyIn.cons rfl (fun K hK => ?_) (AllReadyIn.cons rfl (fun K hK => ?_) (AllReadyIn.nil)))
    · go_simp
      refine hK _ _ ?_
      clear hK K
      refine wpAnyIn_ready (rs := [1]) (by kernel_rfl) (by simp) (AllReadyIn.cons rfl (fun K hK => ?_) (AllReadyIn.nil))
      go_simp
      refine hK _ _ ?_
      clear hK K
      refine wpAnyIn_ready (rs := [2]) (by kernel_rfl) (by simp) (AllReadyIn.cons rfl (fun K hK => ?_) (AllReadyIn.nil))
      go_simp
      refine ⟨trivial, ?_⟩
      gi_at_call 12
      refine (CallsIn.inRound l (callsIn_wide.2 (HKey.out _ HGd.out))).mono ?_
      rintro e w7 ⟨rfl, h7⟩
      have H7 : Hid (Below W.heap.size W w7) := (Below.refl W.heap.size W).drew.trans h7.out
      have Hx7 := Lib.hid (boxed_below Hx.out H7.out (Array.getElem?_eq_some_iff.1 Hx.out).1)
      have Hr7 := Lib.hid (ownsRow_below Hr.out H7.out)
      have Hx8 : Hid (Boxed (w7.alloc (.cells #[tv kk] 9)) w3.heap.size 61 _) := Hx7.out.alloc _
      have Hr8 := Lib.hid (Hr7.out.alloc (.cells #[tv kk] 9))
      have c7 := Hx7.out.cell
      have c8 := Hx8.out.cell
      refine hK _ _ ?_
      clear hK K
      refine wpAnyIn_ready (rs := [3]) (by kernel_rfl) (by simp) (AllReadyIn.cons rfl (fun K hK => ?_) (AllReadyIn.nil))
      go_simp
      refine hK _ _ ?_
      clear hK K
      refine wpAnyIn_ready (rs := [4]) (by kernel_rfl) (by simp) (AllReadyIn.cons rfl (fun K hK => ?_) (AllReadyIn.nil))
      refine stepIn_append_own rfl _ _ 61 rfl w2.heap.size 9 i0 (.string ⟨#[]⟩) 1 16 Tryz.underlying61 hi hz0 hz1 hz2 rfl (by decide) (.slice a' pre.length c') pre.length _ rfl Hr8.out ⟨w7.heap.size, 0, none⟩ 1 1 [tv kk] rfl rfl (cell_one_new _ _ _) (by intro u hu; simp at hu; subst hu; rfl) (by unfold maxLen; have := Hn.out; omega) (by have := Hn.out; omega) (Nat.le_trans (hB28.out W HI.out.size) (Nat.le_trans H7.out.size (by simp))) ?_
      intro v' w9 hown9 hgrow9
      obtain ⟨a9, d9, rfl, -, -⟩ := row_sl hown9
      have Hx9 := Lib.hid (boxed_apart Hr8.out Hx8.out (by decide) hgrow9)
      have Hown9 := Lib.hid hown9
      have Hgrow9 := Lib.hid hgrow9
      clear hown9 hgrow9
      have c9 := Hx9.out.cell
      have f9 := Hx9.out.frozen
      refine hK _ _ ?_
      clear hK K
      refine wpAnyIn_ready (rs := [5]) (by kernel_rfl) (by simp) (AllReadyIn.cons rfl (fun K hK => ?_) (AllReadyIn.nil))
      go_simp
      refine hK _ _ ?_
      clear hK K
      refine wpAnyIn_done (by kernel_rfl) ?_ _
      gi_wp2
      exact key_fin (x := x) HI.out hO.out.1 hO.out.2.1 hO.out.2.2.1 hO.out.2.2.2 (H7.out.alloc H7.out.size _) Hr8.out Hx8.out Hown9.out Hgrow9.out HkS.out
    · go_simp
      refine hK _ _ ?_
      clear hK K
      refine wpAnyIn_ready (rs := [0, 2]) (by kernel_rfl) (by simp) (AllReadyIn.cons rfl (fun K hK => ?_) (AllReadyIn.cons rfl (fun K hK => ?_) (AllReadyIn.nil)))
      · go_simp
        refine hK _ _ ?_
        clear hK K
        refine wpAnyIn_ready (rs := [2]) (by kernel_rfl) (by simp) (AllReadyIn.cons rfl (fun K hK => ?_) (AllReadyIn.nil))
        go_simp
        refine ⟨trivial, ?_⟩
        gi_at_call 12
        refine (CallsIn.inRound l (callsIn_wide.2 (HKey.out _ HGd.out))).mono ?_
        rintro e w7 ⟨rfl, h7⟩
        have H7 : Hid (Below W.heap.size W w7) := (Below.refl W.heap.size W).drew.trans h7.out
        have Hx7 := Lib.hid (boxed_below Hx.out H7.out (Array.getElem?_eq_some_iff.1 Hx.out).1)
        have Hr7 := Lib.hid (ownsRow_below Hr.out H7.out)
        have Hx8 : Hid (Boxed (w7.alloc (.cells #[tv kk] 9)) w3.heap.size 61 _) := Hx7.out.alloc _
        have Hr8 := Lib.hid (Hr7.out.alloc (.cells #[tv kk] 9))
        have c7 := Hx7.out.cell
        have c8 := Hx8.out.cell
        refine hK _ _ ?_
        clear hK K
        refine wpAnyIn_ready (rs := [3]) (by kernel_rfl) (by simp) (AllReadyIn.cons rfl (fun K hK => ?_) (AllReadyIn.nil))
        go_simp
        refine hK _ _ ?_
        clear hK K
        refine wpAnyIn_ready (rs := [4]) (by kernel_rfl) (by simp) (AllReadyIn.cons rfl (fun K hK => ?_) (AllReadyIn.nil))
        refine stepIn_append_own rfl _ _ 61 rfl w2.heap.size 9 i0 (.string ⟨#[]⟩) 1 16 Tryz.underlying61 hi hz0 hz1 hz2 rfl (by decide) (.slice a' pre.length c') pre.length _ rfl Hr8.out ⟨w7.heap.size, 0, none⟩ 1 1 [tv kk] rfl rfl (cell_one_new _ _ _) (by intro u hu; simp at hu; subst hu; rfl) (by unfold maxLen; have := Hn.out; omega) (by have := Hn.out; omega) (Nat.le_trans (hB28.out W HI.out.size) (Nat.le_trans H7.out.size (by simp))) ?_
        intro v' w9 hown9 hgrow9
        obtain ⟨a9, d9, rfl, -, -⟩ := row_sl hown9
        have Hx9 := Lib.hid (boxed_apart Hr8.out Hx8.out (by decide) hgrow9)
        have Hown9 := Lib.hid hown9
        have Hgrow9 := Lib.hid hgrow9
        clear hown9 hgrow9
        have c9 := Hx9.out.cell
        have f9 := Hx9.out.frozen
        refine hK _ _ ?_
        clear hK K
        refine wpAnyIn_ready (rs := [5]) (by kernel_rfl) (by simp) (AllReadyIn.cons rfl (fun K hK => ?_) (AllReadyIn.nil))
        go_simp
        refine hK _ _ ?_
        clear hK K
        refine wpAnyIn_done (by kernel_rfl) ?_ _
        gi_wp2
        exact key_fin (x := x) HI.out hO.out.1 hO.out.2.1 hO.out.2.2.1 hO.out.2.2.2 (H7.out.alloc H7.out.size _) Hr8.out Hx8.out Hown9.out Hgrow9.out HkS.out
      · go_simp
        refine ⟨trivial, ?_⟩
        gi_at_call 12
        refine (CallsIn.inRound l (callsIn_wide.2 (HKey.out _ HGd.out))).mono ?_
        rintro e w7 ⟨rfl, h7⟩
        have H7 : Hid (Below W.heap.size W w7) := (Below.refl W.heap.size W).drew.trans h7.out
        have Hx7 := Lib.hid (boxed_below Hx.out H7.out (Array.getElem?_eq_some_iff.1 Hx.out).1)
        have Hr7 := Lib.hid (ownsRow_below Hr.out H7.out)
        have Hx8 : Hid (Boxed (w7.alloc (.cells #[tv kk] 9)) w3.heap.size 61 _) := Hx7.out.alloc _
        have Hr8 := Lib.hid (Hr7.out.alloc (.cells #[tv kk] 9))
        have c7 := Hx7.out.cell
        have c8 := Hx8.out.cell
        refine hK _ _ ?_
        clear hK K
        refine wpAnyIn_ready (rs := [0, 3]) (by kernel_rfl) (by simp) (AllReadyIn.cons rfl (fun K hK => ?_) (AllReadyIn.cons rfl (fun K hK => ?_) (AllReadyIn.nil)))
        · go_simp
          refine hK _ _ ?_
          clear hK K
          refine wpAnyIn_ready (rs := [3]) (by kernel_rfl) (by simp) (AllReadyIn.cons rfl (fun K hK => ?_) (AllReadyIn.nil))
          go_simp
          refine hK _ _ ?_
          clear hK K
          refine wpAnyIn_ready (rs := [4]) (by kernel_rfl) (by simp) (AllReadyIn.cons rfl (fun K hK => ?_) (AllReadyIn.nil))
          refine stepIn_append_own rfl _ _ 61 rfl w2.heap.size 9 i0 (.string ⟨#[]⟩) 1 16 Tryz.underlying61 hi hz0 hz1 hz2 rfl (by decide) (.slice a' pre.length c') pre.length _ rfl Hr8.out ⟨w7.heap.size, 0, none⟩ 1 1 [tv kk] rfl rfl (cell_one_new _ _ _) (by intro u hu; simp at hu; subst hu; rfl) (by unfold maxLen; have := Hn.out; omega) (by have := Hn.out; omega) (Nat.le_trans (hB28.out W HI.out.size) (Nat.le_trans H7.out.size (by simp))) ?_
          intro v' w9 hown9 hgrow9
          obtain ⟨a9, d9, rfl, -, -⟩ := row_sl hown9
          have Hx9 := Lib.hid (boxed_apart Hr8.out Hx8.out (by decide) hgrow9)
          have Hown9 := Lib.hid hown9
          have Hgrow9 := Lib.hid hgrow9
          clear hown9 hgrow9
          have c9 := Hx9.out.cell
          have f9 := Hx9.out.frozen
          refine hK _ _ ?_
          clear hK K
          refine wpAnyIn_ready (rs := [5]) (by kernel_rfl) (by simp) (AllReadyIn.cons rfl (fun K hK => ?_) (AllReadyIn.nil))
          go_simp
          refine hK _ _ ?_
          clear hK K
          refine wpAnyIn_done (by kernel_rfl) ?_ _
          gi_wp2
          exact key_fin (x := x) HI.out hO.out.1 hO.out.2.1 hO.out.2.2.1 hO.out.2.2.2 (H7.out.alloc H7.out.size _) Hr8.out Hx8.out Hown9.out Hgrow9.out HkS.out
        · go_simp
          refine hK _ _ ?_
          clear hK K
          refine wpAnyIn_ready (rs := [0]) (by kernel_rfl) (by simp) (AllReadyIn.cons rfl (fun K hK => ?_) (AllReadyIn.nil))
          go_simp
          refine hK _ _ ?_
          clear hK K
          refine wpAnyIn_ready (rs := [4]) (by kernel_rfl) (by simp) (AllReadyIn.cons rfl (fun K hK => ?_) (AllReadyIn.nil))
          refine stepIn_append_own rfl _ _ 61 rfl w2.heap.size 9 i0 (.string ⟨#[]⟩) 1 16 Tryz.underlying61 hi hz0 hz1 hz2 rfl (by decide) (.slice a' pre.length c') pre.length _ rfl Hr8.out ⟨w7.heap.size, 0, none⟩ 1 1 [tv kk] rfl rfl (cell_one_new _ _ _) (by intro u hu; simp at hu; subst hu; rfl) (by unfold maxLen; have := Hn.out; omega) (by have := Hn.out; omega) (Nat.le_trans (hB28.out W HI.out.size) (Nat.le_trans H7.out.size (by simp))) ?_
          intro v' w9 hown9 hgrow9
          obtain ⟨a9, d9, rfl, -, -⟩ := row_sl hown9
          have Hx9 := Lib.hid (boxed_apart Hr8.out Hx8.out (by decide) hgrow9)
          have Hown9 := Lib.hid hown9
          have Hgrow9 := Lib.hid hgrow9
          clear hown9 hgrow9
          have c9 := Hx9.out.cell
          have f9 := Hx9.out.frozen
          refine hK _ _ ?_
          clear hK K
          refine wpAnyIn_ready (rs := [5]) (by kernel_rfl) (by simp) (AllReadyIn.cons rfl (fun K hK => ?_) (AllReadyIn.nil))
          go_simp
          refine hK _ _ ?_
          clear hK K
          refine wpAnyIn_done (by kernel_rfl) ?_ _
          gi_wp2
          exact key_fin (x := x) HI.out hO.out.1 hO.out.2.1 hO.out.2.2.1 hO.out.2.2.2 (H7.out.alloc H7.out.size _) Hr8.out Hx8.out Hown9.out Hgrow9.out HkS.out
  case hdone =>
    rintro D ys W hD rfl hI hK
    obtain ⟨a', c', hr, hx⟩ := hI.ex
    rw [List.length_range] at hr hx
    have ck := hx.cell
    have HI := Lib.hid hI
    have HK := Lib.hid hK
    have HD := Lib.hid hD
    have hxs : ((List.range S.length).map fun k => tv (kS (stA S k))) = (S.map kS).map tv := by
      rw [List.map_map]
      refine List.ext_getElem (by simp) (fun i h1 h2 => ?_)
      have hi : i < S.length := by simpa using h1
      simp [stA, List.getElem?_eq_getElem hi]
    rw [hxs] at hr
    have hj : Hid (Calls Tryz.prog 52 #[.slice a' S.length c', .string ⟨#[59, 32]⟩] W fun e w' => e = .returned (tv (keyS S)) ∧ Below W.heap.size W w') := by
      obtain ⟨a2, c2, e2, hsl, hcap⟩ := row_sl hr
      cases e2
      rcases hsl with ⟨rfl, h0⟩ | ⟨b, off, rfl, hbl, hc⟩
      · have h1 : S = [] := by simpa using h0
        subst h1
        exact (Tryz.strings_Join_none none c' ⟨#[59, 32]⟩ W).mono fun e w' h => ⟨h.1, by rw [h.2]; exact Below.refl _ _⟩
      · by_cases h0 : S = []
        · subst h0
          exact (Tryz.strings_Join_none _ c' ⟨#[59, 32]⟩ W).mono fun e w' h => ⟨h.1, by rw [h.2]; exact Below.refl _ _⟩
        · have hlen := keyS_len hn Hs.out
          have hmm : ((S.map kS).map fun l => (⟨l.toArray⟩ : ByteArray)).map (fun x => x.data.toList) = S.map kS := by
            rw [List.map_map]; simp [Function.comp_def]
          have hl0 : ((S.map kS).map fun l => (⟨l.toArray⟩ : ByteArray)).length = S.length := by simp
          have hJ := Tryz.strings_Join b off c' ((S.map kS).map fun l => ⟨l.toArray⟩) ⟨#[59, 32]⟩ W (fun j y hy => by
            refine hc j _ ?_
            rw [List.getElem?_map] at hy ⊢
            cases hq : (S.map kS)[j]? with
            | none => rw [hq] at hy; cases hy
            | some l => rw [hq] at hy; cases hy; rfl) (hbl (by simpa using h0)) (by rw [hl0]; omega) (by rw [hl0]; exact hcap) (by rw [hmm]; show (keyS S).length ≤ _; omega)
          rw [hl0, hmm] at hJ
          exact hJ
    clear hr hx hI hK hD hxs
    go_wp2_with (first | (go_at_call 52; refine hj.out.mono ?_; rintro e w7 ⟨rfl, h7⟩; have H7 := Lib.hid h7; clear h7))
    have hk7 : w7.heap[D]? = some (.deferred (some [])) := (H7.out.block D (Array.getElem?_eq_some_iff.1 HK.out).1).trans HK.out
    have hb7 : Below w.heap.size w w7 := HI.out.below.trans (H7.out.mono HI.out.below.size)
    exact leave33 D _ rfl rfl hk7 ⟨rfl, hb7.trans ((Below.refl _ _).grown (grownBy_putObj' w7 D _) hb7.size (fun k e => by cases e; exact Nat.le_trans hB5.out.size HD.out))⟩
  case hstop =>
    rintro D c' pre W hD _ hf
    exact hf.elim
end Go.Proofs.YtcjfcomadcebnaaGreatDoor

/- The document's judgement of an operation on a state, by a contract. -/
namespace Go.Proofs.YtcjfcomadcebnaaGreatDoor
open Go.RowKit Go.Maps Go.WideMaps Go.WideElems Go.ChangeShapes Go.WideShapes

/-- The fault of an operation: 0 none. -/
def rargs (k n op key val : Int) : Int := if ofZ op ≠ k then 111 else if fitsB op key val = false then 110 else if op = 3 ∧ ¬ near (n + val) 1000000000000000 then 110 else 0
theorem four_new (w : World) (a b c d : Value) (t : TypeId) : ∃ W, w.alloc (.cells #[a, b, c, d] t) = W ∧ Hid (Below w.heap.size w W) ∧ Hid (w.heap.size < W.heap.size) ∧ W.cell? ⟨w.heap.size, 0, none⟩ = some a ∧ W.cell? ⟨w.heap.size, 1, none⟩ = some b ∧ W.cell? ⟨w.heap.size, 2, none⟩ = some c ∧ W.cell? ⟨w.heap.size, 3, none⟩ = some d := by
  refine ⟨_, rfl, (Below.refl _ _).alloc (Nat.le_refl _) _, by show _ < _; simp, ?_, ?_, ?_, ?_⟩
  all_goals
    rw [cell_of_row _ w.heap.size _ #[a, b, c, d] t _ (World.alloc_heap_new w _)]
    rfl

set_option maxHeartbeats 8000000 in
set_option maxRecDepth 100000 in
theorem rargs_any (k n : Int) (hk : k ≠ 0) (hn : near n 1000000000000000) (ks vs : Value) (op key val : Int) (w : World) :
    Calls Tryz.prog 78 #[.agg #[.int .i64 k, .int .i64 n, ks, vs], .int .i64 op, .int .i64 key, .int .i64 val] w fun e w' => e = .returned (.int .i64 (rargs k n op key val)) ∧ Hid (Below w.heap.size w w') := by
  obtain ⟨W, hW, hb, hs, c0, c1, -, -⟩ := four_new w (.int .i64 k) (.int .i64 n) ks vs 39
  obtain ⟨B, hB⟩ : ∃ B, w.heap.size = B := ⟨_, rfl⟩
  rw [hB] at c0 c1
  have Hs : Hid (B < W.heap.size) := by rw [← hB]; exact hs.out
  have Hb : Hid (Below w.heap.size w W) := hb.out
  have hk0 : (k == 0) = false := by simpa using hk
  have HOf : Hid (∀ W, Calls Tryz.prog 100 #[.int .i64 op] W fun e w' => e = .returned (.int .i64 (ofZ op)) ∧ Hid (Below W.heap.size W w')) := fun W => refOf_any op W
  have HKe : Hid (∀ W, Calls Tryz.prog 101 #[.int .i64 op] W fun e w' => e = .returned (.bool (keyedZ op)) ∧ W = w') := fun W => refKeyed_any op W
  have HVa : Hid (∀ W, Calls Tryz.prog 102 #[.int .i64 op] W fun e w' => e = .returned (.bool (valuedZ op)) ∧ W = w') := fun W => refValued_any op W
  obtain ⟨R, hR⟩ : ∃ R, rargs k n op key val = R := ⟨_, rfl⟩
  rw [hR]
  unfold rargs at hR
  have q1 : W.drew.cell? ⟨B, 1, none⟩ = some (.int .i64 n) := c1
  have q0 : W.drew.cell? ⟨B, 0, none⟩ = some (.int .i64 k) := c0
  by_cases h1 : ofZ op = k
  · rw [if_neg (by simpa using h1)] at hR
    have hne : (k != k) = false := by simp
    rw [h1] at HOf
    have Hop : Hid (ofZ op = k) := h1
    clear h1
    by_cases h2 : fitsB op key val = true
    · rw [if_neg (by rw [h2]; simp)] at hR
      simp only [fitsB, Bool.and_eq_true, Bool.or_eq_true, decide_eq_true_eq, beq_iff_eq] at h2
      obtain ⟨⟨⟨⟨f1, f2⟩, f34⟩, f5⟩, f6⟩ := h2
      obtain ⟨f3, f4⟩ := f34
      have d1 : decide (key < 0) = false := by simp; omega
      have d2 : decide (1000 < key) = false := by simp; omega
      have d3 : decide (val < -1000000000) = false := by simp; omega
      have d4 : decide (1000000000 < val) = false := by simp; omega
      by_cases h3 : op = 3
      · subst h3
        have e3 : keyedZ 3 = false := by decide
        have e4 : valuedZ 3 = true := by decide
        have e5 : key = 0 := by rcases f5 with f5 | f5; exact f5; rw [e3] at f5; cases f5
        rw [e3] at HKe
        rw [e4] at HVa
        subst e5
        have hw : IntKind.i64.wrap (n + val) = n + val := by rw [IntKind.wrap_i64]; unfold near at hn; omega
        have hw2 : wrap64 (n + val) = n + val := by unfold wrap64; unfold near at hn; omega
        by_cases h4 : near (n + val) 1000000000000000
        · rw [if_neg (by simpa using h4)] at hR
          have g1 : decide (n + val < -1000000000000000) = false := by unfold near at h4; simp; omega
          have g2 : decide (1000000000000000 < n + val) = false := by unfold near at h4; simp; omega
          clear h4 f1 f2 f3 f4 f5 f6 e3 e4
          subst hR
          go_enter Tryz.func78, Tryz.ntmps78
          go_wp2
          go_region_held3 (fun w' => w'.cell? ⟨B, 0, none⟩ = some (.int .i64 k)) (go_keep)
            (first
              | (go_at_call 100; refine (HOf.out _).mono ?_; rintro e w2 ⟨rfl, h2⟩
                 have q2 : w2.cell? ⟨B, 0, none⟩ = some (.int .i64 k) := (h2.out.cell (p := ⟨B, 0, none⟩) Hs.out).trans q0
                 have q3 : w2.cell? ⟨B, 1, none⟩ = some (.int .i64 n) := (h2.out.cell (p := ⟨B, 1, none⟩) Hs.out).trans q1))
          go_wp2_with (first
            | (go_at_call 101; refine (HKe.out _).mono ?_; rintro e w3 ⟨rfl, rfl⟩)
            | (go_at_call 102; refine (HVa.out _).mono ?_; rintro e w3 ⟨rfl, rfl⟩)
            | go_in)
          go_ret
          exact ⟨by first | rfl | simp, Hb.out.drew.trans (h2.out.mono (by rw [hB]; exact Nat.le_of_lt Hs.out))⟩
        · rw [if_pos ⟨rfl, h4⟩] at hR
          by_cases h5 : n + val < -1000000000000000
          · have g1 : decide (n + val < -1000000000000000) = true := by simpa using h5
            clear h4 h5 f1 f2 f3 f4 f5 f6 e3 e4
            subst hR
            go_enter Tryz.func78, Tryz.ntmps78
            go_wp2
            go_region_held3 (fun w' => w'.cell? ⟨B, 0, none⟩ = some (.int .i64 k)) (go_keep)
              (first
                | (go_at_call 100; refine (HOf.out _).mono ?_; rintro e w2 ⟨rfl, h2⟩
                   have q2 : w2.cell? ⟨B, 0, none⟩ = some (.int .i64 k) := (h2.out.cell (p := ⟨B, 0, none⟩) Hs.out).trans q0
                   have q3 : w2.cell? ⟨B, 1, none⟩ = some (.int .i64 n) := (h2.out.cell (p := ⟨B, 1, none⟩) Hs.out).trans q1))
            go_wp2_with (first
              | (go_at_call 101; refine (HKe.out _).mono ?_; rintro e w3 ⟨rfl, rfl⟩)
              | (go_at_call 102; refine (HVa.out _).mono ?_; rintro e w3 ⟨rfl, rfl⟩)
              | go_in)
            go_ret
            exact ⟨by first | rfl | simp, Hb.out.drew.trans (h2.out.mono (by rw [hB]; exact Nat.le_of_lt Hs.out))⟩
          · have g1 : decide (n + val < -1000000000000000) = false := by simpa using h5
            have g2 : decide (1000000000000000 < n + val) = true := by unfold near at h4; simp; omega
            clear h4 h5 f1 f2 f3 f4 f5 f6 e3 e4
            subst hR
            go_enter Tryz.func78, Tryz.ntmps78
            go_wp2
            go_region_held3 (fun w' => w'.cell? ⟨B, 0, none⟩ = some (.int .i64 k)) (go_keep)
              (first
                | (go_at_call 100; refine (HOf.out _).mono ?_; rintro e w2 ⟨rfl, h2⟩
                   have q2 : w2.cell? ⟨B, 0, none⟩ = some (.int .i64 k) := (h2.out.cell (p := ⟨B, 0, none⟩) Hs.out).trans q0
                   have q3 : w2.cell? ⟨B, 1, none⟩ = some (.int .i64 n) := (h2.out.cell (p := ⟨B, 1, none⟩) Hs.out).trans q1))
            go_wp2_with (first
              | (go_at_call 101; refine (HKe.out _).mono ?_; rintro e w3 ⟨rfl, rfl⟩)
              | (go_at_call 102; refine (HVa.out _).mono ?_; rintro e w3 ⟨rfl, rfl⟩)
              | go_in)
            go_ret
            exact ⟨by first | rfl | simp, Hb.out.drew.trans (h2.out.mono (by rw [hB]; exact Nat.le_of_lt Hs.out))⟩
      · rw [if_neg (fun e => h3 e.1)] at hR
        have e3 : (op == 3) = false := by simpa using h3
        clear h3
        subst hR
        cases hK : keyedZ op
        · have e5 : key = 0 := by rcases f5 with f5 | f5; exact f5; rw [hK] at f5; cases f5
          rw [hK] at HKe
          subst e5
          cases hV : valuedZ op
          · have e6 : val = 0 := by rcases f6 with f6 | f6; exact f6; rw [hV] at f6; cases f6
            rw [hV] at HVa
            subst e6
            clear f1 f2 f3 f4 f5 f6 hK hV
            go_enter Tryz.func78, Tryz.ntmps78
            go_wp2
            go_region_held3 (fun w' => w'.cell? ⟨B, 0, none⟩ = some (.int .i64 k)) (go_keep)
              (first
                | (go_at_call 100; refine (HOf.out _).mono ?_; rintro e w2 ⟨rfl, h2⟩
                   have q2 : w2.cell? ⟨B, 0, none⟩ = some (.int .i64 k) := (h2.out.cell (p := ⟨B, 0, none⟩) Hs.out).trans q0
                   have q3 : w2.cell? ⟨B, 1, none⟩ = some (.int .i64 n) := (h2.out.cell (p := ⟨B, 1, none⟩) Hs.out).trans q1))
            go_wp2_with (first
              | (go_at_call 101; refine (HKe.out _).mono ?_; rintro e w3 ⟨rfl, rfl⟩)
              | (go_at_call 102; refine (HVa.out _).mono ?_; rintro e w3 ⟨rfl, rfl⟩)
              | go_in)
            go_ret
            exact ⟨by first | rfl | simp, Hb.out.drew.trans (h2.out.mono (by rw [hB]; exact Nat.le_of_lt Hs.out))⟩
          · rw [hV] at HVa
            clear f1 f2 f3 f4 f5 f6 hK hV
            go_enter Tryz.func78, Tryz.ntmps78
            go_wp2
            go_region_held3 (fun w' => w'.cell? ⟨B, 0, none⟩ = some (.int .i64 k)) (go_keep)
              (first
                | (go_at_call 100; refine (HOf.out _).mono ?_; rintro e w2 ⟨rfl, h2⟩
                   have q2 : w2.cell? ⟨B, 0, none⟩ = some (.int .i64 k) := (h2.out.cell (p := ⟨B, 0, none⟩) Hs.out).trans q0
                   have q3 : w2.cell? ⟨B, 1, none⟩ = some (.int .i64 n) := (h2.out.cell (p := ⟨B, 1, none⟩) Hs.out).trans q1))
            go_wp2_with (first
              | (go_at_call 101; refine (HKe.out _).mono ?_; rintro e w3 ⟨rfl, rfl⟩)
              | (go_at_call 102; refine (HVa.out _).mono ?_; rintro e w3 ⟨rfl, rfl⟩)
              | go_in)
            go_ret
            exact ⟨by first | rfl | simp, Hb.out.drew.trans (h2.out.mono (by rw [hB]; exact Nat.le_of_lt Hs.out))⟩
        · rw [hK] at HKe
          cases hV : valuedZ op
          · have e6 : val = 0 := by rcases f6 with f6 | f6; exact f6; rw [hV] at f6; cases f6
            rw [hV] at HVa
            subst e6
            clear f1 f2 f3 f4 f5 f6 hK hV
            go_enter Tryz.func78, Tryz.ntmps78
            go_wp2
            go_region_held3 (fun w' => w'.cell? ⟨B, 0, none⟩ = some (.int .i64 k)) (go_keep)
              (first
                | (go_at_call 100; refine (HOf.out _).mono ?_; rintro e w2 ⟨rfl, h2⟩
                   have q2 : w2.cell? ⟨B, 0, none⟩ = some (.int .i64 k) := (h2.out.cell (p := ⟨B, 0, none⟩) Hs.out).trans q0
                   have q3 : w2.cell? ⟨B, 1, none⟩ = some (.int .i64 n) := (h2.out.cell (p := ⟨B, 1, none⟩) Hs.out).trans q1))
            go_wp2_with (first
              | (go_at_call 101; refine (HKe.out _).mono ?_; rintro e w3 ⟨rfl, rfl⟩)
              | (go_at_call 102; refine (HVa.out _).mono ?_; rintro e w3 ⟨rfl, rfl⟩)
              | go_in)
            go_ret
            exact ⟨by first | rfl | simp, Hb.out.drew.trans (h2.out.mono (by rw [hB]; exact Nat.le_of_lt Hs.out))⟩
          · rw [hV] at HVa
            clear f1 f2 f3 f4 f5 f6 hK hV
            go_enter Tryz.func78, Tryz.ntmps78
            go_wp2
            go_region_held3 (fun w' => w'.cell? ⟨B, 0, none⟩ = some (.int .i64 k)) (go_keep)
              (first
                | (go_at_call 100; refine (HOf.out _).mono ?_; rintro e w2 ⟨rfl, h2⟩
                   have q2 : w2.cell? ⟨B, 0, none⟩ = some (.int .i64 k) := (h2.out.cell (p := ⟨B, 0, none⟩) Hs.out).trans q0
                   have q3 : w2.cell? ⟨B, 1, none⟩ = some (.int .i64 n) := (h2.out.cell (p := ⟨B, 1, none⟩) Hs.out).trans q1))
            go_wp2_with (first
              | (go_at_call 101; refine (HKe.out _).mono ?_; rintro e w3 ⟨rfl, rfl⟩)
              | (go_at_call 102; refine (HVa.out _).mono ?_; rintro e w3 ⟨rfl, rfl⟩)
              | go_in)
            go_ret
            exact ⟨by first | rfl | simp, Hb.out.drew.trans (h2.out.mono (by rw [hB]; exact Nat.le_of_lt Hs.out))⟩
    · have h2' : fitsB op key val = false := by simpa using h2
      rw [if_pos h2'] at hR
      subst hR
      cases hK : keyedZ op
      · rw [hK] at HKe
        by_cases e0 : key = 0
        · subst e0
          cases hV : valuedZ op
          · rw [hV] at HVa
            have e7 : ¬ val = 0 := fun e => by subst e; simp [fitsB, near] at h2
            have e6 : (val == 0) = false := by simpa using e7
            have e8 : (val != 0) = true := by simpa using e7
            clear h2 h2' hK hV
            go_enter Tryz.func78, Tryz.ntmps78
            go_wp2
            go_region_held3 (fun w' => w'.cell? ⟨B, 0, none⟩ = some (.int .i64 k)) (go_keep)
              (first
                | (go_at_call 100; refine (HOf.out _).mono ?_; rintro e w2 ⟨rfl, h2⟩
                   have q2 : w2.cell? ⟨B, 0, none⟩ = some (.int .i64 k) := (h2.out.cell (p := ⟨B, 0, none⟩) Hs.out).trans q0
                   have q3 : w2.cell? ⟨B, 1, none⟩ = some (.int .i64 n) := (h2.out.cell (p := ⟨B, 1, none⟩) Hs.out).trans q1))
            go_wp2_with (first
              | (go_at_call 101; refine (HKe.out _).mono ?_; rintro e w3 ⟨rfl, rfl⟩)
              | (go_at_call 102; refine (HVa.out _).mono ?_; rintro e w3 ⟨rfl, rfl⟩)
              | go_in)
            go_ret
            exact ⟨by first | rfl | simp, Hb.out.drew.trans (h2.out.mono (by rw [hB]; exact Nat.le_of_lt Hs.out))⟩
          · rw [hV] at HVa
            by_cases h5 : val < -1000000000
            · have d3 : decide (val < -1000000000) = true := by simpa using h5
              clear h2 h2' hK hV h5
              go_enter Tryz.func78, Tryz.ntmps78
              go_wp2
              go_region_held3 (fun w' => w'.cell? ⟨B, 0, none⟩ = some (.int .i64 k)) (go_keep)
                (first
                  | (go_at_call 100; refine (HOf.out _).mono ?_; rintro e w2 ⟨rfl, h2⟩
                     have q2 : w2.cell? ⟨B, 0, none⟩ = some (.int .i64 k) := (h2.out.cell (p := ⟨B, 0, none⟩) Hs.out).trans q0
                     have q3 : w2.cell? ⟨B, 1, none⟩ = some (.int .i64 n) := (h2.out.cell (p := ⟨B, 1, none⟩) Hs.out).trans q1))
              go_wp2_with (first
                | (go_at_call 101; refine (HKe.out _).mono ?_; rintro e w3 ⟨rfl, rfl⟩)
                | (go_at_call 102; refine (HVa.out _).mono ?_; rintro e w3 ⟨rfl, rfl⟩)
                | go_in)
              go_ret
              exact ⟨by first | rfl | simp, Hb.out.drew.trans (h2.out.mono (by rw [hB]; exact Nat.le_of_lt Hs.out))⟩
            · have d3 : decide (val < -1000000000) = false := by simpa using h5
              have d4 : decide (1000000000 < val) = true := by
                have : ¬ val ≤ 1000000000 := fun e => h2 (by have hnear : near val 1000000000 := ⟨by omega, e⟩; simp [fitsB, hnear, hV])
                simp; omega
              clear h2 h2' hK hV h5
              go_enter Tryz.func78, Tryz.ntmps78
              go_wp2
              go_region_held3 (fun w' => w'.cell? ⟨B, 0, none⟩ = some (.int .i64 k)) (go_keep)
                (first
                  | (go_at_call 100; refine (HOf.out _).mono ?_; rintro e w2 ⟨rfl, h2⟩
                     have q2 : w2.cell? ⟨B, 0, none⟩ = some (.int .i64 k) := (h2.out.cell (p := ⟨B, 0, none⟩) Hs.out).trans q0
                     have q3 : w2.cell? ⟨B, 1, none⟩ = some (.int .i64 n) := (h2.out.cell (p := ⟨B, 1, none⟩) Hs.out).trans q1))
              go_wp2_with (first
                | (go_at_call 101; refine (HKe.out _).mono ?_; rintro e w3 ⟨rfl, rfl⟩)
                | (go_at_call 102; refine (HVa.out _).mono ?_; rintro e w3 ⟨rfl, rfl⟩)
                | go_in)
              go_ret
              exact ⟨by first | rfl | simp, Hb.out.drew.trans (h2.out.mono (by rw [hB]; exact Nat.le_of_lt Hs.out))⟩
        · have e5 : (key == 0) = false := by simpa using e0
          have e8 : (key != 0) = true := by simpa using e0
          clear h2 h2' hK
          go_enter Tryz.func78, Tryz.ntmps78
          go_wp2
          go_region_held3 (fun w' => w'.cell? ⟨B, 0, none⟩ = some (.int .i64 k)) (go_keep)
            (first
              | (go_at_call 100; refine (HOf.out _).mono ?_; rintro e w2 ⟨rfl, h2⟩
                 have q2 : w2.cell? ⟨B, 0, none⟩ = some (.int .i64 k) := (h2.out.cell (p := ⟨B, 0, none⟩) Hs.out).trans q0
                 have q3 : w2.cell? ⟨B, 1, none⟩ = some (.int .i64 n) := (h2.out.cell (p := ⟨B, 1, none⟩) Hs.out).trans q1))
          go_wp2_with (first
            | (go_at_call 101; refine (HKe.out _).mono ?_; rintro e w3 ⟨rfl, rfl⟩)
            | (go_at_call 102; refine (HVa.out _).mono ?_; rintro e w3 ⟨rfl, rfl⟩)
            | go_in)
          go_ret
          exact ⟨by first | rfl | simp, Hb.out.drew.trans (h2.out.mono (by rw [hB]; exact Nat.le_of_lt Hs.out))⟩
      · rw [hK] at HKe
        by_cases h3 : key < 0
        · have d1 : decide (key < 0) = true := by simpa using h3
          clear h2 h2' hK h3
          go_enter Tryz.func78, Tryz.ntmps78
          go_wp2
          go_region_held3 (fun w' => w'.cell? ⟨B, 0, none⟩ = some (.int .i64 k)) (go_keep)
            (first
              | (go_at_call 100; refine (HOf.out _).mono ?_; rintro e w2 ⟨rfl, h2⟩
                 have q2 : w2.cell? ⟨B, 0, none⟩ = some (.int .i64 k) := (h2.out.cell (p := ⟨B, 0, none⟩) Hs.out).trans q0
                 have q3 : w2.cell? ⟨B, 1, none⟩ = some (.int .i64 n) := (h2.out.cell (p := ⟨B, 1, none⟩) Hs.out).trans q1))
          go_wp2_with (first
            | (go_at_call 101; refine (HKe.out _).mono ?_; rintro e w3 ⟨rfl, rfl⟩)
            | (go_at_call 102; refine (HVa.out _).mono ?_; rintro e w3 ⟨rfl, rfl⟩)
            | go_in)
          go_ret
          exact ⟨by first | rfl | simp, Hb.out.drew.trans (h2.out.mono (by rw [hB]; exact Nat.le_of_lt Hs.out))⟩
        · have d1 : decide (key < 0) = false := by simpa using h3
          by_cases h4 : 1000 < key
          · have d2 : decide (1000 < key) = true := by simpa using h4
            clear h2 h2' hK h3 h4
            go_enter Tryz.func78, Tryz.ntmps78
            go_wp2
            go_region_held3 (fun w' => w'.cell? ⟨B, 0, none⟩ = some (.int .i64 k)) (go_keep)
              (first
                | (go_at_call 100; refine (HOf.out _).mono ?_; rintro e w2 ⟨rfl, h2⟩
                   have q2 : w2.cell? ⟨B, 0, none⟩ = some (.int .i64 k) := (h2.out.cell (p := ⟨B, 0, none⟩) Hs.out).trans q0
                   have q3 : w2.cell? ⟨B, 1, none⟩ = some (.int .i64 n) := (h2.out.cell (p := ⟨B, 1, none⟩) Hs.out).trans q1))
            go_wp2_with (first
              | (go_at_call 101; refine (HKe.out _).mono ?_; rintro e w3 ⟨rfl, rfl⟩)
              | (go_at_call 102; refine (HVa.out _).mono ?_; rintro e w3 ⟨rfl, rfl⟩)
              | go_in)
            go_ret
            exact ⟨by first | rfl | simp, Hb.out.drew.trans (h2.out.mono (by rw [hB]; exact Nat.le_of_lt Hs.out))⟩
          · have d2 : decide (1000 < key) = false := by simpa using h4
            cases hV : valuedZ op
            · rw [hV] at HVa
              have e7 : ¬ val = 0 := fun e => h2 (by subst e; simp [fitsB, near, hK]; omega)
              have e6 : (val == 0) = false := by simpa using e7
              have e8 : (val != 0) = true := by simpa using e7
              clear h2 h2' hK hV h3 h4
              go_enter Tryz.func78, Tryz.ntmps78
              go_wp2
              go_region_held3 (fun w' => w'.cell? ⟨B, 0, none⟩ = some (.int .i64 k)) (go_keep)
                (first
                  | (go_at_call 100; refine (HOf.out _).mono ?_; rintro e w2 ⟨rfl, h2⟩
                     have q2 : w2.cell? ⟨B, 0, none⟩ = some (.int .i64 k) := (h2.out.cell (p := ⟨B, 0, none⟩) Hs.out).trans q0
                     have q3 : w2.cell? ⟨B, 1, none⟩ = some (.int .i64 n) := (h2.out.cell (p := ⟨B, 1, none⟩) Hs.out).trans q1))
              go_wp2_with (first
                | (go_at_call 101; refine (HKe.out _).mono ?_; rintro e w3 ⟨rfl, rfl⟩)
                | (go_at_call 102; refine (HVa.out _).mono ?_; rintro e w3 ⟨rfl, rfl⟩)
                | go_in)
              go_ret
              exact ⟨by first | rfl | simp, Hb.out.drew.trans (h2.out.mono (by rw [hB]; exact Nat.le_of_lt Hs.out))⟩
            · rw [hV] at HVa
              by_cases h5 : val < -1000000000
              · have d3 : decide (val < -1000000000) = true := by simpa using h5
                clear h2 h2' hK hV h3 h4 h5
                go_enter Tryz.func78, Tryz.ntmps78
                go_wp2
                go_region_held3 (fun w' => w'.cell? ⟨B, 0, none⟩ = some (.int .i64 k)) (go_keep)
                  (first
                    | (go_at_call 100; refine (HOf.out _).mono ?_; rintro e w2 ⟨rfl, h2⟩
                       have q2 : w2.cell? ⟨B, 0, none⟩ = some (.int .i64 k) := (h2.out.cell (p := ⟨B, 0, none⟩) Hs.out).trans q0
                       have q3 : w2.cell? ⟨B, 1, none⟩ = some (.int .i64 n) := (h2.out.cell (p := ⟨B, 1, none⟩) Hs.out).trans q1))
                go_wp2_with (first
                  | (go_at_call 101; refine (HKe.out _).mono ?_; rintro e w3 ⟨rfl, rfl⟩)
                  | (go_at_call 102; refine (HVa.out _).mono ?_; rintro e w3 ⟨rfl, rfl⟩)
                  | go_in)
                go_ret
                exact ⟨by first | rfl | simp, Hb.out.drew.trans (h2.out.mono (by rw [hB]; exact Nat.le_of_lt Hs.out))⟩
              · have d3 : decide (val < -1000000000) = false := by simpa using h5
                have d4 : decide (1000000000 < val) = true := by
                  have : ¬ val ≤ 1000000000 := fun e => h2 (by have hnear : near val 1000000000 := ⟨by omega, e⟩; simp [fitsB, hnear, hK, hV]; omega)
                  simp; omega
                clear h2 h2' hK hV h3 h4 h5
                go_enter Tryz.func78, Tryz.ntmps78
                go_wp2
                go_region_held3 (fun w' => w'.cell? ⟨B, 0, none⟩ = some (.int .i64 k)) (go_keep)
                  (first
                    | (go_at_call 100; refine (HOf.out _).mono ?_; rintro e w2 ⟨rfl, h2⟩
                       have q2 : w2.cell? ⟨B, 0, none⟩ = some (.int .i64 k) := (h2.out.cell (p := ⟨B, 0, none⟩) Hs.out).trans q0
                       have q3 : w2.cell? ⟨B, 1, none⟩ = some (.int .i64 n) := (h2.out.cell (p := ⟨B, 1, none⟩) Hs.out).trans q1))
                go_wp2_with (first
                  | (go_at_call 101; refine (HKe.out _).mono ?_; rintro e w3 ⟨rfl, rfl⟩)
                  | (go_at_call 102; refine (HVa.out _).mono ?_; rintro e w3 ⟨rfl, rfl⟩)
                  | go_in)
                go_ret
                exact ⟨by first | rfl | simp, Hb.out.drew.trans (h2.out.mono (by rw [hB]; exact Nat.le_of_lt Hs.out))⟩
  · rw [if_pos h1] at hR
    subst hR
    have hne : (ofZ op != k) = true := by simpa using h1
    clear h1
    go_enter Tryz.func78, Tryz.ntmps78
    go_wp2
    go_region_held3 (fun w' => w'.cell? ⟨B, 0, none⟩ = some (.int .i64 k)) (go_keep)
      (first
        | (go_at_call 100; refine (HOf.out _).mono ?_; rintro e w2 ⟨rfl, h2⟩
           have q2 : w2.cell? ⟨B, 0, none⟩ = some (.int .i64 k) := (h2.out.cell (p := ⟨B, 0, none⟩) Hs.out).trans q0))
    go_wp2
    go_ret
    exact ⟨rfl, Hb.out.drew.trans (h2.out.mono (by rw [hB]; exact Nat.le_of_lt Hs.out))⟩
end Go.Proofs.YtcjfcomadcebnaaGreatDoor

/- Plainly: where a key stands in a map's keys. -/
namespace Go.Proofs.YtcjfcomadcebnaaGreatDoor
/-- How many at the head are less than a number. -/
def lessN (x : Int) : List Int → Nat
  | [] => 0
  | y :: l => if y < x then lessN x l + 1 else 0
theorem lessN_le (x : Int) : ∀ l, lessN x l ≤ l.length
  | [] => Nat.le_refl _
  | y :: l => by
    unfold lessN
    have := lessN_le x l
    split <;> simp <;> omega
theorem lessN_lt {x : Int} : ∀ {l : List Int} {k : Nat}, k < lessN x l → k < l.length ∧ l[k]?.getD 0 < x
  | [], k, h => by simp [lessN] at h
  | y :: l, k, h => by
    unfold lessN at h
    split at h
    · rename_i hq
      cases k with
      | zero => exact ⟨by simp, by simpa using hq⟩
      | succ k =>
        obtain ⟨h1, h2⟩ := lessN_lt (x := x) (l := l) (k := k) (by omega)
        exact ⟨by simp; omega, by simpa using h2⟩
    · omega
theorem lessN_stop {x : Int} : ∀ {l : List Int}, lessN x l < l.length → ¬ l[lessN x l]?.getD 0 < x
  | [], h => by simp at h
  | y :: l, h => by
    by_cases hq : y < x
    · have e : lessN x (y :: l) = lessN x l + 1 := by simp [lessN, hq]
      rw [e] at h ⊢
      have := lessN_stop (x := x) (l := l) (by simp at h; omega)
      simpa using this
    · have e : lessN x (y :: l) = 0 := by simp [lessN, hq]
      rw [e]
      simpa using hq
/-- Whether a key stands in the list where it would. -/
def isAt (x : Int) (l : List Int) : Bool := decide (lessN x l < l.length) && decide (l[lessN x l]?.getD 0 = x)
theorem spl_at (k : Int) : ∀ l : List (Int × Int), (spl k l).1.length = lessN k (l.map (·.1)) ∧ isAt k (l.map (·.1)) = (spl k l).2.1.isSome ∧ (∀ v, (spl k l).2.1 = some v → l = (spl k l).1 ++ (k, v) :: (spl k l).2.2) ∧ ((spl k l).2.1 = none → l = (spl k l).1 ++ (spl k l).2.2)
  | [] => by simp [spl, lessN, isAt]
  | (a, v) :: t => by
    obtain ⟨h1, h2, h3, h4⟩ := spl_at k t
    by_cases ha : a < k
    · have e : lessN k (((a, v) :: t).map (·.1)) = lessN k (t.map (·.1)) + 1 := by simp [lessN, ha]
      have es : spl k ((a, v) :: t) = ((a, v) :: (spl k t).1, (spl k t).2) := by simp [spl, ha]
      rw [es, e]
      refine ⟨by simp [h1], ?_, fun w hw => ?_, fun hw => ?_⟩
      · rw [← h2]
        unfold isAt
        rw [e]
        simp
      · have := h3 w hw
        simp only [List.cons_append]
        rw [← this]
      · have := h4 hw
        simp only [List.cons_append]
        rw [← this]
    · have e : lessN k (((a, v) :: t).map (·.1)) = 0 := by simp [lessN, ha]
      by_cases hk : a = k
      · have es : spl k ((a, v) :: t) = ([], some v, t) := by simp [spl, hk]
        rw [es, e]
        refine ⟨rfl, ?_, fun w hw => ?_, fun hw => by cases hw⟩
        · unfold isAt; rw [e]; simp [hk]
        · simp at hw; rw [← hw, hk]; rfl
      · have es : spl k ((a, v) :: t) = ([], none, (a, v) :: t) := by simp [spl, ha, hk]
        rw [es, e]
        refine ⟨rfl, ?_, fun w hw => (by cases hw), fun _ => rfl⟩
        unfold isAt; rw [e]; simp [hk]
end Go.Proofs.YtcjfcomadcebnaaGreatDoor

/- Where a key of a map stands: the document's, by a contract. -/
namespace Go.Proofs.YtcjfcomadcebnaaGreatDoor
open Go.RowKit Go.Maps Go.WideMaps Go.WideElems Go.ChangeShapes Go.WideShapes

set_option maxHeartbeats 4000000 in
set_option maxRecDepth 100000 in
theorem rat_any (k m : Int) (a : Option Addr) (c : Nat) (l : List Int) (vs : Value) (x : Int) (hn : l.length ≤ 100000) (w : World) (h : IAt w a l) :
    Calls Tryz.prog 103 #[.agg #[.int .i64 k, .int .i64 m, .slice a l.length c, vs], .int .i64 x] w fun e w' => e = .returned (.tuple #[.int .i64 (lessN x l), .bool (isAt x l)]) ∧ Hid (Below w.heap.size w w') := by
  obtain ⟨n, hnn⟩ : ∃ n, l.length = n := ⟨_, rfl⟩
  obtain ⟨j, hj⟩ : ∃ j, lessN x l = j := ⟨_, rfl⟩
  have Hjn : Hid (j ≤ n) := by show _ ≤ _; rw [← hj, ← hnn]; exact lessN_le _ _
  obtain ⟨R, hR⟩ : ∃ R, isAt x l = R := ⟨_, rfl⟩
  have HR : Hid (R = (decide (j < n) && decide (l[j]?.getD 0 = x))) := by show _ = _; rw [← hR, ← hj, ← hnn]; rfl
  rw [hnn] at hn
  rw [hj, hR, hnn]
  obtain ⟨W, hW, hb, hs, -, -, c2, -⟩ := four_new w (.int .i64 k) (.int .i64 m) (.slice a n c) vs 39
  obtain ⟨B, hB⟩ : ∃ B, w.heap.size = B := ⟨_, rfl⟩
  rw [hB] at c2
  have Hb : Hid (Below w.heap.size w W) := hb.out
  have H : Hid (IAt W a l) := h.below hb.out
  have Hn := Lib.hid hnn
  have Hj := Lib.hid hj
  have c2' : W.drew.cell? ⟨B, 2, none⟩ = some (.slice a n c) := c2
  clear h hnn hR hj
  go_enter Tryz.func103, Tryz.ntmps103
  go_wp2
  go_loop [6] (fun i => ∃ k : Nat, k ≤ j ∧ i = .int .i64 k) (fun i => n - (intOf i).toNat)
  case atStart => exact ⟨0, Nat.zero_le _, rfl⟩
  case round =>
    obtain ⟨q, hq, rfl⟩ := hrel
    have hjn := Hjn.out
    by_cases hlt : q < j
    · obtain ⟨hkl, hlp⟩ := lessN_lt (x := x) (l := l) (k := q) (by rw [Hj.out]; exact hlt)
      obtain ⟨b, off, rfl, hc0⟩ : ∃ b off, a = some ⟨b, off, none⟩ ∧ W.cell? ⟨b, off + q, none⟩ = some (.int .i64 (l[q]?.getD 0)) := by
        rcases H.out with e | ⟨b, off, e, h1⟩
        · rw [e] at hkl; simp at hkl
        · exact ⟨b, off, e, h1 q hkl⟩
      rw [Hn.out] at hkl
      obtain ⟨z, hz⟩ : ∃ z, l[q]?.getD 0 = z := ⟨_, rfl⟩
      rw [hz] at hc0 hlp
      have e1 : decide (z < x) = true := by simpa using hlp
      clear hz hlp
      go_wp2
      go_round
      case rel => exact ⟨q + 1, by omega, by go_num⟩
      case measure => simp [intOf]; omega
    · have hqj : q = j := by omega
      subst hqj
      by_cases hkl : q < n
      · have hlp := lessN_stop (x := x) (l := l) (by rw [Hj.out, Hn.out]; exact hkl)
        rw [Hj.out] at hlp
        obtain ⟨b, off, rfl, hc0⟩ : ∃ b off, a = some ⟨b, off, none⟩ ∧ W.cell? ⟨b, off + q, none⟩ = some (.int .i64 (l[q]?.getD 0)) := by
          rcases H.out with e | ⟨b, off, e, h1⟩
          · have h2 := Hn.out; rw [e] at h2; simp at h2; omega
          · exact ⟨b, off, e, h1 q (by rw [Hn.out]; exact hkl)⟩
        have hr := HR.out
        obtain ⟨z, hz⟩ : ∃ z, l[q]?.getD 0 = z := ⟨_, rfl⟩
        rw [hz] at hc0 hlp hr
        have e1 : decide (z < x) = false := by simp; omega
        have hc1 : W.drew.cell? ⟨b, off + q, none⟩ = some (.int .i64 z) := hc0
        rw [decide_eq_true hkl, Bool.true_and] at hr
        by_cases hzx : z = x
        · have e2 : (z == x) = true := by simpa using hzx
          rw [decide_eq_true hzx] at hr
          subst hr
          clear hz hlp hzx
          go_wp2
          go_region_held3 (fun w' => w'.cell? ⟨B, 2, none⟩ = some (.slice (some ⟨b, off, none⟩) n c) ∧ w'.cell? ⟨b, off + q, none⟩ = some (.int .i64 z)) (go_keep) (fail)
          try clear hHeld
          go_wp2
          go_ret2
          exact ⟨rfl, Hb.out.drew⟩
        · have e2 : (z == x) = false := by simpa using hzx
          rw [decide_eq_false hzx] at hr
          subst hr
          clear hz hlp hzx
          go_wp2
          go_region_held3 (fun w' => w'.cell? ⟨B, 2, none⟩ = some (.slice (some ⟨b, off, none⟩) n c) ∧ w'.cell? ⟨b, off + q, none⟩ = some (.int .i64 z)) (go_keep) (fail)
          try clear hHeld
          go_wp2
          go_ret2
          exact ⟨rfl, Hb.out.drew⟩
      · have hr := HR.out
        rw [decide_eq_false hkl, Bool.false_and] at hr
        subst hr
        have hqn : n = q := by omega
        subst hqn
        clear hkl
        go_wp2
        refine wp_region_held_drew (S := fun w' => w'.cell? ⟨B, 2, none⟩ = some (.slice a n c)) (by kernel_rfl) c2' (fun hHeld => ?_)
        refine held_take 0 (some 23) ?_ rfl rfl (by kernel_rfl) (by kernel_rfl) (by kernel_rfl) (fun _ _ _ h => h) (by kernel_rfl) ?_ (by assumption) ?_
        rotate_left
        · intro w hSw; go_simp <;> (try with_reducible rfl)
        simp only [Act.put, List.setIfInBounds_toArray, List.set_cons_zero, List.set_cons_succ]
        refine held_take 1 (some 24) ?_ rfl rfl (by kernel_rfl) (by kernel_rfl) (by kernel_rfl) (fun _ _ _ h => h) (by kernel_rfl) ?_ (by assumption) ?_
        rotate_left
        · intro w hSw; go_simp <;> (try with_reducible rfl)
        simp only [Act.put, List.setIfInBounds_toArray, List.set_cons_zero, List.set_cons_succ]
        refine held_take 2 (some 25) ?_ rfl rfl (by kernel_rfl) (by kernel_rfl) (by kernel_rfl) (fun _ _ _ h => h) (by kernel_rfl) ?_ (by assumption) ?_
        rotate_left
        · intro w hSw; go_simp <;> (try with_reducible rfl)
        simp only [Act.put, List.setIfInBounds_toArray, List.set_cons_zero, List.set_cons_succ]
        refine held_take 3 (some 26) ?_ rfl rfl (by kernel_rfl) (by kernel_rfl) (by kernel_rfl) (fun _ _ _ h => h) (by kernel_rfl) ?_ (by assumption) ?_
        rotate_left
        · intro w hSw; go_simp <;> (try with_reducible rfl)
        simp only [Act.put, List.setIfInBounds_toArray, List.set_cons_zero, List.set_cons_succ]
        refine held_take 4 (some 27) ?_ rfl rfl (by kernel_rfl) (by kernel_rfl) (by kernel_rfl) (fun _ _ _ h => h) (by kernel_rfl) ?_ (by assumption) ?_
        rotate_left
        · intro w hSw; go_simp <;> (try with_reducible rfl)
        simp only [Act.put, List.setIfInBounds_toArray, List.set_cons_zero, List.set_cons_succ]
        refine held_take 5 (some 28) ?_ rfl rfl (by kernel_rfl) (by kernel_rfl) (by kernel_rfl) (fun _ _ _ h => h) (by kernel_rfl) ?_ (by assumption) ?_
        rotate_left
        · intro w hSw; go_simp <;> (try with_reducible rfl)
        simp only [Act.put, List.setIfInBounds_toArray, List.set_cons_zero, List.set_cons_succ]
        refine held_take 6 (some 29) ?_ rfl rfl (by kernel_rfl) (by kernel_rfl) (by kernel_rfl) (fun _ _ _ h => h) (by kernel_rfl) ?_ (by assumption) ?_
        rotate_left
        · intro w hSw; go_simp <;> (try with_reducible rfl)
        simp only [Act.put, List.setIfInBounds_toArray, List.set_cons_zero, List.set_cons_succ]
        refine held_skip 7 (some 30) rfl rfl (by kernel_rfl) (by kernel_rfl) (by kernel_rfl) (fun _ _ _ h => h) (by kernel_rfl) (by assumption) ?_
        simp only [Act.put, List.setIfInBounds_toArray, List.set_cons_zero, List.set_cons_succ]
        refine held_skip 8 (some 31) rfl rfl (by kernel_rfl) (by kernel_rfl) (by kernel_rfl) (fun _ _ _ h => h) (by kernel_rfl) (by assumption) ?_
        simp only [Act.put, List.setIfInBounds_toArray, List.set_cons_zero, List.set_cons_succ]
        refine held_skip 9 (some 32) rfl rfl (by kernel_rfl) (by kernel_rfl) (by kernel_rfl) (fun _ _ _ h => h) (by kernel_rfl) (by assumption) ?_
        simp only [Act.put, List.setIfInBounds_toArray, List.set_cons_zero, List.set_cons_succ]
        refine held_skip 10 (some 33) rfl rfl (by kernel_rfl) (by kernel_rfl) (by kernel_rfl) (fun _ _ _ h => h) (by kernel_rfl) (by assumption) ?_
        simp only [Act.put, List.setIfInBounds_toArray, List.set_cons_zero, List.set_cons_succ]
        refine held_skip 11 (some 34) rfl rfl (by kernel_rfl) (by kernel_rfl) (by kernel_rfl) (fun _ _ _ h => h) (by kernel_rfl) (by assumption) ?_
        simp only [Act.put, List.setIfInBounds_toArray, List.set_cons_zero, List.set_cons_succ]
        refine held_skip 12 (some 35) rfl rfl (by kernel_rfl) (by kernel_rfl) (by kernel_rfl) (fun _ _ _ h => h) (by kernel_rfl) (by assumption) ?_
        simp only [Act.put, List.setIfInBounds_toArray, List.set_cons_zero, List.set_cons_succ]
        refine held_skip 13 (some 36) rfl rfl (by kernel_rfl) (by kernel_rfl) (by kernel_rfl) (fun _ _ _ h => h) (by kernel_rfl) (by assumption) ?_
        simp only [Act.put, List.setIfInBounds_toArray, List.set_cons_zero, List.set_cons_succ]
        refine held_take 14 (some 37) ?_ rfl rfl (by kernel_rfl) (by kernel_rfl) (by kernel_rfl) (fun _ _ _ h => h) (by kernel_rfl) ?_ (by assumption) ?_
        rotate_left
        · intro w hSw; go_simp <;> (try with_reducible rfl)
        simp only [Act.put, List.setIfInBounds_toArray, List.set_cons_zero, List.set_cons_succ]
        refine held_take 15 (some 4) ?_ rfl rfl (by kernel_rfl) (by kernel_rfl) (by kernel_rfl) (fun _ _ _ h => h) (by kernel_rfl) ?_ (by assumption) ?_
        rotate_left
        · intro w hSw; go_simp <;> (try with_reducible rfl)
        simp only [Act.put, List.setIfInBounds_toArray, List.set_cons_zero, List.set_cons_succ]
        refine held_take 16 (some 5) ?_ rfl rfl (by kernel_rfl) (by kernel_rfl) (by kernel_rfl) (fun _ _ _ h => h) (by kernel_rfl) ?_ (by assumption) ?_
        rotate_left
        · intro w hSw; go_simp <;> (try with_reducible rfl)
        simp only [Act.put, List.setIfInBounds_toArray, List.set_cons_zero, List.set_cons_succ]
        refine wpAnyH_done (by kernel_rfl) ?_ _
        clear hHeld
        go_wp2
        go_ret2
        exact ⟨rfl, Hb.out.drew⟩
end Go.Proofs.YtcjfcomadcebnaaGreatDoor
