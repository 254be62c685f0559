/- Helpers, joined: Gc, Gs, Gd, Ge, Gf, Gg, Gk, Si, Gl, Gm, Gn, Pf. -/
import Derived.Test.YthgkloapnihpaaaGreatM1
import Derived.Shelf.Lays2
import Derived.Test.YthgkloapnihpaaaGreatProg
import Derived.Shelf.Slices.SearchI
import Derived.Shelf.Slices.Empties
import Derived.Shelf.Spec.SlicesInsertGrow
import Derived.Shelf.SlLaysZI
import Derived.Shelf.Lays
import Derived.Shelf.SlIterI.Nil
import Derived.Shelf.SlIterI.Sorted
import Derived.Shelf.Sort.Plain
import Derived.Shelf.Slices.In.SortNone
import Derived.Lib.SlKeysI
import Derived.Laws.AppendOwn

/- Graphs: Node, by a contract. -/
namespace Go.Proofs.YthgkloapnihpaaaGreat
open Go.RowKit Go.Maps Go.WideMaps Go.WideElems Go.ChangeShapes Go.WideShapes

theorem look_ok_as {b n : Nat} {L : List Int} {D : DV} {W : World} (h : DomAt Tryz.prog 3 il fit64 asIs b n L D W) {t e : TypeId} (ht : Tryz.prog.underlying t = some (.map 3 e)) {z v : Value} (hz : (zeroValue e).run Tryz.prog W = .ok z W) {a : Int} (ha : fit64 a) (hv : D.atKey (il a) (.held z) = .held v) :
    (Instr.lookup t (.map (some b)) (iv a) true).run Tryz.prog W = .ok (.tuple #[v, .bool (decide (a ∈ L))]) W := by
  obtain ⟨v', ps, hrun, hv'⟩ := h.own.look_ok K3 ht hz (show asIs z = some _ from rfl) (keyI a ha)
  have h1 : (DataW.held v' : DV) = D.atKey (il a) (.held z) := (Prod.mk.inj (Option.some.inj hv')).1
  rw [hv] at h1
  cases h1
  rw [hrun]
  have e : Maps.has D (il a) = decide (a ∈ L) := by
    rw [Bool.eq_iff_iff, h.has a ha, decide_eq_true_eq]
  rw [e]
theorem DomAt.up {X H : Type} {P : Program} {k : TypeId} {lit : X → Lit} {Fit : X → Prop} {R : Value → Option (DataW H × List MemPlace)} {b n n' : Nat} {L : List X} {D : DataW H} {W : World} (h : DomAt P k lit Fit R b n L D W) (hn : n ≤ n') : DomAt P k lit Fit R b n' L D W := ⟨h.own.mono hn, h.has, h.only, h.fit⟩
/-- Nodes more, no edge more. -/
theorem outsE_put {N : List Int} {E : List Ed} (hN : RiseI N) (hE : EndsIn N E) (k a : Int) : outsE (putI N k) E a = outsE N E a := by
  refine riseI_ext ((rise_putI k hN).filter _) (hN.filter _) fun b => ?_
  rw [mem_outsE hE, mem_outsE (N := putI N k) fun x y h => ⟨mem_putI.2 (.inr (hE x y h).1), mem_putI.2 (.inr (hE x y h).2)⟩]
theorem outsE_none {N : List Int} {E : List Ed} (hE : EndsIn N E) {a : Int} (ha : a ∉ N) : outsE N E a = [] := by
  unfold outsE
  rw [List.filter_eq_nil_iff]
  intro b _ h
  exact ha (hE a b (edB_iff.1 h)).1
section
variable {B g ob c : Nat} {DO : DV} {F : Int → Nat} {DI : Int → DV} {f : Int → Int → Value} {N : List Int} {E : List Ed} {W : World}
/-- A node laid in. -/
theorem GrIn.node (h : GrIn B g ob c DO F DI f N E W) {k : Int} (hk : fit64 k) (hn : k ∉ N) (hc : c < maxLen) :
    ∃ W2, (Instr.mapUpdate 71 (.map (some ob)) (iv k) (.map (some W.heap.size))).run Tryz.prog (W.alloc (.map #[] 0)) = .ok () W2 ∧
      GrIn B g ob (c + 1) (DO.put (il k) (.held (.map (some W.heap.size)))) (fun a => if a = k then W.heap.size else F a) (fun a => if a = k then .map [] else DI a) (fun a b => if a = k then .slice none 0 0 else f a b) (putI N k) E W2 ∧ (W.alloc (.map #[] 0)).grownBy W2 (some ob) := by
  have h1 : GrIn B g ob c DO F DI f N E (W.alloc (.map #[] 0)) := h.kept (World.grownBy_alloc W _ none) (fun k e => by cases e)
  obtain ⟨W2, hrun, hd, hg⟩ := put_as h1.dom Tryz.underlying71 hc hk (.map (some W.heap.size)) (L' := putI N k) (fun y => by rw [mem_putI]; exact Or.comm)
  have hob : ob < W.heap.size := h.dom.own.lt
  have hF : ∀ a ∈ N, F a < W.heap.size := fun a ha => (h.domI a ha).own.lt
  have mem : ∀ a, a ∈ putI N k → a ≠ k → a ∈ N := fun a ha he => (mem_putI.1 ha).resolve_left he
  have hne : ∀ a, a ∈ N → a ≠ k := fun a ha e => hn (e ▸ ha)
  refine ⟨W2, hrun, ⟨boxed_kept h1.box hg (fun e => h1.off_g (Option.some.inj e).symm), hd, fun a ha => ?_, fun a ha => ?_, fun a ha b hb => ?_, fun a ha b hb => ?_, fun x y hxy => ⟨mem_putI.2 (.inr (h.ends x y hxy).1), mem_putI.2 (.inr (h.ends x y hxy).2)⟩, rise_putI k h.nodes, h.edges, fun a ha a' ha' e => ?_, fun a ha e => ?_, fun a ha a' ha' b b' hb hb' q h2 h3 => ?_⟩, hg⟩
  · rw [at_put h1.dom hk ha]
    by_cases e : a = k
    · subst e
      rw [if_pos rfl, if_pos (mem_putI.2 (.inl rfl)), if_pos rfl]
    · rw [if_neg e, h.atO a ha, if_neg e]
      by_cases hm : a ∈ N
      · rw [if_pos hm, if_pos (mem_putI.2 (.inr hm))]
      · rw [if_neg hm, if_neg (fun g => hm (mem a g e))]
  · rw [outsE_put h.nodes h.ends]
    by_cases e : a = k
    · subst e
      simp only [if_true]
      rw [outsE_none h.ends hn]
      exact ((dom_made Tryz.prog 3 il fit64 asIs W).kept hg (fun e => by have := Option.some.inj e; omega)).up (Nat.zero_le _)
    · simp only [e, if_false]
      exact ((h1.domI a (mem a ha e)).kept hg (fun e2 => h1.neF a (mem a ha e) (Option.some.inj e2))).up (Nat.le_succ _)
  · by_cases e : a = k
    · simp only [e, if_true]
      simp [DataW.atKey]
    · simp only [e, if_false]
      exact h.atI a (mem a ha e) b hb
  · by_cases e : a = k
    · subst e
      simp only [if_true]
      rw [kindsE_nil.2 (fun g => hn (h.ends a b g).1)]
      exact World.ownsInts_nil _ _ _ _
    · simp only [e, if_false]
      exact (h1.row a (mem a ha e) b hb).kept hg (by
        cases hf : (f a b).ownBlock with
        | none => exact .inl rfl
        | some q => exact .inr fun e2 => h1.row_off (mem a ha e) hb (hf.trans e2))
  · by_cases ea : a = k
    · by_cases ea' : a' = k
      · rw [ea, ea']
      · have := hF a' (mem a' ha' ea')
        simp only [ea, ea', if_true, if_false] at e
        omega
    · have h4 := hF a (mem a ha ea)
      by_cases ea' : a' = k
      · simp only [ea, ea', if_true, if_false] at e
        omega
      · simp only [ea, ea', if_false] at e
        exact h.apF a (mem a ha ea) a' (mem a' ha' ea') e
  · by_cases ea : a = k
    · simp only [ea, if_true] at e
      omega
    · simp only [ea, if_false] at e
      exact h.neF a (mem a ha ea) e
  · by_cases ea : a = k
    · simp only [ea, if_true] at h2
      simp [Value.ownBlock] at h2
    · by_cases ea' : a' = k
      · simp only [ea', if_true] at h3
        simp [Value.ownBlock] at h3
      · simp only [ea, ea', if_false] at h2 h3
        exact h.apR a (mem a ha ea) a' (mem a' ha' ea') b b' hb hb' q h2 h3
end
set_option maxHeartbeats 8000000 in
set_option maxRecDepth 100000 in
theorem node_any {Z : Nat → Prop} {B g c : Nat} {N : List Int} {E : List Ed} (k : Int) (hk : fit64 k) (hc : c < maxLen) (w : World) (h : GrAt Z B g c N E w) :
    Calls Tryz.prog 20 #[.pointer (some ⟨g, 0, none⟩), iv k] w fun e w' => e = .returned (.bool (decide (k ∉ N))) ∧ Hid (GrAt (More Z w w') B g (c + 1) (putI N k) E w' ∧ Off Z w w') := by
  obtain ⟨ob, DO, F, DI, f, h, hZ⟩ := h
  have hmm := @run_makeMap Tryz.prog
  have c0 := h.box.cell
  have H := Lib.hid h
  have HZ := Lib.hid hZ
  by_cases hn : k ∈ N
  · have lk := look_ok_as h.dom Tryz.underlying71 (zero65 w) hk ((h.atO k hk).trans (by rw [if_pos hn]))
    rw [decide_eq_true hn] at lk
    have e1 : decide (k ∉ N) = false := decide_eq_false (fun g => g hn)
    have Hn := Lib.hid hn
    clear h hZ hn
    rw [e1]
    go_enter Tryz.func20, Tryz.ntmps20
    go_wp2
    go_ret
    rw [putI_in H.out.nodes Hn.out]
    exact ⟨rfl, ⟨ob, DO, F, DI, f, ⟨H.out.box, H.out.dom.up (Nat.le_succ _), H.out.atO, fun a ha => (H.out.domI a ha).up (Nat.le_succ _), H.out.atI, H.out.row, H.out.ends, H.out.nodes, H.out.edges, H.out.apF, H.out.neF, H.out.apR⟩, fun q hq => .inl (HZ.out q hq)⟩, Off.refl _ _⟩
  · have lk := look_ok_as h.dom Tryz.underlying71 (zero65 w) hk ((h.atO k hk).trans (by rw [if_neg hn]))
    rw [decide_eq_false hn] at lk
    have e1 : decide (k ∉ N) = true := decide_eq_true hn
    obtain ⟨W2, hup, hG, hgr⟩ := h.node hk hn hc
    obtain ⟨W1, hW1⟩ : ∃ W, w.alloc (.map #[] 0) = W := ⟨_, rfl⟩
    have Hs : Hid (W1.heap.size = w.heap.size + 1) := by show _ = _; rw [← hW1]; simp
    have Hg1 : Hid (w.grownBy W1 none) := by show w.grownBy _ _; rw [← hW1]; exact World.grownBy_alloc w _ none
    rw [hW1] at hup hgr
    have HG := Lib.hid hG
    have Hgr := Lib.hid hgr
    have c1 := (H.out.kept Hg1.out (fun k e => by cases e)).box.cell
    clear h hZ hn hG hgr
    rw [e1]
    go_enter Tryz.func20, Tryz.ntmps20
    go_wp2
    go_ret
    have hz2 := Hgr.out.size
    have hs1 := Hs.out
    refine ⟨rfl, ⟨ob, _, _, _, _, HG.out, fun q hq => ?_⟩, ⟨Hgr.out.os.trans Hg1.out.os, Hgr.out.tape.trans Hg1.out.tape, Hgr.out.output.trans Hg1.out.output, by omega, fun q hq hz => ?_⟩⟩
    · rcases hq with rfl | ⟨a, ha, rfl⟩ | ⟨a, ha, b, hb, hq⟩
      · exact .inl (HZ.out _ (.inl rfl))
      · by_cases e : a = k
        · simp only [e, if_true]
          exact .inr ⟨Nat.le_refl _, by omega⟩
        · simp only [e, if_false]
          exact .inl (HZ.out _ (.inr (.inl ⟨a, (mem_putI.1 ha).resolve_left e, rfl⟩)))
      · by_cases e : a = k
        · simp only [e, if_true] at hq
          simp [Value.ownBlock] at hq
        · simp only [e, if_false] at hq
          exact .inl (HZ.out _ (.inr (.inr ⟨a, (mem_putI.1 ha).resolve_left e, b, hb, hq⟩)))
    · refine (Hgr.out.block q (by omega) (fun e => hz (HZ.out q (.inl (Option.some.inj e))))).trans (Hg1.out.block q hq (by simp))
end Go.Proofs.YthgkloapnihpaaaGreat

/- The library's search and insertion of numbers at this program, laid after the shelf's table. -/
namespace Go.Proofs
open Go.Shelf
def Tryz.search_ren : Go.Shelf.Ren := ⟨fun | 25 => 31 | 31 => 50 | 32 => 51 | 37 => 60 | 21 => 32 | 27 => 52 | 28 => 53 | 35 => 65 | 39 => 95 | _ => 0, fun | 0 => 0 | 3 => 3 | 4 => 4 | 22 => 23 | 40 => 99 | _ => 0, fun g => g⟩
theorem Tryz.searchInts : Go.Proofs.Lays2.n25 Tryz.prog Tryz.search_ren := {
  mixed := by kernel_rfl
  f25 := Tryz.func31.trans (congrArg some (by kernel_rfl))
  f31 := Tryz.func50.trans (congrArg some (by kernel_rfl))
  f32 := Tryz.func51.trans (congrArg some (by kernel_rfl))
  f37 := Tryz.func60.trans (congrArg some (by kernel_rfl))
  t0 := Tryz.underlying0
  a0 := Tryz.isAgg0
  z0 := Tryz.sizeOf0
  v0 := Tryz.zeroValue0
  t3 := Tryz.underlying3
  a3 := Tryz.isAgg3
  z3 := Tryz.sizeOf3
  v3 := Tryz.zeroValue3
  t4 := Tryz.underlying4
  a4 := Tryz.isAgg4
  z4 := Tryz.sizeOf4
  v4 := Tryz.zeroValue4
  t22 := Tryz.underlying23
  a22 := Tryz.isAgg23
  z22 := Tryz.sizeOf23
  v22 := Tryz.zeroValue23
  t40 := Tryz.underlying99
  a40 := Tryz.isAgg99
  z40 := Tryz.sizeOf99
  v40 := Tryz.zeroValue99 }
theorem Tryz.insertInts : Go.Proofs.Lays2.n21 Tryz.prog Tryz.search_ren := {
  mixed := by kernel_rfl
  f21 := Tryz.func32.trans (congrArg some (by kernel_rfl))
  f27 := Tryz.func52.trans (congrArg some (by kernel_rfl))
  f28 := Tryz.func53.trans (congrArg some (by kernel_rfl))
  f35 := Tryz.func65.trans (congrArg some (by kernel_rfl))
  f39 := Tryz.func95.trans (congrArg some (by kernel_rfl))
  t0 := Tryz.underlying0
  a0 := Tryz.isAgg0
  z0 := Tryz.sizeOf0
  v0 := Tryz.zeroValue0
  t3 := Tryz.underlying3
  a3 := Tryz.isAgg3
  z3 := Tryz.sizeOf3
  v3 := Tryz.zeroValue3
  t4 := Tryz.underlying4
  a4 := Tryz.isAgg4
  z4 := Tryz.sizeOf4
  v4 := Tryz.zeroValue4
  t22 := Tryz.underlying23
  a22 := Tryz.isAgg23
  z22 := Tryz.sizeOf23
  v22 := Tryz.zeroValue23
  i3 := by kernel_rfl }
end Go.Proofs

/- Graphs: Has, by a contract. -/
namespace Go.Proofs.YthgkloapnihpaaaGreat
open Go.RowKit Go.Maps Go.WideMaps Go.WideElems Go.ChangeShapes Go.WideShapes

theorem drewN_below (w : World) (q : Nat) : Below w.heap.size w (w.drewN q) := ⟨rfl, rfl, rfl, Nat.le_refl _, fun _ _ => rfl⟩
set_option maxRecDepth 100000 in
/-- A search in a row of numbers that rise. -/
theorem search_row {B : Nat} {v : Value} {zs : List Int} (x : Int) (w : World) (h : w.ownsInts B 3 .i64 v zs) (hr : RiseI zs) (hl : zs.length ≤ 100000) :
    Calls Tryz.prog 31 #[v, iv x] w fun e w' => e = .returned (.tuple #[.int .i64 ((lessN x zs : Nat) : Int), .bool (decide (x ∈ zs))]) ∧ Hid (Below w.heap.size w w') := by
  have hcount : ∀ {l : List Int}, RiseI l → l.countP (· < x) = lessN x l := by
    intro l
    induction l with
    | nil => intro _; rfl
    | cons y l ih =>
      intro hl
      have hl' := List.pairwise_cons.1 hl
      unfold lessN
      by_cases hy : y < x
      · rw [if_pos hy, List.countP_cons_of_pos (by simpa using hy), ih hl'.2]
      · rw [if_neg hy, List.countP_cons_of_neg (by simpa using hy)]
        rw [List.countP_eq_zero]
        intro z hz
        have := hl'.1 z hz
        simp
        omega
  rcases h.1.2 with ⟨e, h0⟩ | ⟨g, cap, cur, e, hb, hg, hn, hm, hs, ht⟩
  · have hz : zs = [] := List.eq_nil_of_length_eq_zero h0
    subst hz e
    refine (Any.slices_BinarySearch_int_empty Tryz.searchInts none 0 x w).mono ?_
    rintro e w' ⟨rfl, rfl⟩
    exact ⟨rfl, Below.refl _ _⟩
  · have h1 : w.ownsRow B 3 1 (.slice (some ⟨g, 0, none⟩) zs.length cap) zs.length (zs.map (Value.int .i64)) := e ▸ h.1
    subst e
    refine (Any.slices_BinarySearch_int Tryz.searchInts g 0 zs.length cap zs x w (Nat.le_refl _) (by omega) (fun j hj => ?_) (by rw [List.take_length]; exact hr.imp Int.le_of_lt)).mono ?_
    · rw [Nat.zero_add, h1.cellAt j (by omega)]
      simp [hj]
    · rintro e w' ⟨rfl, q, rfl⟩
      rw [List.take_length, hcount hr]
      refine ⟨?_, drewN_below w q⟩
      have : zs.contains x = decide (x ∈ zs) := by rw [Bool.eq_iff_iff, List.contains_iff_mem, decide_eq_true_eq]
      rw [this]
section
variable {B g ob c : Nat} {DO : DV} {F : Int → Nat} {DI : Int → DV} {f : Int → Int → Value} {N : List Int} {E : List Ed} {W : World}
/-- The row of kinds from a to b, looked up. -/
theorem GrIn.rowAt (h : GrIn B g ob c DO F DI f N E W) {a b : Int} (ha : fit64 a) (hb : fit64 b) : ∃ m v, (Instr.lookup 71 (.map (some ob)) (iv a) false).run Tryz.prog W = .ok (.map m) W ∧ (Instr.lookup 74 (.map m) (iv b) false).run Tryz.prog W = .ok v W ∧ W.ownsInts B 3 .i64 v (kindsE E a b) := by
  by_cases hn : a ∈ N
  · exact ⟨some (F a), f a b, look_as h.dom Tryz.underlying71 (zero65 W) ha ((h.atO a ha).trans (by rw [if_pos hn])), look_as (h.domI a hn) Tryz.underlying74 (zero23 W) hb (h.atI a hn b hb), h.row a hn b hb⟩
  · refine ⟨none, .slice none 0 0, look_as h.dom Tryz.underlying71 (zero65 W) ha ((h.atO a ha).trans (by rw [if_neg hn])), ?_, ?_⟩
    · exact Maps.look_nil false K3 Tryz.underlying74 (zero23 W) (keyI b hb)
    · rw [kindsE_nil.2 (fun g => hn (h.ends a b g).1)]
      exact World.ownsInts_nil _ _ _ _
end
theorem kinds_len (E : List Ed) (a b : Int) : (kindsE E a b).length ≤ E.length := by
  unfold kindsE
  rw [List.length_map]
  exact List.length_filter_le _ _
end Go.Proofs.YthgkloapnihpaaaGreat

/- Graphs: a number laid into a row of numbers. -/
namespace Go.Proofs.YthgkloapnihpaaaGreat
open Go.RowKit Go.Maps Go.WideMaps Go.WideElems Go.ChangeShapes Go.WideShapes

/-- Values written into an array, from a place on. -/
def putA (cur : Array Value) : Nat → List Value → Array Value
  | _, [] => cur
  | o, v :: vs => putA (cur.setIfInBounds o v) (o + 1) vs
theorem putA_size : ∀ (vs : List Value) (cur : Array Value) (o : Nat), (putA cur o vs).size = cur.size
  | [], _, _ => rfl
  | v :: vs, cur, o => by
    unfold putA
    rw [putA_size vs]
    simp
theorem putA_list : ∀ (vs : List Value) (cur : Array Value) (o : Nat), o + vs.length ≤ cur.size → (putA cur o vs).toList = cur.toList.take o ++ vs ++ cur.toList.drop (o + vs.length)
  | [], cur, o, _ => by
    show cur.toList = _
    simp
  | v :: vs, cur, o, h => by
    rw [List.length_cons] at h
    unfold putA
    rw [putA_list vs _ _ (by simp; omega), Array.toList_setIfInBounds, List.length_cons]
    have hl : o < cur.toList.length := by simp; omega
    rw [List.drop_set_of_lt (by omega), List.take_succ_eq_append_getElem (by simpa using hl)]
    rw [List.take_set_of_le (Nat.le_refl _)]
    simp only [List.getElem_set_self]
    rw [show o + 1 + vs.length = o + (vs.length + 1) from by omega]
    simp
theorem heap_setCells_same (g : Nat) (t : TypeId) : ∀ (vs : List Value) (o : Nat) (w : World) (cur : Array Value), w.heap[g]? = some (.cells cur t (0, 0)) → (w.setCells g o vs).heap[g]? = some (.cells (putA cur o vs) t (0, 0))
  | [], _, _, _, h => h
  | v :: vs, o, w, cur, h => heap_setCells_same g t vs (o + 1) _ _ (heap_setCell_same w g o cur t v h)
theorem grown_setCells (g : Nat) : ∀ (vs : List Value) (o : Nat) (w : World), w.grownBy (w.setCells g o vs) (some g)
  | [], _, w => ⟨rfl, rfl, rfl, Nat.le_refl _, fun _ _ _ => rfl⟩
  | v :: vs, o, w => by
    have h1 : w.grownBy (w.setCell ⟨g, o, none⟩ v) (some g) := ⟨rfl, rfl, rfl, by simp [World.setCell], fun k _ hk => Below.heap_setCell _ _ _ _ (fun e => hk (by rw [e]))⟩
    exact h1.trans (grown_setCells g vs (o + 1) _)
theorem take_put (cs : List Value) (x : Value) (i : Nat) (rest : List Value) (hi : i ≤ cs.length) : (cs.take i ++ x :: (cs.drop i ++ rest)).take (cs.length + 1) = cs.take i ++ x :: cs.drop i := by
  have e : cs.take i ++ x :: (cs.drop i ++ rest) = (cs.take i ++ x :: cs.drop i) ++ rest := by simp
  rw [e]
  apply List.take_left'
  simp
  omega
theorem ints_map_put (zs : List Int) (x : Int) (i : Nat) : (zs.map (Value.int .i64)).take i ++ Value.int .i64 x :: (zs.map (Value.int .i64)).drop i = (zs.take i ++ x :: zs.drop i).map (Value.int .i64) := by
  simp
theorem zc_size (k : Nat) : (Builtin.zeroCells (Value.int .i64 0).cells k).size = k := by simp [Builtin.zeroCells, Value.cells]
set_option maxHeartbeats 16000000 in
set_option maxRecDepth 100000 in
theorem insert_row {B : Nat} {v : Value} {zs : List Int} (x : Int) (i : Nat) (nb : Nat) (w : World) (h : w.ownsInts B 3 .i64 v zs) (hx : fit64 x) (hi : i ≤ zs.length) (hl : zs.length ≤ 100000) (hB : B ≤ w.heap.size) (hnb : w.heap[nb]? = some (.cells #[iv x] 3)) (hne : v.ownBlock ≠ some nb) :
    Calls Tryz.prog 32 #[v, .int .i64 (i : Int), .slice (some ⟨nb, 0, none⟩) 1 1] w fun e w' => ∃ v', e = .returned v' ∧ Hid (w'.ownsInts B 3 .i64 v' (zs.take i ++ x :: zs.drop i) ∧ w.grownBy w' v.ownBlock ∧ ∀ k, v'.ownBlock = some k → v.ownBlock = some k ∨ w.heap.size ≤ k) := by
  have hfit : ∀ y ∈ zs.take i ++ x :: zs.drop i, (Lit.int .i64 y).wf = true := by
    intro y hy
    rcases List.mem_append.1 hy with hy | hy
    · exact h.2 y (List.mem_of_mem_take hy)
    · rcases List.mem_cons.1 hy with rfl | hy
      · exact hx
      · exact h.2 y (List.mem_of_mem_drop hy)
  have hlen : ((zs.take i ++ x :: zs.drop i).map (Value.int .i64)).length = (zs.length + 1) * 1 := by simp; omega
  have hlz : (zs.take i ++ x :: zs.drop i).length = zs.length + 1 := by simp; omega
  have hcx : ∀ j u, [iv x][j]? = some u → w.cell? ⟨nb, 0 + j, none⟩ = some u := by
    intro j u hj
    rcases j with _ | j
    · simp at hj
      subst hj
      simp [World.cell?, hnb]
    · simp at hj
  have h1x : ∀ u ∈ [iv x], u.oneCell' = true := by
    intro u hu
    simp at hu
    subst hu
    rfl
  have h1c : ∀ u ∈ zs.map (Value.int .i64), u.oneCell' = true := by
    intro u hu
    obtain ⟨y, _, rfl⟩ := List.mem_map.1 hu
    rfl
  have row : ∀ (w' : World) (g cap : Nat) (cur : Array Value), B ≤ g → w'.heap[g]? = some (.cells cur 3 (0, 0)) → zs.length + 1 ≤ cap → cap ≤ maxLen → cur.size = cap → cur.toList.take (zs.length + 1) = (zs.take i ++ x :: zs.drop i).map (Value.int .i64) → w'.ownsInts B 3 .i64 (.slice (some ⟨g, 0, none⟩) (zs.length + 1) cap) (zs.take i ++ x :: zs.drop i) := by
    intro w' g cap cur k1 k2 k3 k4 k5 k6
    refine ⟨?_, hfit⟩
    rw [hlz]
    exact ⟨hlen, .inr ⟨g, cap, cur, rfl, k1, k2, k3, k4, by omega, by rw [Nat.mul_one]; exact k6⟩⟩
  have hml : zs.length + 1 ≤ maxLen := by unfold maxLen; omega
  rcases h.1.2 with ⟨e, h0⟩ | ⟨g, cap, cur, e, hb, hg, hn, hm, hs, ht⟩
  · have hz : zs = [] := List.eq_nil_of_length_eq_zero h0
    subst hz e
    have hi0 : i = 0 := by simpa using hi
    subst hi0
    have hc := grownCap_ge w (0 + 1) 0 3
    have hc2 := grownCap_le_maxLen w (0 + 1) 0 3 (by unfold maxLen; omega)
    have hcall := Any2.slices_Insert_int_end_grow Tryz.insertInts none 0 0 nb 0 1 1 [] [iv x] w (by decide) (Nat.le_refl _) (by decide) (by decide) rfl rfl (fun _ => rfl) (fun a e => by cases e) hcx h1x
    replace hcall : Calls Tryz.prog 32 #[.slice none 0 0, .int .i64 ((0 : Nat) : Int), .slice (some ⟨nb, 0, none⟩) 1 1] w fun e w' => e = .returned (.slice (some ⟨w.heap.size, 0, none⟩) (0 + 1) (grownCap w (0 + 1) 0 3)) ∧ w' = w.drew.alloc (.cells (([] ++ [iv x] : List Value).toArray ++ Builtin.zeroCells (Value.int .i64 0).cells (grownCap w (0 + 1) 0 3 - (0 + 1))) 3) := hcall
    generalize grownCap w (0 + 1) 0 3 = C at *
    refine hcall.mono ?_
    rintro e w' ⟨rfl, rfl⟩
    refine ⟨_, rfl, row _ _ _ _ hB (World.alloc_heap_new w.drew _) hc hc2 ?_ (by simp), ?_, fun k hk => ?_⟩
    · rw [Array.size_append, zc_size]
      simp
      omega
    · have := World.grownBy_alloc w.drew (.cells (([] ++ [iv x] : List Value).toArray ++ Builtin.zeroCells (Value.int .i64 0).cells (C - (0 + 1))) 3) none
      exact ⟨this.os, this.tape, this.output, this.size, this.block⟩
    · simp [Value.ownBlock] at hk
      right
      omega
  · subst e
    simp only [Nat.mul_one] at hs ht
    have hcell : ∀ j, w.cell? ⟨g, 0 + j, none⟩ = cur[j]? := fun j => by simp [World.cell?, hg]
    have hcl : (zs.map (Value.int .i64)).length = zs.length := List.length_map ..
    have hgn : g ≠ nb := fun e => hne (by rw [e]; rfl)
    have hglt : g < w.heap.size := (Array.getElem?_eq_some_iff.1 hg).1
    have hcs : ∀ j u, (zs.map (Value.int .i64))[j]? = some u → w.cell? ⟨g, 0 + j, none⟩ = some u := by
      intro j u hj
      rw [hcell]
      rw [← ht, List.getElem?_take] at hj
      split at hj
      · simpa using hj
      · cases hj
    have hsp : ∀ j, j < zs.length + 1 → zs.length + 1 ≤ cap → (w.cell? ⟨g, 0 + j, none⟩).isSome = true := by
      intro j hj hr
      rw [hcell, Array.getElem?_eq_getElem (by omega)]
      rfl
    have hfz : ∀ j, w.frozen? ⟨g, j, none⟩ = false := fun j => by simp [World.frozen?, hg]
    have hcap : cap ≤ 9223372036854775807 := by unfold maxLen at hm; omega
    have htk : cur.toList.take zs.length = zs.map (Value.int .i64) := ht
    by_cases hroom : zs.length + 1 ≤ cap
    · by_cases hin : i < zs.length
      · -- in the middle, with room
        refine (Any2.slices_Insert_int_shift Tryz.insertInts g 0 zs.length cap i nb 0 1 1 (zs.map (Value.int .i64)) [iv x] w hin (by decide) hroom hcap (fun e => hgn e.symm) hcl rfl hcs (fun j hj => hsp j hj hroom) (fun j _ => hfz _) hcx h1c h1x 3 3 1 cur.size (by simp [World.shape?, hnb]) (by simp [World.shape?, hg]) (by omega) (by simp [World.frozen?, hnb]) (by simp [World.frozen?, hnb])).mono ?_
        rintro e w' ⟨rfl, rfl⟩
        have hh := heap_setCells_same g 3 [iv x] (0 + i) _ _ (heap_setCells_same g 3 ((zs.map (Value.int .i64)).drop i) (0 + (i + 1)) w.drew cur hg)
        refine ⟨_, rfl, row _ _ _ _ hb hh hroom hm (by rw [putA_size, putA_size]; exact hs) ?_, ?_, fun k hk => .inl hk⟩
        · have hd : ((zs.map (Value.int .i64)).drop i).length = zs.length - i := by simp
          have hsz : (putA cur (0 + (i + 1)) ((zs.map (Value.int .i64)).drop i)).size = cap := by rw [putA_size]; exact hs
          rw [putA_list _ _ _ (by rw [hsz]; simp; omega), putA_list _ _ _ (by rw [hd]; omega), hd]
          simp only [Nat.zero_add, List.length_cons, List.length_nil]
          have hcl2 : cur.toList.length = cap := by simp [hs]
          have e1 : (cur.toList.take (i + 1)).take i = (zs.map (Value.int .i64)).take i := by
            rw [List.take_take, Nat.min_eq_left (by omega), ← htk, List.take_take, Nat.min_eq_left (by omega)]
          have e2 : (cur.toList.take (i + 1) ++ (zs.map (Value.int .i64)).drop i ++ cur.toList.drop (i + 1 + (zs.length - i))).take i = (zs.map (Value.int .i64)).take i := by
            rw [List.append_assoc, List.take_append_of_le_length (by simp; omega), e1]
          have e3 : (cur.toList.take (i + 1) ++ (zs.map (Value.int .i64)).drop i ++ cur.toList.drop (i + 1 + (zs.length - i))).drop (i + 1) = (zs.map (Value.int .i64)).drop i ++ cur.toList.drop (i + 1 + (zs.length - i)) := by
            rw [List.append_assoc]
            apply List.drop_left'
            simp
            omega
          rw [e2, e3, List.append_assoc]
          have := take_put (zs.map (Value.int .i64)) (iv x) i (cur.toList.drop (i + 1 + (zs.length - i))) (by simp; omega)
          rw [hcl] at this
          show (List.take i (zs.map (Value.int .i64)) ++ (iv x :: ([] ++ ((zs.map (Value.int .i64)).drop i ++ cur.toList.drop (i + 1 + (zs.length - i)))))).take (zs.length + 1) = _
          rw [List.nil_append, this]
          exact ints_map_put zs x i
        · have h5 := (grown_setCells g ((zs.map (Value.int .i64)).drop i) (0 + (i + 1)) w.drew).trans (grown_setCells g [iv x] (0 + i) _)
          exact ⟨h5.os, h5.tape, h5.output, h5.size, h5.block⟩
      · -- at the end, with room
        have hi2 : i = zs.length := by omega
        subst hi2
        refine (Any2.slices_Insert_int_end_room Tryz.insertInts g 0 zs.length cap nb 0 1 1 [iv x] w (by decide) hroom hcap rfl (fun j hj => ?_) (fun j _ => hfz _) hcx h1x).mono ?_
        · have := hsp (zs.length + j) (by omega) hroom
          rw [show 0 + zs.length + j = 0 + (zs.length + j) from by omega]
          exact this
        rintro e w' ⟨rfl, rfl⟩
        have hh := heap_setCells_same g 3 [iv x] (0 + zs.length) w cur hg
        refine ⟨_, rfl, row _ _ _ _ hb hh hroom hm (by rw [putA_size]; exact hs) ?_, grown_setCells _ _ _ _, fun k hk => .inl hk⟩
        rw [putA_list _ _ _ (by simp; omega)]
        simp only [Nat.zero_add, List.length_cons, List.length_nil]
        rw [htk, List.take_left' (by simp)]
        simp
    · have hc := grownCap_ge w (zs.length + 1) cap 3
      have hc2 := grownCap_le_maxLen w (zs.length + 1) cap 3 hml
      by_cases hin : i < zs.length
      · -- in the middle, a new row
        have hcall := Any2.slices_Insert_int_grow Tryz.insertInts g 0 zs.length cap i nb 0 1 1 (zs.map (Value.int .i64)) [iv x] w hin (by decide) hn (by omega) (by omega) hcl rfl hcs hcx h1c h1x
        replace hcall : Calls Tryz.prog 32 #[.slice (some ⟨g, 0, none⟩) zs.length cap, .int .i64 (i : Int), .slice (some ⟨nb, 0, none⟩) 1 1] w fun e w' => e = .returned (.slice (some ⟨w.heap.size, 0, none⟩) (zs.length + 1) (grownCap w (zs.length + 1) cap 3)) ∧ w' = (((w.alloc (.cells (((zs.map (Value.int .i64)).take i).toArray ++ Builtin.zeroCells (Value.int .i64 0).cells (zs.length + 1 - i) ++ Builtin.zeroCells (Value.int .i64 0).cells (grownCap w (zs.length + 1) cap 3 - (zs.length + 1))) 3)).drew.setCells w.heap.size i [iv x]).drew).setCells w.heap.size (i + 1) ((zs.map (Value.int .i64)).drop i) := hcall
        generalize grownCap w (zs.length + 1) cap 3 = C at *
        refine hcall.mono ?_
        rintro e w' ⟨rfl, rfl⟩
        obtain ⟨A, hA⟩ : ∃ A, ((zs.map (Value.int .i64)).take i).toArray ++ Builtin.zeroCells (Value.int .i64 0).cells (zs.length + 1 - i) ++ Builtin.zeroCells (Value.int .i64 0).cells (C - (zs.length + 1)) = A := ⟨_, rfl⟩
        have hAs : A.size = C := by
          rw [← hA, Array.size_append, Array.size_append, zc_size, zc_size]
          simp
          omega
        have hAt : A.toList.take i = (zs.map (Value.int .i64)).take i := by
          rw [← hA, Array.toList_append, Array.toList_append, List.append_assoc]
          rw [List.take_append_of_le_length (by simp; omega)]
          simp only [List.take_take, Nat.min_self]
        rw [hA]
        have hh := heap_setCells_same w.heap.size 3 ((zs.map (Value.int .i64)).drop i) (i + 1) ((w.alloc (.cells A 3)).drew.setCells w.heap.size i [iv x]).drew _ (heap_setCells_same w.heap.size 3 [iv x] i (w.alloc (.cells A 3)).drew A (World.alloc_heap_new w _))
        refine ⟨_, rfl, row _ _ _ _ hB hh hc hc2 (by rw [putA_size, putA_size]; exact hAs) ?_, ?_, fun k hk => ?_⟩
        · have hd : ((zs.map (Value.int .i64)).drop i).length = zs.length - i := by simp
          have hsz : (putA A i [iv x]).size = C := by rw [putA_size]; exact hAs
          rw [putA_list _ _ _ (by rw [hsz, hd]; omega), putA_list _ _ _ (by simp; omega), hd, hAt]
          simp only [List.length_cons, List.length_nil]
          have hti : ((zs.map (Value.int .i64)).take i).length = i := by simp; omega
          have e1 : ((zs.map (Value.int .i64)).take i ++ [iv x] ++ A.toList.drop (i + (0 + 1))).take (i + 1) = (zs.map (Value.int .i64)).take i ++ [iv x] := by
            apply List.take_left'
            simp
            omega
          rw [e1]
          have := take_put (zs.map (Value.int .i64)) (iv x) i ((((zs.map (Value.int .i64)).take i ++ [iv x] ++ A.toList.drop (i + (0 + 1)))).drop (i + 1 + (zs.length - i))) (by simp; omega)
          rw [hcl] at this
          rw [List.append_assoc, List.append_assoc]
          show (List.take i (zs.map (Value.int .i64)) ++ (iv x :: ([] ++ _))).take (zs.length + 1) = _
          rw [List.nil_append, this]
          exact ints_map_put zs x i
        · have h4 := World.grownBy_alloc w (.cells A 3) none
          have h5 := (grown_setCells w.heap.size [iv x] i (w.alloc (.cells A 3)).drew).trans (show ((w.alloc (.cells A 3)).drew.setCells w.heap.size i [iv x]).grownBy _ (some w.heap.size) from ⟨(grown_setCells w.heap.size ((zs.map (Value.int .i64)).drop i) (i + 1) (((w.alloc (.cells A 3)).drew.setCells w.heap.size i [iv x]).drew)).os, (grown_setCells w.heap.size ((zs.map (Value.int .i64)).drop i) (i + 1) (((w.alloc (.cells A 3)).drew.setCells w.heap.size i [iv x]).drew)).tape, (grown_setCells w.heap.size ((zs.map (Value.int .i64)).drop i) (i + 1) (((w.alloc (.cells A 3)).drew.setCells w.heap.size i [iv x]).drew)).output, (grown_setCells w.heap.size ((zs.map (Value.int .i64)).drop i) (i + 1) (((w.alloc (.cells A 3)).drew.setCells w.heap.size i [iv x]).drew)).size, (grown_setCells w.heap.size ((zs.map (Value.int .i64)).drop i) (i + 1) (((w.alloc (.cells A 3)).drew.setCells w.heap.size i [iv x]).drew)).block⟩)
          refine ⟨h5.os.trans h4.os, h5.tape.trans h4.tape, h5.output.trans h4.output, Nat.le_trans h4.size h5.size, fun k hk _ => (h5.block k (Nat.lt_of_lt_of_le hk h4.size) (fun e => ?_)).trans (h4.block k hk (by simp))⟩
          have := Option.some.inj e
          omega
        · simp [Value.ownBlock] at hk
          right
          omega
      · -- at the end, a new row
        have hi2 : i = zs.length := by omega
        subst hi2
        have hcall := Any2.slices_Insert_int_end_grow Tryz.insertInts (some ⟨g, 0, none⟩) zs.length cap nb 0 1 1 (zs.map (Value.int .i64)) [iv x] w (by decide) hn (by omega) (by omega) hcl rfl (fun e => by cases e) (fun a e j u hj => by cases e; rw [Addr.add_lit]; exact hcs j u hj) hcx h1x
        replace hcall : Calls Tryz.prog 32 #[.slice (some ⟨g, 0, none⟩) zs.length cap, .int .i64 (zs.length : Int), .slice (some ⟨nb, 0, none⟩) 1 1] w fun e w' => e = .returned (.slice (some ⟨w.heap.size, 0, none⟩) (zs.length + 1) (grownCap w (zs.length + 1) cap 3)) ∧ w' = w.drew.alloc (.cells ((zs.map (Value.int .i64) ++ [iv x]).toArray ++ Builtin.zeroCells (Value.int .i64 0).cells (grownCap w (zs.length + 1) cap 3 - (zs.length + 1))) 3) := hcall
        generalize grownCap w (zs.length + 1) cap 3 = C at *
        refine hcall.mono ?_
        rintro e w' ⟨rfl, rfl⟩
        refine ⟨_, rfl, row _ _ _ _ hB (World.alloc_heap_new w.drew _) hc hc2 ?_ ?_, ?_, fun k hk => ?_⟩
        · rw [Array.size_append, zc_size]
          simp
          omega
        · rw [Array.toList_append, List.take_append_of_le_length (by simp)]
          rw [List.take_length, List.drop_length]
          rw [List.take_of_length_le (by simp)]
          simp
        · have := World.grownBy_alloc w.drew (.cells ((zs.map (Value.int .i64) ++ [iv x]).toArray ++ Builtin.zeroCells (Value.int .i64 0).cells (C - (zs.length + 1))) 3) none
          exact ⟨this.os, this.tape, this.output, this.size, fun k hk _ => this.block k hk (by simp)⟩
        · simp [Value.ownBlock] at hk
          right
          omega
end Go.Proofs.YthgkloapnihpaaaGreat

/- Graphs: an edge laid in, in memory. -/
namespace Go.Proofs.YthgkloapnihpaaaGreat
open Go.RowKit Go.Maps Go.WideMaps Go.WideElems Go.ChangeShapes Go.WideShapes

theorem edR_put {E : List Ed} {a b k a' b' : Int} : EdR (putE E (a, b, k)) a' b' ↔ EdR E a' b' ∨ (a' = a ∧ b' = b) := by
  constructor
  · rintro ⟨q, hq⟩
    rcases mem_putE.1 hq with h | h
    · injection h with h1 h2
      injection h2 with h2 h3
      exact .inr ⟨h1, h2⟩
    · exact .inl ⟨q, h⟩
  · rintro (⟨q, hq⟩ | ⟨rfl, rfl⟩)
    · exact ⟨q, mem_putE.2 (.inr hq)⟩
    · exact ⟨k, mem_putE.2 (.inl rfl)⟩
theorem kinds_other {E : List Ed} (hE : RiseE E) {a b k a' b' : Int} (h : ¬ (a' = a ∧ b' = b)) : kindsE (putE E (a, b, k)) a' b' = kindsE E a' b' := by
  refine riseI_ext (rise_kindsE (rise_putE hE _) a' b') (rise_kindsE hE a' b') fun q => ?_
  rw [mem_kindsE, mem_kindsE, mem_putE]
  constructor
  · rintro (e | e)
    · injection e with h1 h2
      injection h2 with h2 h3
      exact absurd ⟨h1, h2⟩ h
    · exact e
  · exact .inr
theorem putI_new {l : List Int} {x : Int} (hx : x ∉ l) : putI l x = l.take (lessN x l) ++ x :: l.drop (lessN x l) := by
  unfold putI
  rw [if_neg]
  rintro ⟨h1, h2⟩
  apply hx
  rw [List.getD_eq_getElem?_getD, List.getElem?_eq_getElem h1] at h2
  rw [← h2]
  exact List.getElem_mem h1
theorem kinds_new {E : List Ed} (hE : RiseE E) {a b k : Int} (hk : k ∉ kindsE E a b) : kindsE (putE E (a, b, k)) a b = (kindsE E a b).take (lessN k (kindsE E a b)) ++ k :: (kindsE E a b).drop (lessN k (kindsE E a b)) := by
  rw [← putI_new hk]
  refine riseI_ext (rise_kindsE (rise_putE hE _) a b) (rise_putI k (rise_kindsE hE a b)) fun q => ?_
  rw [mem_kindsE, mem_putE, mem_putI, mem_kindsE]
  constructor
  · rintro (e | e)
    · injection e with h1 h2
      injection h2 with h2 h3
      exact .inl h3
    · exact .inr e
  · rintro (rfl | e)
    · exact .inl rfl
    · exact .inr e
section
variable {B g ob c : Nat} {DO : DV} {F : Int → Nat} {DI : Int → DV} {f : Int → Int → Value} {N : List Int} {E : List Ed} {W W6 : World}
/-- A row that grows leaves the maps as they were. -/
theorem GrIn.row_grown (h : GrIn B g ob c DO F DI f N E W) {a b : Int} (ha : a ∈ N) (hb : fit64 b) (hg : W.grownBy W6 (f a b).ownBlock) (hbox : (f a b).ownBlock ≠ some g) : Boxed W6 g 73 (.map (some ob)) ∧ DomAt Tryz.prog 3 il fit64 asIs ob c N DO W6 ∧ ∀ a' ∈ N, DomAt Tryz.prog 3 il fit64 asIs (F a') c (outsE N E a') (DI a') W6 := by
  refine ⟨boxed_kept h.box hg (fun e => hbox e.symm), h.dom.kept hg (fun e => h.row_off ha hb e.symm), fun a' ha' => (h.domI a' ha').kept hg (fun e => ?_)⟩
  obtain ⟨o, h1, h2⟩ := dom_obj (h.domI a' ha')
  exact row_no (h.row a ha b hb).1 h1 h2 e.symm
/-- An edge laid in. -/
theorem GrIn.edge (h : GrIn B g ob c DO F DI f N E W) {a b k : Int} (ha : a ∈ N) (hb : b ∈ N) (fb : fit64 b) (hk : k ∉ kindsE E a b) (hc : c < maxLen) (hg : W.grownBy W6 (f a b).ownBlock) (hbox : (f a b).ownBlock ≠ some g) {v6 : Value}
    (hown : W6.ownsInts B 3 .i64 v6 ((kindsE E a b).take (lessN k (kindsE E a b)) ++ k :: (kindsE E a b).drop (lessN k (kindsE E a b)))) (hloc : ∀ q, v6.ownBlock = some q → (f a b).ownBlock = some q ∨ W.heap.size ≤ q) :
    ∃ W7, (Instr.mapUpdate 74 (.map (some (F a))) (iv b) v6).run Tryz.prog W6 = .ok () W7 ∧
      GrIn B g ob (c + 1) DO F (fun x => if x = a then (DI a).put (il b) (.held v6) else DI x) (fun x y => if x = a ∧ y = b then v6 else f x y) N (putE E (a, b, k)) W7 ∧ W6.grownBy W7 (some (F a)) := by
  obtain ⟨hbox6, hdom6, hdomI6⟩ := h.row_grown ha fb hg hbox
  have hends : EndsIn N (putE E (a, b, k)) := fun x y hxy => by
    rcases edR_put.1 hxy with g1 | ⟨rfl, rfl⟩
    · exact h.ends x y g1
    · exact ⟨ha, hb⟩
  obtain ⟨W7, hrun, hd7, hg7⟩ := put_as (hdomI6 a ha) Tryz.underlying74 hc fb v6 (L' := outsE N (putE E (a, b, k)) a) (fun y => by
    rw [mem_outsE hends, mem_outsE h.ends, edR_put]
    simp)
  have outs_other : ∀ x, x ≠ a → outsE N (putE E (a, b, k)) x = outsE N E x := fun x hx => by
    refine riseI_ext (h.nodes.filter _) (h.nodes.filter _) fun y => ?_
    rw [mem_outsE hends, mem_outsE h.ends, edR_put]
    simp [hx]
  have hFo : ∃ o, W6.heap[F a]? = some o ∧ o.isCells = false := dom_obj (hdomI6 a ha)
  have fresh : ∀ x ∈ N, ∀ y, fit64 y → ¬ (x = a ∧ y = b) → ∀ q, v6.ownBlock = some q → (f x y).ownBlock ≠ some q := by
    intro x hx y hy hne q hq e2
    rcases hloc q hq with g1 | g1
    · exact hne (h.apR x hx a ha y b hy fb q e2 g1)
    · have h2 := (World.ownsRow.lt (h.row x hx y hy).1 q e2).2
      omega
  have keep7 : ∀ {v : Value} {zs : List Int}, W6.ownsInts B 3 .i64 v zs → W7.ownsInts B 3 .i64 v zs := fun {v zs} ho => by
    obtain ⟨o, h1, h2⟩ := hFo
    refine ho.kept hg7 ?_
    cases hf : v.ownBlock with
    | none => exact .inl rfl
    | some q => exact .inr fun e => row_no ho.1 h1 h2 (hf.trans e)
  refine ⟨W7, hrun, ⟨boxed_kept hbox6 hg7 (fun e => ?_), (hdom6.kept hg7 (fun e => h.neF a ha (Option.some.inj e).symm)).up (Nat.le_succ _), h.atO, fun x hx => ?_, fun x hx y hy => ?_, fun x hx y hy => ?_, hends, h.nodes, rise_putE h.edges _, h.apF, h.neF, fun x hx x' hx' y y' hy hy' q h2 h3 => ?_⟩, hg7⟩
  · obtain ⟨o, h1, h2⟩ := hFo
    have h3 := hbox6
    rw [Option.some.inj e] at h3
    rw [show W6.heap[F a]? = _ from h3] at h1
    cases h1
    cases h2
  · by_cases e : x = a
    · subst e
      simp only [if_true]
      exact hd7
    · simp only [e, if_false]
      rw [outs_other x e]
      exact ((hdomI6 x hx).kept hg7 (fun e2 => e (h.apF x hx a ha (Option.some.inj e2)))).up (Nat.le_succ _)
  · by_cases e : x = a
    · subst e
      simp only [if_true, true_and]
      rw [at_put (hdomI6 x hx) fb hy, h.atI x hx y hy]
      split <;> rfl
    · simp only [e, if_false, false_and]
      exact h.atI x hx y hy
  · by_cases e : x = a ∧ y = b
    · rw [if_pos e]
      obtain ⟨rfl, rfl⟩ := e
      rw [kinds_new h.edges hk]
      exact keep7 hown
    · rw [if_neg e, kinds_other h.edges e]
      refine keep7 ((h.row x hx y hy).kept hg ?_)
      cases hf : (f x y).ownBlock with
      | none => exact .inl rfl
      | some q => exact .inr fun e2 => e (h.apR x hx a ha y b hy fb q hf e2.symm)
  · by_cases e : x = a ∧ y = b
    · rw [if_pos e] at h2
      by_cases e' : x' = a ∧ y' = b
      · exact ⟨e.1.trans e'.1.symm, e.2.trans e'.2.symm⟩
      · rw [if_neg e'] at h3
        exact absurd h3 (fresh x' hx' y' hy' e' q h2)
    · rw [if_neg e] at h2
      by_cases e' : x' = a ∧ y' = b
      · rw [if_pos e'] at h3
        exact absurd h2 (fresh x hx y hy e q h3)
      · rw [if_neg e'] at h3
        exact h.apR x hx x' hx' y y' hy hy' q h2 h3
end
end Go.Proofs.YthgkloapnihpaaaGreat

/- Graphs: Edge, by a contract. -/
namespace Go.Proofs.YthgkloapnihpaaaGreat
open Go.RowKit Go.Maps Go.WideMaps Go.WideElems Go.ChangeShapes Go.WideShapes

theorem stepD {w V : World} (h : Below w.heap.size w V) : Below w.heap.size w V.drew := h.drew
theorem stepA {w V : World} (h : Below w.heap.size w V) (o : Obj) : Below w.heap.size w (V.alloc o) := h.alloc h.size o
theorem stepB {a b c : World} (h : Below a.heap.size a b) (k : Below b.heap.size b c) : Below a.heap.size a c := h.trans (k.mono h.size)
theorem GrAt.up {Z : Nat → Prop} {B g c c' : Nat} {N : List Int} {E : List Ed} {W : World} (h : GrAt Z B g c N E W) (hc : c ≤ c') : GrAt Z B g c' N E W := by
  obtain ⟨ob, DO, F, DI, f, h, hz⟩ := h
  exact ⟨ob, DO, F, DI, f, ⟨h.box, h.dom.up hc, h.atO, fun a ha => (h.domI a ha).up hc, h.atI, h.row, h.ends, h.nodes, h.edges, h.apF, h.neF, h.apR⟩, hz⟩
theorem GrIn.row_box {B g ob c : Nat} {DO : DV} {F : Int → Nat} {DI : Int → DV} {f : Int → Int → Value} {N : List Int} {E : List Ed} {W : World} (h : GrIn B g ob c DO F DI f N E W) {a b : Int} (ha : a ∈ N) (hb : fit64 b) : (f a b).ownBlock ≠ some g := by
  intro e
  rcases (h.row a ha b hb).1.2 with ⟨e1, _⟩ | ⟨q, cap, cur, e1, _, hq, _⟩
  · rw [e1] at e
    simp [Value.ownBlock] at e
  · rw [e1] at e
    have e2 : q = g := by simpa [Value.ownBlock] using e
    rw [e2] at hq
    have h3 := h.box
    rw [show W.heap[g]? = _ from h3] at hq
    cases hq
set_option maxHeartbeats 16000000 in
set_option maxRecDepth 100000 in
theorem edge_in {Z : Nat → Prop} {B g c : Nat} {N : List Int} {E : List Ed} (a b k : Int) (ha : fit64 a) (hb : fit64 b) (hc : c ≤ 100000) (hE : E.length ≤ 100000) (hk : (a, b, k) ∈ E) (w : World) (h : GrAt Z B g c N E w) :
    Calls Tryz.prog 19 #[.pointer (some ⟨g, 0, none⟩), iv a, iv b, iv k] w fun e w' => e = .returned (.bool false) ∧ Hid (GrAt (More Z w w') B g (c + 3) (putI (putI N a) b) (putE E (a, b, k)) w' ∧ Off Z w w') := by
  have HN1 := Lib.hid (node_any a ha (show c < maxLen by unfold maxLen; omega) w h)
  have Hk := Lib.hid hk
  have Ha := Lib.hid ha
  have Hb := Lib.hid hb
  have HE : Hid (E.length ≤ 100000) := hE
  have Hc : Hid (c ≤ 100000) := hc
  clear h hk ha hb hc hE
  go_enter Tryz.func19, Tryz.ntmps19
  go_wp2_with (first
    | (go_at_call 20; (with_reducible refine HN1.out.mono ?_); rintro e w1 ⟨rfl, S1⟩; have HN2 := Lib.hid (node_any b Hb.out (show c + 1 < maxLen by have := Hc.out; unfold maxLen; omega) w1 S1.out.1))
    | (go_at_call 20; (with_reducible refine HN2.out.mono ?_); rintro e w2 ⟨rfl, S2⟩
       obtain ⟨ob, DO, F, DI, f, h2, hZ⟩ := S2.out.1
       have c0 := h2.box.cell
       obtain ⟨m, v, l1, l2, ho⟩ := h2.rowAt Ha.out Hb.out
       have HS := Lib.hid (search_row k w2 ho (rise_kindsE h2.edges a b) (Nat.le_trans (kinds_len E a b) HE.out))
       rw [decide_eq_true (mem_kindsE.2 Hk.out)] at HS
       clear ho hZ)
    | (go_at_call 31; (with_reducible refine HS.out.mono ?_); rintro e w3 ⟨rfl, S3⟩))
  go_ret
  have e1 : putE E (a, b, k) = E := if_pos Hk.out
  rw [e1]
  have hs1 := S1.out.2.size
  have hs2 := S2.out.2.size
  have hs3 := S3.out.size
  refine ⟨rfl, ((S2.out.1.below S3.out).up (by omega)).mono fun q hq => ?_, (S1.out.2.trans S2.out.2).trans (Off.below S3.out)⟩
  rcases hq with (hq | hq) | hq
  · exact .inl hq
  · exact .inr ⟨hq.1, by omega⟩
  · exact .inr ⟨by omega, by omega⟩
set_option maxHeartbeats 32000000 in
set_option maxRecDepth 100000 in
theorem edge_new {Z : Nat → Prop} {B g c : Nat} {N : List Int} {E : List Ed} (a b k : Int) (ha : fit64 a) (hb : fit64 b) (hkf : fit64 k) (hc : c ≤ 100000) (hE : E.length ≤ 100000) (hk : (a, b, k) ∉ E) (w : World) (hB : B ≤ w.heap.size) (h : GrAt Z B g c N E w) :
    Calls Tryz.prog 19 #[.pointer (some ⟨g, 0, none⟩), iv a, iv b, iv k] w fun e w' => e = .returned (.bool true) ∧ Hid (GrAt (More Z w w') B g (c + 3) (putI (putI N a) b) (putE E (a, b, k)) w' ∧ Off Z w w') := by
  have HN1 := Lib.hid (node_any a ha (show c < maxLen by unfold maxLen; omega) w h)
  have Hnk : Hid (k ∉ kindsE E a b) := fun g => hk (mem_kindsE.1 g)
  have Ha := Lib.hid ha
  have Hb := Lib.hid hb
  have Hk := Lib.hid hkf
  have Hkl : Hid ((kindsE E a b).length ≤ 100000) := Nat.le_trans (kinds_len E a b) hE
  have Hc : Hid (c ≤ 100000) := hc
  have HB : Hid (B ≤ w.heap.size) := hB
  have hk0 : (0 : Int) ≤ (lessN k (kindsE E a b) : Int) := by omega
  clear h hk ha hb hc hE hkf hB
  go_enter Tryz.func19, Tryz.ntmps19
  go_wp2_with (first
    | (go_at_call 20; (with_reducible refine HN1.out.mono ?_); rintro e w1 ⟨rfl, S1⟩; have HN2 := Lib.hid (node_any b Hb.out (show c + 1 < maxLen by have := Hc.out; unfold maxLen; omega) w1 S1.out.1))
    | (go_at_call 20; (with_reducible refine HN2.out.mono ?_); rintro e w2 ⟨rfl, S2⟩
       obtain ⟨ob, DO, F, DI, f, h2, hZ⟩ := S2.out.1
       have HaN : Hid (a ∈ putI (putI N a) b) := mem_putI.2 (.inr (mem_putI.2 (.inl rfl)))
       have HbN : Hid (b ∈ putI (putI N a) b) := mem_putI.2 (.inl rfl)
       have c0 := h2.box.cell
       have l1 := look_as h2.dom Tryz.underlying71 (zero65 w2) Ha.out ((h2.atO a Ha.out).trans (by rw [if_pos HaN.out]))
       have l2 := look_as (h2.domI a HaN.out) Tryz.underlying74 (zero23 w2) Hb.out (h2.atI a HaN.out b Hb.out)
       have HG2 := Lib.hid h2
       have HZ2 := Lib.hid hZ
       have HS := Lib.hid (search_row k w2 (h2.row a HaN.out b Hb.out) (rise_kindsE h2.edges a b) Hkl.out)
       rw [decide_eq_false Hnk.out] at HS
       clear hZ h2)
    | (go_at_call 31; (with_reducible refine HS.out.mono ?_); rintro e w3 ⟨rfl, S3⟩))
  have HG3 := Lib.hid (HG2.out.kept (grown_below S3.out) (fun k e => by cases e))
  have HX : Hid (∀ V, Below w3.heap.size w3 V → (V.cell? ⟨g, 0, none⟩ = some (.map (some ob)) ∧ (Instr.lookup 71 (.map (some ob)) (iv a) false).run Tryz.prog V = .ok (.map (some (F a))) V) ∧ (Instr.lookup 74 (.map (some (F a))) (iv b) false).run Tryz.prog V = .ok (f a b) V) := fun V hV => by
    have hh := HG3.out.kept (grown_below hV) (fun k e => by cases e)
    exact ⟨⟨hh.box.cell, look_as hh.dom Tryz.underlying71 (zero65 V) Ha.out ((hh.atO a Ha.out).trans (by rw [if_pos HaN.out]))⟩, look_as (hh.domI a HaN.out) Tryz.underlying74 (zero23 V) Hb.out (hh.atI a HaN.out b Hb.out)⟩
  have HIns := Lib.hid (fun V (hV : Below w3.heap.size w3 V) (hn : V.heap[w3.heap.size]? = some (.cells #[iv k] 3)) => insert_row k (lessN k (kindsE E a b)) w3.heap.size V ((HG3.out.kept (grown_below hV) (fun k e => by cases e)).row a HaN.out b Hb.out) Hk.out (lessN_le _ _) Hkl.out (by have := HB.out; have := S1.out.2.size; have := S2.out.2.size; have := S3.out.size; have := hV.size; omega) hn (fun e => by have := ((HG3.out.row a HaN.out b Hb.out).1.lt _ e).2; omega))
  clear c0 l1 l2
  have HS0 := (HX.out w3.drew (Below.refl _ _).drew).1
  refine wp_region_held_drew (S := fun w' => w'.cell? ⟨g, 0, none⟩ = some (.map (some ob)) ∧ (Instr.lookup 71 (.map (some ob)) (iv a) false).run Tryz.prog w' = .ok (.map (some (F a))) w') (by kernel_rfl) HS0 (fun hHeld => ?_)
  refine held_take 0 (some 31) ?_ rfl rfl (by kernel_rfl) (by kernel_rfl) (by kernel_rfl) (fun _ _ _ h => h) (by kernel_rfl) ?_ (by assumption) ?_
  rotate_left
  · intro w hSw; (try dsimp only at hSw); go_simp <;> (try with_reducible rfl)
  simp only [Act.put, List.setIfInBounds_toArray, List.set_cons_zero, List.set_cons_succ]
  refine held_take 1 (some 32) ?_ rfl rfl (by kernel_rfl) (by kernel_rfl) (by kernel_rfl) (fun _ _ _ h => h) (by kernel_rfl) ?_ (by assumption) ?_
  rotate_left
  · intro w hSw; (try dsimp only at hSw); go_simp <;> (try with_reducible rfl)
  simp only [Act.put, List.setIfInBounds_toArray, List.set_cons_zero, List.set_cons_succ]
  refine held_take 2 (some 33) ?_ rfl rfl (by kernel_rfl) (by kernel_rfl) (by kernel_rfl) (fun _ _ _ h => h) (by kernel_rfl) ?_ (by assumption) ?_
  rotate_left
  · intro w hSw; (try dsimp only at hSw); go_simp <;> (try with_reducible rfl)
  simp only [Act.put, List.setIfInBounds_toArray, List.set_cons_zero, List.set_cons_succ]
  refine held_take 3 (some 34) ?_ rfl rfl (by kernel_rfl) (by kernel_rfl) (by kernel_rfl) (fun _ _ _ h => h) (by kernel_rfl) ?_ (by assumption) ?_
  rotate_left
  · intro w hSw; (try dsimp only at hSw); go_simp <;> (try with_reducible rfl)
  simp only [Act.put, List.setIfInBounds_toArray, List.set_cons_zero, List.set_cons_succ]
  refine held_take 4 (some 35) ?_ rfl rfl (by kernel_rfl) (by kernel_rfl) (by kernel_rfl) (fun _ _ _ h => h) (by kernel_rfl) ?_ (by assumption) ?_
  rotate_left
  · intro w hSw; (try dsimp only at hSw); go_simp <;> (try with_reducible rfl)
  simp only [Act.put, List.setIfInBounds_toArray, List.set_cons_zero, List.set_cons_succ]
  refine held_take 5 (some 36) ?_ rfl rfl (by kernel_rfl) (by kernel_rfl) (by kernel_rfl) (fun _ _ _ h => h) (by kernel_rfl) ?_ (by assumption) ?_
  rotate_left
  · intro w hSw; (try dsimp only at hSw); go_simp <;> (try with_reducible rfl)
  simp only [Act.put, List.setIfInBounds_toArray, List.set_cons_zero, List.set_cons_succ]
  refine held_take 6 (some 37) ?_ rfl rfl (by kernel_rfl) (by kernel_rfl) (by kernel_rfl) (fun _ _ _ h => h) (by kernel_rfl) ?_ (by assumption) ?_
  rotate_left
  · intro w hSw; (try dsimp only at hSw); go_simp <;> (try with_reducible rfl)
  simp only [Act.put, List.setIfInBounds_toArray, List.set_cons_zero, List.set_cons_succ]
  refine held_take 7 (some 38) ?_ rfl rfl (by kernel_rfl) (by kernel_rfl) (by kernel_rfl) (fun _ _ _ h => h) (by kernel_rfl) ?_ (by assumption) ?_
  rotate_left
  · intro w hSw; (try dsimp only at hSw); go_simp <;> (try with_reducible rfl)
  simp only [Act.put, List.setIfInBounds_toArray, List.set_cons_zero, List.set_cons_succ]
  refine held_take 8 (some 39) ?_ rfl rfl (by kernel_rfl) (by kernel_rfl) (by kernel_rfl) (fun _ _ _ h => h) (by kernel_rfl) ?_ (by assumption) ?_
  rotate_left
  · intro w hSw; (try dsimp only at hSw); go_simp <;> (try with_reducible rfl)
  simp only [Act.put, List.setIfInBounds_toArray, List.set_cons_zero, List.set_cons_succ]
  refine held_take 9 (some 40) ?_ rfl rfl (by kernel_rfl) (by kernel_rfl) (by kernel_rfl) (fun _ _ _ h => h) (by kernel_rfl) ?_ (by assumption) ?_
  rotate_left
  · intro w hSw; (try dsimp only at hSw); go_simp <;> (try with_reducible rfl)
  simp only [Act.put, List.setIfInBounds_toArray, List.set_cons_zero, List.set_cons_succ]
  refine held_take 10 (some 41) ?_ rfl rfl (by kernel_rfl) (by kernel_rfl) (by kernel_rfl) (fun _ _ _ h => h) (by kernel_rfl) ?_ (by assumption) ?_
  rotate_left
  · intro w hSw; (try dsimp only at hSw); go_simp <;> (try with_reducible rfl)
  simp only [Act.put, List.setIfInBounds_toArray, List.set_cons_zero, List.set_cons_succ]
  refine held_take 11 (some 42) ?_ rfl rfl (by kernel_rfl) (by kernel_rfl) (by kernel_rfl) (fun _ _ _ h => h) (by kernel_rfl) ?_ (by assumption) ?_
  rotate_left
  · intro w hSw; (try dsimp only at hSw); go_simp <;> (try with_reducible rfl)
  simp only [Act.put, List.setIfInBounds_toArray, List.set_cons_zero, List.set_cons_succ]
  refine held_take 12 (some 43) ?_ rfl rfl (by kernel_rfl) (by kernel_rfl) (by kernel_rfl) (fun _ _ _ h => h) (by kernel_rfl) ?_ (by assumption) ?_
  rotate_left
  · intro w hSw; (try dsimp only at hSw); go_simp <;> (try with_reducible rfl)
  simp only [Act.put, List.setIfInBounds_toArray, List.set_cons_zero, List.set_cons_succ]
  refine held_take 13 (some 44) ?_ rfl rfl (by kernel_rfl) (by kernel_rfl) (by kernel_rfl) (fun _ _ _ h => h) (by kernel_rfl) ?_ (by assumption) ?_
  rotate_left
  · intro w hSw; (try dsimp only at hSw); go_simp <;> (try with_reducible rfl)
  simp only [Act.put, List.setIfInBounds_toArray, List.set_cons_zero, List.set_cons_succ]
  refine held_take 15 (some 46) ?_ rfl rfl (by kernel_rfl) (by kernel_rfl) (by kernel_rfl) (fun _ _ _ h => h) (by kernel_rfl) ?_ (by assumption) ?_
  rotate_left
  · intro w hSw; (try dsimp only at hSw); go_simp <;> (try with_reducible rfl)
  simp only [Act.put, List.setIfInBounds_toArray, List.set_cons_zero, List.set_cons_succ]
  refine held_take 16 (some 47) ?_ rfl rfl (by kernel_rfl) (by kernel_rfl) (by kernel_rfl) (fun _ _ _ h => h) (by kernel_rfl) ?_ (by assumption) ?_
  rotate_left
  · intro w hSw; (try dsimp only at hSw); go_simp <;> (try with_reducible rfl)
  simp only [Act.put, List.setIfInBounds_toArray, List.set_cons_zero, List.set_cons_succ]

  refine wpAnyH_ready (rs := [14, 17]) (by kernel_rfl) (by simp) (AllReadyH.cons rfl (fun K hK => ?_) (AllReadyH.cons rfl (fun K hK => ?_) AllReadyH.nil))
  · have l2 := (HX.out w3.drew (Below.refl _ _).drew).2
    go_simp
    clear l2
    refine hK.out _ _ (HX.out _ (by first | exact Below.refl _ _ | exact stepD (Below.refl _ _) | exact stepA (stepD (Below.refl _ _)) _ | exact stepA (Below.refl _ _) _ | exact stepD (stepA (Below.refl _ _) _))).1 (fun hHeld => ?_)
    clear hK K
    try simp only [Act.put, List.setIfInBounds_toArray, List.set_cons_zero, List.set_cons_succ]
    refine wpAnyH_ready (rs := [17]) (by kernel_rfl) (by simp) (AllReadyH.cons rfl (fun K hK => ?_) AllReadyH.nil)
    go_simp
    refine hK.out _ _ (HX.out _ (by first | exact Below.refl _ _ | exact stepD (Below.refl _ _) | exact stepA (stepD (Below.refl _ _)) _ | exact stepA (Below.refl _ _) _ | exact stepD (stepA (Below.refl _ _) _))).1 (fun hHeld => ?_)
    clear hK K
    try simp only [Act.put, List.setIfInBounds_toArray, List.set_cons_zero, List.set_cons_succ]
    refine wpAnyH_ready (rs := [18]) (by kernel_rfl) (by simp) (AllReadyH.cons rfl (fun K hK => ?_) AllReadyH.nil)
    go_simp
    go_at_call 32
    obtain ⟨V, hV⟩ : ∃ V, (w3.alloc (.cells #[iv k] 3)).drew = V := ⟨_, rfl⟩
    have BV : Hid (Below w3.heap.size w3 V) := by show Below _ _ _; rw [← hV]; exact stepD (stepA (Below.refl _ _) _)
    have HVN : Hid (V.heap[w3.heap.size]? = some (.cells #[iv k] 3)) := by show _ = _; rw [← hV]; exact World.alloc_heap_new w3 _
    have HIV := Lib.hid (HIns.out V BV.out HVN.out)
    have HGV := Lib.hid (HG3.out.kept (grown_below BV.out) (fun k e => by cases e))
    rw [hV]
    clear hV
    (with_reducible refine HIV.out.mono ?_); rintro e w6 ⟨v6, rfl, h6⟩
    have hbx := HGV.out.row_box HaN.out Hb.out
    obtain ⟨W7, hup, hG7, hgr7⟩ := HGV.out.edge HaN.out HbN.out Hb.out Hnk.out (show c + 1 + 1 < maxLen by have := Hc.out; unfold maxLen; omega) h6.out.2.1 hbx h6.out.1 h6.out.2.2
    have HG7 := Lib.hid hG7
    have Hgr7 := Lib.hid hgr7
    have H6 := Lib.hid h6.out
    have HS6 : Hid (w6.cell? ⟨g, 0, none⟩ = some (.map (some ob)) ∧ (Instr.lookup 71 (.map (some ob)) (iv a) false).run Tryz.prog w6 = .ok (.map (some (F a))) w6) := by
      obtain ⟨r1, r2, -⟩ := HGV.out.row_grown HaN.out Hb.out h6.out.2.1 hbx
      exact ⟨r1.cell, look_as r2 Tryz.underlying71 (zero65 w6) Ha.out ((HGV.out.atO a Ha.out).trans (by rw [if_pos HaN.out]))⟩
    have HS7 : Hid (W7.cell? ⟨g, 0, none⟩ = some (.map (some ob)) ∧ (Instr.lookup 71 (.map (some ob)) (iv a) false).run Tryz.prog W7 = .ok (.map (some (F a))) W7) := ⟨HG7.out.box.cell, look_as HG7.out.dom Tryz.underlying71 (zero65 W7) Ha.out ((HG7.out.atO a Ha.out).trans (by rw [if_pos HaN.out]))⟩
    clear hG7 hgr7 h6 hbx
    go_wp2_with fail
    refine hK.out _ _ HS6.out (fun hHeld => ?_)
    clear hK K
    try simp only [Act.put, List.setIfInBounds_toArray, List.set_cons_zero, List.set_cons_succ]
    refine wpAnyH_ready (rs := [19]) (by kernel_rfl) (by simp) (AllReadyH.cons rfl (fun K hK => ?_) AllReadyH.nil)
    go_simp
    refine hK.out _ _ HS7.out (fun hHeld => ?_)
    clear hK K
    try simp only [Act.put]
    refine wpAnyH_done (by kernel_rfl) ?_ _
    clear hHeld hup
    go_wp2
    go_ret
    have hs1 := S1.out.2.size
    have hs2 := S2.out.2.size
    have hs3 := S3.out.size
    have hsV := BV.out.size
    have hs6 := H6.out.2.1.size
    have hs7 := Hgr7.out.size
    refine ⟨rfl, ⟨ob, _, _, _, _, HG7.out, fun q hq => ?_⟩, ((S1.out.2.trans S2.out.2).trans (Off.below (S3.out.trans (BV.out.mono hs3)))).trans ⟨Hgr7.out.os.trans H6.out.2.1.os, Hgr7.out.tape.trans H6.out.2.1.tape, Hgr7.out.output.trans H6.out.2.1.output, by omega, fun q hq hz => ?_⟩⟩
    · have back : ∀ q, More (More Z w w1) w1 w2 q → More Z w W7 q := fun q hq => by
        rcases hq with (hq | hq) | hq
        · exact .inl hq
        · exact .inr ⟨hq.1, by omega⟩
        · exact .inr ⟨by omega, by omega⟩
      rcases hq with rfl | hq | ⟨x, hx, y, hy, hq⟩
      · exact back _ (HZ2.out _ (.inl rfl))
      · exact back _ (HZ2.out _ (.inr (.inl hq)))
      · replace hq : (if x = a ∧ y = b then v6 else f x y).ownBlock = some q := hq
        by_cases e : x = a ∧ y = b
        · rw [if_pos e] at hq
          rcases H6.out.2.2 q hq with h1 | h1
          · exact back _ (HZ2.out _ (.inr (.inr ⟨a, HaN.out, b, Hb.out, h1⟩)))
          · have h2 := (World.ownsRow.lt H6.out.1.1 q hq).2
            exact .inr ⟨by omega, by omega⟩
        · rw [if_neg e] at hq
          exact back _ (HZ2.out _ (.inr (.inr ⟨x, hx, y, hy, hq⟩)))
    · have hzz : ∀ q, More (More Z w w1) w1 w2 q → More Z w V q := fun q hq => by
        rcases hq with (hq | hq) | hq
        · exact .inl hq
        · exact .inr ⟨hq.1, by omega⟩
        · exact .inr ⟨by omega, by omega⟩
      have n1 : some q ≠ (f a b).ownBlock := fun e => hz (hzz q (HZ2.out q (.inr (.inr ⟨a, HaN.out, b, Hb.out, e.symm⟩))))
      have n2 : some q ≠ some (F a) := fun e => hz (hzz q (HZ2.out q (.inr (.inl ⟨a, HaN.out, (Option.some.inj e).symm⟩))))
      exact (Hgr7.out.block q (by omega) n2).trans (H6.out.2.1.block q hq n1)
  · go_simp
    refine hK.out _ _ (HX.out _ (by first | exact Below.refl _ _ | exact stepD (Below.refl _ _) | exact stepA (stepD (Below.refl _ _)) _ | exact stepA (Below.refl _ _) _ | exact stepD (stepA (Below.refl _ _) _))).1 (fun hHeld => ?_)
    clear hK K
    try simp only [Act.put, List.setIfInBounds_toArray, List.set_cons_zero, List.set_cons_succ]
    have l2 := (HX.out (w3.alloc (.cells #[iv k] 3)).drew (stepD (stepA (Below.refl _ _) _))).2
    refine wpAnyH_ready (rs := [14]) (by kernel_rfl) (by simp) (AllReadyH.cons rfl (fun K hK => ?_) AllReadyH.nil)
    go_simp
    clear l2
    refine hK.out _ _ (HX.out _ (by first | exact Below.refl _ _ | exact stepD (Below.refl _ _) | exact stepA (stepD (Below.refl _ _)) _ | exact stepA (Below.refl _ _) _ | exact stepD (stepA (Below.refl _ _) _))).1 (fun hHeld => ?_)
    clear hK K
    try simp only [Act.put, List.setIfInBounds_toArray, List.set_cons_zero, List.set_cons_succ]
    refine wpAnyH_ready (rs := [18]) (by kernel_rfl) (by simp) (AllReadyH.cons rfl (fun K hK => ?_) AllReadyH.nil)
    go_simp
    go_at_call 32
    obtain ⟨V, hV⟩ : ∃ V, (w3.alloc (.cells #[iv k] 3)).drew = V := ⟨_, rfl⟩
    have BV : Hid (Below w3.heap.size w3 V) := by show Below _ _ _; rw [← hV]; exact stepD (stepA (Below.refl _ _) _)
    have HVN : Hid (V.heap[w3.heap.size]? = some (.cells #[iv k] 3)) := by show _ = _; rw [← hV]; exact World.alloc_heap_new w3 _
    have HIV := Lib.hid (HIns.out V BV.out HVN.out)
    have HGV := Lib.hid (HG3.out.kept (grown_below BV.out) (fun k e => by cases e))
    rw [hV]
    clear hV
    (with_reducible refine HIV.out.mono ?_); rintro e w6 ⟨v6, rfl, h6⟩
    have hbx := HGV.out.row_box HaN.out Hb.out
    obtain ⟨W7, hup, hG7, hgr7⟩ := HGV.out.edge HaN.out HbN.out Hb.out Hnk.out (show c + 1 + 1 < maxLen by have := Hc.out; unfold maxLen; omega) h6.out.2.1 hbx h6.out.1 h6.out.2.2
    have HG7 := Lib.hid hG7
    have Hgr7 := Lib.hid hgr7
    have H6 := Lib.hid h6.out
    have HS6 : Hid (w6.cell? ⟨g, 0, none⟩ = some (.map (some ob)) ∧ (Instr.lookup 71 (.map (some ob)) (iv a) false).run Tryz.prog w6 = .ok (.map (some (F a))) w6) := by
      obtain ⟨r1, r2, -⟩ := HGV.out.row_grown HaN.out Hb.out h6.out.2.1 hbx
      exact ⟨r1.cell, look_as r2 Tryz.underlying71 (zero65 w6) Ha.out ((HGV.out.atO a Ha.out).trans (by rw [if_pos HaN.out]))⟩
    have HS7 : Hid (W7.cell? ⟨g, 0, none⟩ = some (.map (some ob)) ∧ (Instr.lookup 71 (.map (some ob)) (iv a) false).run Tryz.prog W7 = .ok (.map (some (F a))) W7) := ⟨HG7.out.box.cell, look_as HG7.out.dom Tryz.underlying71 (zero65 W7) Ha.out ((HG7.out.atO a Ha.out).trans (by rw [if_pos HaN.out]))⟩
    clear hG7 hgr7 h6 hbx
    go_wp2_with fail
    refine hK.out _ _ HS6.out (fun hHeld => ?_)
    clear hK K
    try simp only [Act.put, List.setIfInBounds_toArray, List.set_cons_zero, List.set_cons_succ]
    refine wpAnyH_ready (rs := [19]) (by kernel_rfl) (by simp) (AllReadyH.cons rfl (fun K hK => ?_) AllReadyH.nil)
    go_simp
    refine hK.out _ _ HS7.out (fun hHeld => ?_)
    clear hK K
    try simp only [Act.put]
    refine wpAnyH_done (by kernel_rfl) ?_ _
    clear hHeld hup
    go_wp2
    go_ret
    have hs1 := S1.out.2.size
    have hs2 := S2.out.2.size
    have hs3 := S3.out.size
    have hsV := BV.out.size
    have hs6 := H6.out.2.1.size
    have hs7 := Hgr7.out.size
    refine ⟨rfl, ⟨ob, _, _, _, _, HG7.out, fun q hq => ?_⟩, ((S1.out.2.trans S2.out.2).trans (Off.below (S3.out.trans (BV.out.mono hs3)))).trans ⟨Hgr7.out.os.trans H6.out.2.1.os, Hgr7.out.tape.trans H6.out.2.1.tape, Hgr7.out.output.trans H6.out.2.1.output, by omega, fun q hq hz => ?_⟩⟩
    · have back : ∀ q, More (More Z w w1) w1 w2 q → More Z w W7 q := fun q hq => by
        rcases hq with (hq | hq) | hq
        · exact .inl hq
        · exact .inr ⟨hq.1, by omega⟩
        · exact .inr ⟨by omega, by omega⟩
      rcases hq with rfl | hq | ⟨x, hx, y, hy, hq⟩
      · exact back _ (HZ2.out _ (.inl rfl))
      · exact back _ (HZ2.out _ (.inr (.inl hq)))
      · replace hq : (if x = a ∧ y = b then v6 else f x y).ownBlock = some q := hq
        by_cases e : x = a ∧ y = b
        · rw [if_pos e] at hq
          rcases H6.out.2.2 q hq with h1 | h1
          · exact back _ (HZ2.out _ (.inr (.inr ⟨a, HaN.out, b, Hb.out, h1⟩)))
          · have h2 := (World.ownsRow.lt H6.out.1.1 q hq).2
            exact .inr ⟨by omega, by omega⟩
        · rw [if_neg e] at hq
          exact back _ (HZ2.out _ (.inr (.inr ⟨x, hx, y, hy, hq⟩)))
    · have hzz : ∀ q, More (More Z w w1) w1 w2 q → More Z w V q := fun q hq => by
        rcases hq with (hq | hq) | hq
        · exact .inl hq
        · exact .inr ⟨hq.1, by omega⟩
        · exact .inr ⟨by omega, by omega⟩
      have n1 : some q ≠ (f a b).ownBlock := fun e => hz (hzz q (HZ2.out q (.inr (.inr ⟨a, HaN.out, b, Hb.out, e.symm⟩))))
      have n2 : some q ≠ some (F a) := fun e => hz (hzz q (HZ2.out q (.inr (.inl ⟨a, HaN.out, (Option.some.inj e).symm⟩))))
      exact (Hgr7.out.block q (by omega) n2).trans (H6.out.2.1.block q hq n1)
set_option maxRecDepth 100000 in
/-- Edge. -/
theorem edge_any {Z : Nat → Prop} {B g c : Nat} {N : List Int} {E : List Ed} (a b k : Int) (ha : fit64 a) (hb : fit64 b) (hkf : fit64 k) (hc : c ≤ 100000) (hE : E.length ≤ 100000) (w : World) (hB : B ≤ w.heap.size) (h : GrAt Z B g c N E w) :
    Calls Tryz.prog 19 #[.pointer (some ⟨g, 0, none⟩), iv a, iv b, iv k] w fun e w' => e = .returned (.bool (decide ((a, b, k) ∉ E))) ∧ Hid (GrAt (More Z w w') B g (c + 3) (putI (putI N a) b) (putE E (a, b, k)) w' ∧ Off Z w w') := by
  by_cases hk : (a, b, k) ∈ E
  · rw [decide_eq_false (fun g => g hk)]
    exact edge_in a b k ha hb hc hE hk w h
  · rw [decide_eq_true hk]
    exact edge_new a b k ha hb hkf hc hE hk w hB h
end Go.Proofs.YthgkloapnihpaaaGreat

/- The library's keys of maps and sorted lists of them at this program, laid after the shelf's table. -/
namespace Go.Proofs
open Go.Shelf
def Tryz.keysIn_ren : Go.Shelf.Ren := ⟨fun | 6 => 45 | 8 => 61 | 11 => 85 | 9 => 41 | 7 => 54 | 10 => 66 | _ => 0, fun | 0 => 0 | 3 => 23 | 4 => 4 | 23 => 74 | 24 => 23 | 26 => 3 | 27 => 94 | 28 => 95 | 33 => 53 | _ => 0, fun g => g⟩
theorem Tryz.keysIn6 : Go.Proofs.SlLaysZI.n6 Tryz.prog Tryz.keysIn_ren := {
  mixed := by kernel_rfl
  f6 := ⟨Tryz.f45.name, by decide, Tryz.func45.trans (congrArg some (by kernel_rfl))⟩
  f8 := ⟨Tryz.f61.name, by decide, Tryz.func61.trans (congrArg some (by kernel_rfl))⟩
  f11 := ⟨Tryz.f85.name, by decide, Tryz.func85.trans (congrArg some (by kernel_rfl))⟩
  t0 := Tryz.underlying0
  a0 := Tryz.isAgg0
  z0 := Tryz.sizeOf0
  v0 := Tryz.zeroValue0
  t24 := Tryz.underlying23
  a24 := Tryz.isAgg23
  z24 := Tryz.sizeOf23
  v24 := Tryz.zeroValue23
  t26 := Tryz.underlying3
  a26 := Tryz.isAgg3
  z26 := Tryz.sizeOf3
  v26 := Tryz.zeroValue3
  t28 := Tryz.underlying95
  a28 := Tryz.isAgg95
  z28 := Tryz.sizeOf95
  v28 := Tryz.zeroValue95
  i26 := by kernel_rfl }
theorem Tryz.keysIn7 : Go.Proofs.SlLaysZI.n7 Tryz.prog Tryz.keysIn_ren := {
  mixed := by kernel_rfl
  f7 := ⟨Tryz.f54.name, by decide, Tryz.func54.trans (congrArg some (by kernel_rfl))⟩
  f10 := ⟨Tryz.f66.name, by decide, Tryz.func66.trans (congrArg some (by kernel_rfl))⟩
  t0 := Tryz.underlying0
  a0 := Tryz.isAgg0
  z0 := Tryz.sizeOf0
  v0 := Tryz.zeroValue0
  t4 := Tryz.underlying4
  a4 := Tryz.isAgg4
  z4 := Tryz.sizeOf4
  v4 := Tryz.zeroValue4
  t23 := Tryz.underlying74
  a23 := Tryz.isAgg74
  z23 := Tryz.sizeOf74
  v23 := Tryz.zeroValue74
  t26 := Tryz.underlying3
  a26 := Tryz.isAgg3
  z26 := Tryz.sizeOf3
  v26 := Tryz.zeroValue3
  t27 := Tryz.underlying94
  a27 := Tryz.isAgg94
  z27 := Tryz.sizeOf94
  v27 := Tryz.zeroValue94
  t28 := Tryz.underlying95
  a28 := Tryz.isAgg95
  z28 := Tryz.sizeOf95
  v28 := Tryz.zeroValue95
  t33 := Tryz.underlying53
  a33 := Tryz.isAgg53
  z33 := Tryz.sizeOf53
  v33 := Tryz.zeroValue53 }
theorem Tryz.keysIn8 : Go.Proofs.SlLaysZI.n8 Tryz.prog Tryz.keysIn_ren := {
  mixed := by kernel_rfl
  f8 := ⟨Tryz.f61.name, by decide, Tryz.func61.trans (congrArg some (by kernel_rfl))⟩
  f11 := ⟨Tryz.f85.name, by decide, Tryz.func85.trans (congrArg some (by kernel_rfl))⟩
  t0 := Tryz.underlying0
  a0 := Tryz.isAgg0
  z0 := Tryz.sizeOf0
  v0 := Tryz.zeroValue0
  t24 := Tryz.underlying23
  a24 := Tryz.isAgg23
  z24 := Tryz.sizeOf23
  v24 := Tryz.zeroValue23
  t26 := Tryz.underlying3
  a26 := Tryz.isAgg3
  z26 := Tryz.sizeOf3
  v26 := Tryz.zeroValue3
  t28 := Tryz.underlying95
  a28 := Tryz.isAgg95
  z28 := Tryz.sizeOf95
  v28 := Tryz.zeroValue95
  i26 := by kernel_rfl }
theorem Tryz.keysIn10 : Go.Proofs.SlLaysZI.n10 Tryz.prog Tryz.keysIn_ren := {
  mixed := by kernel_rfl
  f10 := ⟨Tryz.f66.name, by decide, Tryz.func66.trans (congrArg some (by kernel_rfl))⟩
  t0 := Tryz.underlying0
  a0 := Tryz.isAgg0
  z0 := Tryz.sizeOf0
  v0 := Tryz.zeroValue0
  t4 := Tryz.underlying4
  a4 := Tryz.isAgg4
  z4 := Tryz.sizeOf4
  v4 := Tryz.zeroValue4
  t23 := Tryz.underlying74
  a23 := Tryz.isAgg74
  z23 := Tryz.sizeOf74
  v23 := Tryz.zeroValue74
  t26 := Tryz.underlying3
  a26 := Tryz.isAgg3
  z26 := Tryz.sizeOf3
  v26 := Tryz.zeroValue3
  t33 := Tryz.underlying53
  a33 := Tryz.isAgg53
  z33 := Tryz.sizeOf53
  v33 := Tryz.zeroValue53 }
theorem Tryz.keysIn11 : Go.Proofs.SlLaysZI.n11 Tryz.prog Tryz.keysIn_ren := {
  mixed := by kernel_rfl
  f11 := ⟨Tryz.f85.name, by decide, Tryz.func85.trans (congrArg some (by kernel_rfl))⟩
  t0 := Tryz.underlying0
  a0 := Tryz.isAgg0
  z0 := Tryz.sizeOf0
  v0 := Tryz.zeroValue0
  t24 := Tryz.underlying23
  a24 := Tryz.isAgg23
  z24 := Tryz.sizeOf23
  v24 := Tryz.zeroValue23
  t26 := Tryz.underlying3
  a26 := Tryz.isAgg3
  z26 := Tryz.sizeOf3
  v26 := Tryz.zeroValue3
  t28 := Tryz.underlying95
  a28 := Tryz.isAgg95
  z28 := Tryz.sizeOf95
  v28 := Tryz.zeroValue95
  i26 := by kernel_rfl }
def Tryz.keysOut_ren : Go.Shelf.Ren := ⟨fun | 6 => 45 | 8 => 61 | 11 => 85 | 9 => 41 | 7 => 46 | 10 => 62 | _ => 0, fun | 0 => 0 | 3 => 74 | 4 => 4 | 23 => 71 | 24 => 23 | 26 => 3 | 27 => 94 | 28 => 95 | 33 => 53 | _ => 0, fun g => g⟩
theorem Tryz.keysOut6 : Go.Proofs.SlLaysZI.n6 Tryz.prog Tryz.keysOut_ren := {
  mixed := by kernel_rfl
  f6 := ⟨Tryz.f45.name, by decide, Tryz.func45.trans (congrArg some (by kernel_rfl))⟩
  f8 := ⟨Tryz.f61.name, by decide, Tryz.func61.trans (congrArg some (by kernel_rfl))⟩
  f11 := ⟨Tryz.f85.name, by decide, Tryz.func85.trans (congrArg some (by kernel_rfl))⟩
  t0 := Tryz.underlying0
  a0 := Tryz.isAgg0
  z0 := Tryz.sizeOf0
  v0 := Tryz.zeroValue0
  t24 := Tryz.underlying23
  a24 := Tryz.isAgg23
  z24 := Tryz.sizeOf23
  v24 := Tryz.zeroValue23
  t26 := Tryz.underlying3
  a26 := Tryz.isAgg3
  z26 := Tryz.sizeOf3
  v26 := Tryz.zeroValue3
  t28 := Tryz.underlying95
  a28 := Tryz.isAgg95
  z28 := Tryz.sizeOf95
  v28 := Tryz.zeroValue95
  i26 := by kernel_rfl }
theorem Tryz.keysOut7 : Go.Proofs.SlLaysZI.n7 Tryz.prog Tryz.keysOut_ren := {
  mixed := by kernel_rfl
  f7 := ⟨Tryz.f46.name, by decide, Tryz.func46.trans (congrArg some (by kernel_rfl))⟩
  f10 := ⟨Tryz.f62.name, by decide, Tryz.func62.trans (congrArg some (by kernel_rfl))⟩
  t0 := Tryz.underlying0
  a0 := Tryz.isAgg0
  z0 := Tryz.sizeOf0
  v0 := Tryz.zeroValue0
  t4 := Tryz.underlying4
  a4 := Tryz.isAgg4
  z4 := Tryz.sizeOf4
  v4 := Tryz.zeroValue4
  t23 := Tryz.underlying71
  a23 := Tryz.isAgg71
  z23 := Tryz.sizeOf71
  v23 := Tryz.zeroValue71
  t26 := Tryz.underlying3
  a26 := Tryz.isAgg3
  z26 := Tryz.sizeOf3
  v26 := Tryz.zeroValue3
  t27 := Tryz.underlying94
  a27 := Tryz.isAgg94
  z27 := Tryz.sizeOf94
  v27 := Tryz.zeroValue94
  t28 := Tryz.underlying95
  a28 := Tryz.isAgg95
  z28 := Tryz.sizeOf95
  v28 := Tryz.zeroValue95
  t33 := Tryz.underlying53
  a33 := Tryz.isAgg53
  z33 := Tryz.sizeOf53
  v33 := Tryz.zeroValue53 }
theorem Tryz.keysOut8 : Go.Proofs.SlLaysZI.n8 Tryz.prog Tryz.keysOut_ren := {
  mixed := by kernel_rfl
  f8 := ⟨Tryz.f61.name, by decide, Tryz.func61.trans (congrArg some (by kernel_rfl))⟩
  f11 := ⟨Tryz.f85.name, by decide, Tryz.func85.trans (congrArg some (by kernel_rfl))⟩
  t0 := Tryz.underlying0
  a0 := Tryz.isAgg0
  z0 := Tryz.sizeOf0
  v0 := Tryz.zeroValue0
  t24 := Tryz.underlying23
  a24 := Tryz.isAgg23
  z24 := Tryz.sizeOf23
  v24 := Tryz.zeroValue23
  t26 := Tryz.underlying3
  a26 := Tryz.isAgg3
  z26 := Tryz.sizeOf3
  v26 := Tryz.zeroValue3
  t28 := Tryz.underlying95
  a28 := Tryz.isAgg95
  z28 := Tryz.sizeOf95
  v28 := Tryz.zeroValue95
  i26 := by kernel_rfl }
theorem Tryz.keysOut10 : Go.Proofs.SlLaysZI.n10 Tryz.prog Tryz.keysOut_ren := {
  mixed := by kernel_rfl
  f10 := ⟨Tryz.f62.name, by decide, Tryz.func62.trans (congrArg some (by kernel_rfl))⟩
  t0 := Tryz.underlying0
  a0 := Tryz.isAgg0
  z0 := Tryz.sizeOf0
  v0 := Tryz.zeroValue0
  t4 := Tryz.underlying4
  a4 := Tryz.isAgg4
  z4 := Tryz.sizeOf4
  v4 := Tryz.zeroValue4
  t23 := Tryz.underlying71
  a23 := Tryz.isAgg71
  z23 := Tryz.sizeOf71
  v23 := Tryz.zeroValue71
  t26 := Tryz.underlying3
  a26 := Tryz.isAgg3
  z26 := Tryz.sizeOf3
  v26 := Tryz.zeroValue3
  t33 := Tryz.underlying53
  a33 := Tryz.isAgg53
  z33 := Tryz.sizeOf53
  v33 := Tryz.zeroValue53 }
theorem Tryz.keysOut11 : Go.Proofs.SlLaysZI.n11 Tryz.prog Tryz.keysOut_ren := {
  mixed := by kernel_rfl
  f11 := ⟨Tryz.f85.name, by decide, Tryz.func85.trans (congrArg some (by kernel_rfl))⟩
  t0 := Tryz.underlying0
  a0 := Tryz.isAgg0
  z0 := Tryz.sizeOf0
  v0 := Tryz.zeroValue0
  t24 := Tryz.underlying23
  a24 := Tryz.isAgg23
  z24 := Tryz.sizeOf23
  v24 := Tryz.zeroValue23
  t26 := Tryz.underlying3
  a26 := Tryz.isAgg3
  z26 := Tryz.sizeOf3
  v26 := Tryz.zeroValue3
  t28 := Tryz.underlying95
  a28 := Tryz.isAgg95
  z28 := Tryz.sizeOf95
  v28 := Tryz.zeroValue95
  i26 := by kernel_rfl }
end Go.Proofs

/- The library's sort of numbers at this program, laid after the shelf's table. -/
namespace Go.Proofs
open Go.Shelf
def Tryz.sortInts_ren : Go.Shelf.Ren := ⟨fun | 125 => 58 | 128 => 75 | 129 => 76 | 189 => 41 | 215 => 60 | 216 => 50 | 257 => 57 | 294 => 67 | 295 => 68 | 296 => 69 | 297 => 70 | 298 => 71 | 299 => 72 | 300 => 73 | 301 => 74 | 328 => 96 | 329 => 97 | 330 => 98 | 331 => 99 | 332 => 100 | 343 => 108 | n => n, fun | 0 => 0 | 3 => 3 | 4 => 4 | 5 => 5 | 9 => 9 | 28 => 23 | 46 => 99 | 51 => 123 | 53 => 125 | 131 => 75 | 182 => 116 | 183 => 117 | 218 => 138 | 222 => 142 | 228 => 148 | 229 => 149 | n => n, fun | n => n⟩
theorem Tryz.sortInts : Go.Proofs.Lays.n189 Tryz.prog Tryz.sortInts_ren := {
  mixed := by kernel_rfl
  f125 := Tryz.func58.trans (congrArg some (by kernel_rfl))
  f128 := Tryz.func75.trans (congrArg some (by kernel_rfl))
  f129 := Tryz.func76.trans (congrArg some (by kernel_rfl))
  f189 := Tryz.func41.trans (congrArg some (by kernel_rfl))
  f215 := Tryz.func60.trans (congrArg some (by kernel_rfl))
  f216 := Tryz.func50.trans (congrArg some (by kernel_rfl))
  f257 := Tryz.func57.trans (congrArg some (by kernel_rfl))
  f294 := Tryz.func67.trans (congrArg some (by kernel_rfl))
  f295 := Tryz.func68.trans (congrArg some (by kernel_rfl))
  f296 := Tryz.func69.trans (congrArg some (by kernel_rfl))
  f297 := Tryz.func70.trans (congrArg some (by kernel_rfl))
  f298 := Tryz.func71.trans (congrArg some (by kernel_rfl))
  f299 := Tryz.func72.trans (congrArg some (by kernel_rfl))
  f300 := Tryz.func73.trans (congrArg some (by kernel_rfl))
  f301 := Tryz.func74.trans (congrArg some (by kernel_rfl))
  f328 := Tryz.func96.trans (congrArg some (by kernel_rfl))
  f329 := Tryz.func97.trans (congrArg some (by kernel_rfl))
  f330 := Tryz.func98.trans (congrArg some (by kernel_rfl))
  f331 := Tryz.func99.trans (congrArg some (by kernel_rfl))
  f332 := Tryz.func100.trans (congrArg some (by kernel_rfl))
  f343 := Tryz.func108.trans (congrArg some (by kernel_rfl))
  t0 := Tryz.underlying0
  a0 := Tryz.isAgg0
  z0 := Tryz.sizeOf0
  v0 := Tryz.zeroValue0
  t3 := Tryz.underlying3
  a3 := Tryz.isAgg3
  z3 := Tryz.sizeOf3
  v3 := Tryz.zeroValue3
  t4 := Tryz.underlying4
  a4 := Tryz.isAgg4
  z4 := Tryz.sizeOf4
  v4 := Tryz.zeroValue4
  t5 := Tryz.underlying5
  a5 := Tryz.isAgg5
  z5 := Tryz.sizeOf5
  v5 := Tryz.zeroValue5
  t9 := Tryz.underlying9
  a9 := Tryz.isAgg9
  z9 := Tryz.sizeOf9
  v9 := Tryz.zeroValue9
  t28 := Tryz.underlying23
  a28 := Tryz.isAgg23
  z28 := Tryz.sizeOf23
  v28 := Tryz.zeroValue23
  t46 := Tryz.underlying99
  a46 := Tryz.isAgg99
  z46 := Tryz.sizeOf99
  v46 := Tryz.zeroValue99
  t51 := Tryz.underlying123
  a51 := Tryz.isAgg123
  z51 := Tryz.sizeOf123
  v51 := Tryz.zeroValue123
  t53 := Tryz.underlying125
  a53 := Tryz.isAgg125
  z53 := Tryz.sizeOf125
  v53 := Tryz.zeroValue125
  t131 := Tryz.underlying75
  a131 := Tryz.isAgg75
  z131 := Tryz.sizeOf75
  v131 := Tryz.zeroValue75
  t182 := Tryz.underlying116
  a182 := Tryz.isAgg116
  z182 := Tryz.sizeOf116
  v182 := Tryz.zeroValue116
  t183 := Tryz.underlying117
  a183 := Tryz.isAgg117
  z183 := Tryz.sizeOf117
  v183 := Tryz.zeroValue117
  t218 := Tryz.underlying138
  a218 := Tryz.isAgg138
  z218 := Tryz.sizeOf138
  v218 := Tryz.zeroValue138
  t222 := Tryz.underlying142
  a222 := Tryz.isAgg142
  z222 := Tryz.sizeOf142
  v222 := Tryz.zeroValue142
  t228 := Tryz.underlying148
  a228 := Tryz.isAgg148
  z228 := Tryz.sizeOf148
  v228 := Tryz.zeroValue148
  t229 := Tryz.underlying149
  a229 := Tryz.isAgg149
  z229 := Tryz.sizeOf149
  v229 := Tryz.zeroValue149 }
end Go.Proofs

/- Graphs: Nodes and Out, by contracts. -/
namespace Go.Proofs.YthgkloapnihpaaaGreat
open Go.RowKit Go.Maps Go.WideMaps Go.WideElems Go.ChangeShapes Go.WideShapes

theorem sortsIn (m : Nat) : AnyZI.SortsIn Tryz.prog Tryz.keysIn_ren Fence.wide m :=
  ⟨fun blk off cap ss W hH hblk hsz => callsIn_wide.2 (Any.slices_Sort_int Tryz.sortInts blk off cap ss W hH hblk hsz),
   fun p cap W => callsIn_wide.2 (Any.slices_Sort_int_none Tryz.sortInts p cap W)⟩
theorem sortsOut (m : Nat) : AnyZI.SortsIn Tryz.prog Tryz.keysOut_ren Fence.wide m :=
  ⟨fun blk off cap ss W hH hblk hsz => callsIn_wide.2 (Any.slices_Sort_int Tryz.sortInts blk off cap ss W hH hblk hsz),
   fun p cap W => callsIn_wide.2 (Any.slices_Sort_int_none Tryz.sortInts p cap W)⟩
/-- A map's keys are just these. -/
theorem dom_keys {b n : Nat} {L : List Int} {D : DV} {W : World} (h : DomAt Tryz.prog 3 il fit64 asIs b n L D W) (hn : L.Nodup) : L.Perm (intKeys D) := by
  obtain ⟨es, hD, hp, hk⟩ := h.own.entries K3
  subst hD
  refine perm_intKeys hp (fun p hpm => ?_) hn fun x => ?_
  · have : Maps.has (.map es : DV) p.1 = true := by
      exact List.any_eq_true.2 ⟨p, hpm, WideAt.sameKey_self (hk p hpm)⟩
    obtain ⟨x, -, hx⟩ := h.only p.1 this
    exact ⟨x, hx⟩
  · constructor
    · intro hx
      exact (h.has x (h.fit x hx)).2 hx
    · intro hx
      obtain ⟨y, hy, e⟩ := h.only _ hx
      have : x = y := by simpa using e
      rw [this]
      exact hy
theorem dom_size {b n : Nat} {L : List Int} {D : DV} {W : World} (h : DomAt Tryz.prog 3 il fit64 asIs b n L D W) : Maps.size D ≤ n := by
  obtain ⟨es, clock, hb, F, hs, hD⟩ := h.own
  rw [hD]
  simp only [Maps.size]
  rw [length_sorted]
  simpa using hs
theorem sort_rise {ss L : List Int} (hL : RiseI L) (hp : ss.Perm L) : ss.mergeSort (fun x y => decide (x ≤ y)) = L := by
  have hq := List.mergeSort_perm ss fun x y => decide (x ≤ y)
  have hs := List.pairwise_mergeSort (le := fun x y : Int => decide (x ≤ y)) (fun a b c h1 h2 => by simp at *; omega) (fun a b => by simp; omega) ss
  have hnd := (hq.trans hp).symm.nodup (riseI_nodup hL)
  refine riseI_ext ((hs.and hnd).imp fun {p q} hpq => ?_) hL fun z => (hq.trans hp).mem_iff
  have h2 : p ≤ q := by simpa using hpq.1
  have h3 := hpq.2
  omega
set_option maxHeartbeats 16000000 in
set_option maxRecDepth 100000 in
theorem nodes_any {Z : Nat → Prop} {B g c : Nat} {N : List Int} {E : List Ed} (hc : c ≤ 100000) (w : World) (h : GrAt Z B g c N E w) :
    Calls Tryz.prog 21 #[.pointer (some ⟨g, 0, none⟩)] w fun e w' => ∃ v, e = .returned v ∧ Hid (w'.ownsRow w.heap.size 3 1 v N.length (N.map (Value.int .i64)) ∧ Below w.heap.size w w') := by
  obtain ⟨ob, DO, F, DI, f, h, hZ⟩ := h
  have c0 := h.box.cell
  have hob := h.dom.own.lt
  have hsz := dom_size h.dom
  have hkeys := dom_keys h.dom (riseI_nodup h.nodes)
  have hseq : SeqGives Fence.wide 2 Tryz.prog 62 #[.pointer (some ⟨w.heap.size, 0, none⟩)] encZ (fun ss => ss.Perm (intKeys DO)) (Maps.size DO) (w.alloc (.cells #[.map (some ob)] 71)) :=
    AnyZI.keys_gives (ρ := Tryz.keysOut_ren) { Tryz.keysOut7 with } Fence.wide _ trivial rfl (by omega) w.heap.size ob c DO _ (by simp) (by simp) (by
      obtain ⟨es, clock, hb, Ft, hs, hD⟩ := h.dom.own
      exact ⟨es, clock, (Below.heap_alloc _ _ ob hob).trans hb, Ft, hs, hD⟩)
  have cK : Calls Tryz.prog 46 #[.map (some ob)] w fun e w' => e = .returned (.func (.func 62) #[] #[.pointer (some ⟨w.heap.size, 0, none⟩)]) ∧ w' = w.alloc (.cells #[.map (some ob)] 71) := callsIn_wide.1 (AnyZI.keys_in Tryz.keysOut7 Fence.wide 5 trivial rfl (some ob) w)
  have cS := AnyZI.sorted_in Tryz.keysOut6 Fence.wide 5 trivial trivial trivial trivial rfl (by omega) (sortsOut _) (enters_of Tryz.func41 (by kernel_rfl) rfl) 62 #[.pointer (some ⟨w.heap.size, 0, none⟩)] trivial (enters_of Tryz.func62 (by kernel_rfl) rfl) _ _ (by unfold maxLen; omega) (by omega) _ hseq
  change CallsIn _ _ Tryz.prog 45 _ _ _ at cS
  have HS := Lib.hid (callsIn_wide.1 cS)
  have HK := Lib.hid cK
  have Hkeys := Lib.hid hkeys
  have Hr := Lib.hid h.nodes
  clear hseq cS cK h hZ hob hsz hkeys
  go_enter Tryz.func21, Tryz.ntmps21
  go_wp2_with (first
    | (go_at_call 46; (with_reducible refine HK.out.mono ?_); rintro e w1 ⟨rfl, rfl⟩)
    | (go_at_call 45; (with_reducible refine HS.out.mono ?_); rintro e w2 ⟨v, ss, rfl, hS, hrow, hnil, hb⟩
       have HR : Hid (w2.ownsRow (w.alloc (.cells #[.map (some ob)] 71)).heap.size 3 1 v ss.length ((ss.mergeSort (fun x y => decide (x ≤ y))).map encZ)) := hrow
       have HP := Lib.hid hS
       have HB := Lib.hid hb
       clear hS hrow hnil hb))
  go_ret
  refine ⟨v, rfl, ?_, ((Below.refl _ w).alloc (Nat.le_refl _) _).trans (HB.out.mono (by simp))⟩
  have hp : ss.Perm N := HP.out.trans Hkeys.out.symm
  have h1 := HR.out
  rw [sort_rise Hr.out hp, hp.length_eq] at h1
  exact ⟨h1.1, h1.2.imp id fun ⟨q, cap, cur, e, hq, r⟩ => ⟨q, cap, cur, e, by simp at hq; omega, r⟩⟩
end Go.Proofs.YthgkloapnihpaaaGreat

/- Graphs: Out, by a contract. -/
namespace Go.Proofs.YthgkloapnihpaaaGreat
open Go.RowKit Go.Maps Go.WideMaps Go.WideElems Go.ChangeShapes Go.WideShapes

set_option maxHeartbeats 16000000 in
set_option maxRecDepth 100000 in
theorem out_yes {B g ob c : Nat} {DO : DV} {F : Int → Nat} {DI : Int → DV} {f : Int → Int → Value} {N : List Int} {E : List Ed} (a : Int) (ha : fit64 a) (hN : a ∈ N) (hc : c ≤ 100000) (w : World) (h : GrIn B g ob c DO F DI f N E w) :
    Calls Tryz.prog 36 #[.pointer (some ⟨g, 0, none⟩), iv a] w fun e w' => ∃ v, e = .returned v ∧ Hid (w'.ownsRow w.heap.size 3 1 v (outsE N E a).length ((outsE N E a).map (Value.int .i64)) ∧ Below w.heap.size w w') := by
  have c0 := h.box.cell
  have l1 := look_as h.dom Tryz.underlying71 (zero65 w) ha ((h.atO a ha).trans (by rw [if_pos hN]))
  have hd := h.domI a hN
  have hr : RiseI (outsE N E a) := h.nodes.filter _
  obtain ⟨ib, hib⟩ : ∃ ib, F a = ib := ⟨_, rfl⟩
  rw [hib] at hd l1
  have hob := hd.own.lt
  have hsz := dom_size hd
  have hkeys := dom_keys hd (riseI_nodup hr)
  have hseq : SeqGives Fence.wide 2 Tryz.prog 66 #[.pointer (some ⟨w.heap.size, 0, none⟩)] encZ (fun ss => ss.Perm (intKeys (DI a))) (Maps.size (DI a)) (w.alloc (.cells #[.map (some ib)] 74)) :=
    AnyZI.keys_gives (ρ := Tryz.keysIn_ren) { Tryz.keysIn7 with } Fence.wide _ trivial rfl (by omega) w.heap.size ib c (DI a) _ (by simp) (by simp) (by
      obtain ⟨es, clock, hb, Ft, hs, hD⟩ := hd.own
      exact ⟨es, clock, (Below.heap_alloc _ _ ib hob).trans hb, Ft, hs, hD⟩)
  have cK : Calls Tryz.prog 54 #[.map (some ib)] w fun e w' => e = .returned (.func (.func 66) #[] #[.pointer (some ⟨w.heap.size, 0, none⟩)]) ∧ w' = w.alloc (.cells #[.map (some ib)] 74) := callsIn_wide.1 (AnyZI.keys_in Tryz.keysIn7 Fence.wide 5 trivial rfl (some ib) w)
  have cS := AnyZI.sorted_in Tryz.keysIn6 Fence.wide 5 trivial trivial trivial trivial rfl (by omega) (sortsIn _) (enters_of Tryz.func41 (by kernel_rfl) rfl) 66 #[.pointer (some ⟨w.heap.size, 0, none⟩)] trivial (enters_of Tryz.func66 (by kernel_rfl) rfl) _ _ (by unfold maxLen; omega) (by omega) _ hseq
  change CallsIn _ _ Tryz.prog 45 _ _ _ at cS
  have HS := Lib.hid (callsIn_wide.1 cS)
  have HK := Lib.hid cK
  have Hkeys := Lib.hid hkeys
  have Hr := Lib.hid hr
  clear hseq cS cK h hob hsz hkeys hd hr hib hN
  go_enter Tryz.func36, Tryz.ntmps36
  go_wp2_with (first
    | (go_at_call 54; (with_reducible refine HK.out.mono ?_); rintro e w1 ⟨rfl, rfl⟩)
    | (go_at_call 45; (with_reducible refine HS.out.mono ?_); rintro e w2 ⟨v, ss, rfl, hS, hrow, hnil, hb⟩
       have HR : Hid (w2.ownsRow (w.alloc (.cells #[.map (some ib)] 74)).heap.size 3 1 v ss.length ((ss.mergeSort (fun x y => decide (x ≤ y))).map encZ)) := hrow
       have HP := Lib.hid hS
       have HB := Lib.hid hb
       clear hS hrow hnil hb))
  go_ret
  refine ⟨v, rfl, ?_, ((Below.refl _ w).alloc (Nat.le_refl _) _).trans (HB.out.mono (by simp))⟩
  have hp : ss.Perm (outsE N E a) := HP.out.trans Hkeys.out.symm
  have h1 := HR.out
  rw [sort_rise Hr.out hp, hp.length_eq] at h1
  exact ⟨h1.1, h1.2.imp id fun ⟨q, cap, cur, e, hq, r⟩ => ⟨q, cap, cur, e, by simp at hq; omega, r⟩⟩
set_option maxHeartbeats 16000000 in
set_option maxRecDepth 100000 in
theorem out_no {B g ob c : Nat} {DO : DV} {F : Int → Nat} {DI : Int → DV} {f : Int → Int → Value} {N : List Int} {E : List Ed} (a : Int) (ha : fit64 a) (hN : a ∉ N) (w : World) (h : GrIn B g ob c DO F DI f N E w) :
    Calls Tryz.prog 36 #[.pointer (some ⟨g, 0, none⟩), iv a] w fun e w' => ∃ v, e = .returned v ∧ Hid (w'.ownsRow w.heap.size 3 1 v (outsE N E a).length ((outsE N E a).map (Value.int .i64)) ∧ Below w.heap.size w w') := by
  have c0 := h.box.cell
  have l1 := look_as h.dom Tryz.underlying71 (zero65 w) ha ((h.atO a ha).trans (by rw [if_neg hN]))
  have hseq : SeqGives Fence.wide 2 Tryz.prog 66 #[.pointer (some ⟨w.heap.size, 0, none⟩)] encZ (fun ss : List Int => ss = []) 0 (w.alloc (.cells #[.map none] 74)) :=
    AnyZI.keys_gives_nil (ρ := Tryz.keysIn_ren) { Tryz.keysIn7 with } Fence.wide _ trivial rfl w.heap.size _ (by simp) (by simp)
  have cK : Calls Tryz.prog 54 #[.map none] w fun e w' => e = .returned (.func (.func 66) #[] #[.pointer (some ⟨w.heap.size, 0, none⟩)]) ∧ w' = w.alloc (.cells #[.map none] 74) := callsIn_wide.1 (AnyZI.keys_in Tryz.keysIn7 Fence.wide 5 trivial rfl none w)
  have cS := AnyZI.sorted_in Tryz.keysIn6 Fence.wide 5 trivial trivial trivial trivial rfl (by omega) (sortsIn _) (enters_of Tryz.func41 (by kernel_rfl) rfl) 66 #[.pointer (some ⟨w.heap.size, 0, none⟩)] trivial (enters_of Tryz.func66 (by kernel_rfl) rfl) _ 0 (Nat.zero_le _) (by omega) _ hseq
  change CallsIn _ _ Tryz.prog 45 _ _ _ at cS
  have HS := Lib.hid (callsIn_wide.1 cS)
  have HK := Lib.hid cK
  rw [outsE_none h.ends hN]
  clear hseq cS cK h hN
  go_enter Tryz.func36, Tryz.ntmps36
  go_wp2_with (first
    | (go_at_call 54; (with_reducible refine HK.out.mono ?_); rintro e w1 ⟨rfl, rfl⟩)
    | (go_at_call 45; (with_reducible refine HS.out.mono ?_); rintro e w2 ⟨v, ss, rfl, rfl, hrow, hnil, hb⟩; obtain rfl : v = .slice none 0 0 := hnil.2 rfl
       have HB := Lib.hid hb
       clear hrow hnil hb))
  go_ret
  exact ⟨_, rfl, World.ownsRow_nil _ _ _ _, ((Below.refl _ w).alloc (Nat.le_refl _) _).trans (HB.out.mono (by simp))⟩
set_option maxRecDepth 100000 in
theorem out_any {Z : Nat → Prop} {B g c : Nat} {N : List Int} {E : List Ed} (a : Int) (ha : fit64 a) (hc : c ≤ 100000) (w : World) (h : GrAt Z B g c N E w) :
    Calls Tryz.prog 36 #[.pointer (some ⟨g, 0, none⟩), iv a] w fun e w' => ∃ v, e = .returned v ∧ Hid (w'.ownsRow w.heap.size 3 1 v (outsE N E a).length ((outsE N E a).map (Value.int .i64)) ∧ Below w.heap.size w w') := by
  obtain ⟨ob, DO, F, DI, f, h, hZ⟩ := h
  by_cases hN : a ∈ N
  · exact out_yes a ha hN hc w h
  · exact out_no a ha hN w h
end Go.Proofs.YthgkloapnihpaaaGreat

/- Graphs: Kinds, by a contract. -/
namespace Go.Proofs.YthgkloapnihpaaaGreat
open Go.RowKit Go.Maps Go.WideMaps Go.WideElems Go.ChangeShapes Go.WideShapes

theorem elem3 : (Tryz.prog.info? 3).map (fun i => (i.zero, i.size, i.bytes)) = some (some (.int .i64 0), 1, 8) := by kernel_rfl
end Go.Proofs.YthgkloapnihpaaaGreat

/- Graphs, plainly: all edges, by nodes, by those they lead to, by kinds. -/
namespace Go.Proofs.YthgkloapnihpaaaGreat

/-- The edges from a to b. -/
def edAB (E : List Ed) (a b : Int) : List Ed := (kindsE E a b).map fun k => (a, b, k)
/-- The edges from a. -/
def edA (N : List Int) (E : List Ed) (a : Int) : List Ed := (outsE N E a).flatMap fun b => edAB E a b
/-- All edges. -/
def edAll (N : List Int) (E : List Ed) : List Ed := N.flatMap fun a => edA N E a
theorem mem_edAB {E : List Ed} {a b : Int} {e : Ed} : e ∈ edAB E a b ↔ e ∈ E ∧ e.1 = a ∧ e.2.1 = b := by
  unfold edAB
  rw [List.mem_map]
  constructor
  · rintro ⟨k, hk, rfl⟩
    exact ⟨mem_kindsE.1 hk, rfl, rfl⟩
  · obtain ⟨x, y, k⟩ := e
    rintro ⟨h, h2, h3⟩
    simp only at h2 h3
    subst h2 h3
    exact ⟨k, mem_kindsE.2 h, rfl⟩
theorem rise_flat {f : Int → List Ed} {p : Ed → Int} (hp : ∀ a, ∀ e ∈ f a, p e = a) (hlt : ∀ a b, a < b → ∀ x ∈ f a, ∀ y ∈ f b, LtE x y) : ∀ {l : List Int}, RiseI l → (∀ a ∈ l, RiseE (f a)) → RiseE (l.flatMap f)
  | [], _, _ => List.Pairwise.nil
  | a :: l, hl, hf => by
    have hl' := List.pairwise_cons.1 hl
    rw [List.flatMap_cons]
    refine List.pairwise_append.2 ⟨hf a (List.mem_cons_self ..), rise_flat hp hlt hl'.2 (fun b hb => hf b (List.mem_cons_of_mem _ hb)), fun x hx y hy => ?_⟩
    obtain ⟨b, hb, hy⟩ := List.mem_flatMap.1 hy
    exact hlt a b (hl'.1 b hb) x hx y hy
theorem edAll_eq {N : List Int} {E : List Ed} (hN : RiseI N) (hE : RiseE E) (hin : EndsIn N E) : edAll N E = E := by
  have hA : ∀ a, RiseE (edA N E a) := fun a => by
    refine rise_flat (p := fun e => e.2.1) (fun b e he => (mem_edAB.1 he).2.2) (fun b b' hbb x hx y hy => ?_) (hN.filter _) fun b _ => ?_
    · have h1 := mem_edAB.1 hx
      have h2 := mem_edAB.1 hy
      unfold LtE
      omega
    · unfold edAB
      show List.Pairwise LtE _
      rw [List.pairwise_map]
      refine (rise_kindsE hE a b).imp fun {x y} h => ?_
      unfold LtE
      simp
      exact h
  have hmA : ∀ a e, e ∈ edA N E a ↔ e ∈ E ∧ e.1 = a := fun a e => by
    unfold edA
    rw [List.mem_flatMap]
    constructor
    · rintro ⟨b, _, h⟩
      have := mem_edAB.1 h
      exact ⟨this.1, this.2.1⟩
    · rintro ⟨h1, h2⟩
      refine ⟨e.2.1, (mem_outsE hin).2 ⟨e.2.2, ?_⟩, mem_edAB.2 ⟨h1, h2, rfl⟩⟩
      rw [← h2]
      exact h1
  refine riseE_ext ?_ hE fun e => ?_
  · refine rise_flat (p := fun e => e.1) (fun a e he => ((hmA a e).1 he).2) (fun a a' haa x hx y hy => ?_) hN fun a _ => hA a
    have h1 := (hmA a x).1 hx
    have h2 := (hmA a' y).1 hy
    unfold LtE
    omega
  · unfold edAll
    rw [List.mem_flatMap]
    constructor
    · rintro ⟨a, _, h⟩
      exact ((hmA a e).1 h).1
    · intro h
      exact ⟨e.1, (hin e.1 e.2.1 ⟨e.2.2, h⟩).1, (hmA e.1 e).2 ⟨h, rfl⟩⟩
end Go.Proofs.YthgkloapnihpaaaGreat
