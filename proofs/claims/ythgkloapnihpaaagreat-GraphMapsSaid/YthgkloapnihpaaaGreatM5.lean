/- Helpers, joined: Ha, Hb, Py, Pz, Hc, Hd, He. -/
import Derived.Test.YthgkloapnihpaaaGreatM1
import Derived.Test.YthgkloapnihpaaaGreatM3
import Derived.ArgAppend
import Derived.Laws.OwnMore

/- Lists of numbers that begin anywhere in their block: what stands there, one less at either end, one more, one laid in. -/
namespace Go.Proofs.YthgkloapnihpaaaGreat
open Go.RowKit Go.Maps Go.WideMaps Go.WideElems Go.ChangeShapes Go.WideShapes

/-- A list of numbers of one's own, which may begin anywhere in its block. -/
def IntsO (W : World) (B : Nat) (v : Value) (zs : List Int) : Prop :=
  (v = .slice none 0 0 ∧ zs = []) ∨ ∃ g off cap cur, v = .slice (some ⟨g, off, none⟩) zs.length cap ∧ B ≤ g ∧ W.heap[g]? = some (.cells cur 3 (0, 0)) ∧ zs.length ≤ cap ∧ cap ≤ maxLen ∧ off + cap ≤ cur.size ∧ (cur.toList.drop off).take zs.length = zs.map (Value.int .i64)
theorem intsO_nil (W : World) (B : Nat) : IntsO W B (.slice none 0 0) [] := .inl ⟨rfl, rfl⟩
theorem intsO_row {W : World} {B : Nat} {v : Value} {zs : List Int} (h : W.ownsRow B 3 1 v zs.length (zs.map (Value.int .i64))) : IntsO W B v zs := by
  rcases h.2 with ⟨e, h0⟩ | ⟨g, cap, cur, e, hb, hg, hn, hm, hs, ht⟩
  · exact .inl ⟨e, List.eq_nil_of_length_eq_zero h0⟩
  · rw [Nat.mul_one] at hs ht
    exact .inr ⟨g, 0, cap, cur, e, hb, hg, hn, hm, by omega, ht⟩
theorem intsO_one (w : World) (B : Nat) (hB : B ≤ w.heap.size) (x : Int) : IntsO (w.alloc (.cells #[iv x] 3)) B (.slice (some ⟨w.heap.size, 0, none⟩) 1 1) [x] :=
  .inr ⟨w.heap.size, 0, 1, #[iv x], rfl, hB, World.alloc_heap_new w _, Nat.le_refl _, by decide, by simp, rfl⟩
section
variable {W W' : World} {B : Nat} {v : Value} {zs : List Int}
theorem IntsO.low {B' : Nat} (h : IntsO W B v zs) (hB : B' ≤ B) : IntsO W B' v zs := h.imp id fun ⟨g, off, cap, cur, e, hb, r⟩ => ⟨g, off, cap, cur, e, Nat.le_trans hB hb, r⟩
theorem IntsO.lt (h : IntsO W B v zs) {k : Nat} (hk : v.ownBlock = some k) : B ≤ k ∧ k < W.heap.size := by
  rcases h with ⟨rfl, _⟩ | ⟨g, off, cap, cur, rfl, hb, hg, _⟩
  · simp [Value.ownBlock] at hk
  · have : g = k := by simpa [Value.ownBlock] using hk
    subst this
    exact ⟨hb, (Array.getElem?_eq_some_iff.1 hg).1⟩
theorem IntsO.no (h : IntsO W B v zs) {k : Nat} {o : Obj} (hk : W.heap[k]? = some o) (ho : o.isCells = false) : v.ownBlock ≠ some k := by
  rcases h with ⟨rfl, _⟩ | ⟨g, off, cap, cur, rfl, hb, hg, _⟩
  · simp [Value.ownBlock]
  · intro e1
    have e2 : g = k := by simpa [Value.ownBlock] using e1
    subst e2
    rw [hk] at hg
    cases hg
    cases ho
theorem IntsO.kept {row : Option Nat} (h : IntsO W B v zs) (hg : W.grownBy W' row) (hne : v.ownBlock = none ∨ v.ownBlock ≠ row) : IntsO W' B v zs := by
  rcases h with h | ⟨g, off, cap, cur, rfl, hb, hh, r⟩
  · exact .inl h
  · refine .inr ⟨g, off, cap, cur, rfl, hb, (hg.block g (Array.getElem?_eq_some_iff.1 hh).1 ?_).trans hh, r⟩
    rcases hne with e | e
    · simp [Value.ownBlock] at e
    · exact e
theorem IntsO.below (h : IntsO W B v zs) (hg : Below W.heap.size W W') : IntsO W' B v zs := h.kept (grown_below hg) (by cases v.ownBlock <;> simp)
theorem IntsO.alloc (h : IntsO W B v zs) (o : Obj) : IntsO (W.alloc o) B v zs := h.kept (World.grownBy_alloc W o none) (by cases v.ownBlock <;> simp)
/-- What its value looks like, and what can be read. -/
theorem IntsO.form (h : IntsO W B v zs) : ∃ p c, v = .slice p zs.length c ∧ zs.length ≤ c ∧ (zs ≠ [] → ∃ g off, p = some ⟨g, off, none⟩ ∧ B ≤ g ∧ g < W.heap.size ∧ ∀ k, k < zs.length → W.cell? ⟨g, off + k, none⟩ = some (iv (zs.getD k 0))) := by
  rcases h with ⟨rfl, rfl⟩ | ⟨g, off, cap, cur, rfl, hb, hg, hn, hm, hs, ht⟩
  · exact ⟨none, 0, rfl, Nat.le_refl _, fun hne => absurd rfl hne⟩
  · refine ⟨_, cap, rfl, hn, fun _ => ⟨g, off, rfl, hb, (Array.getElem?_eq_some_iff.1 hg).1, fun k hk => ?_⟩⟩
    have h1 : (zs.map (Value.int .i64))[k]? = some (iv (zs.getD k 0)) := by simp [hk]
    rw [← ht, List.getElem?_take, if_pos hk, List.getElem?_drop] at h1
    simp only [World.cell?, hg]
    simpa using h1
theorem IntsO.sl (h : IntsO W B v zs) : ∃ p c, v = .slice p zs.length c ∧ SlI W p zs := by
  obtain ⟨p, c, e, -, h2⟩ := h.form
  refine ⟨p, c, e, ?_⟩
  by_cases hz : zs = []
  · exact .inl hz
  · obtain ⟨g, off, e2, -, hlt, hc⟩ := h2 hz
    refine .inr ⟨g, off, e2, fun _ => hlt, fun k x hk => ?_⟩
    obtain ⟨hk1, rfl⟩ := List.getElem?_eq_some_iff.1 hk
    have := hc k hk1
    rw [List.getD_eq_getElem?_getD, List.getElem?_eq_getElem hk1] at this
    exact this
/-- Without its first one. -/
theorem IntsO.tail {g off n cap : Nat} {x : Int} (h : IntsO W B (.slice (some ⟨g, off, none⟩) n cap) (x :: zs)) : n = zs.length + 1 ∧ 1 ≤ cap ∧ IntsO W B (.slice (some ⟨g, if cap = 1 then off else off + 1, none⟩) zs.length (cap - 1)) zs := by
  rcases h with ⟨e, h0⟩ | ⟨g', off', cap', cur, e, hb, hg, hn, hm, hs, ht⟩
  · cases h0
  · simp only [Value.slice.injEq, Option.some.injEq, Addr.mk.injEq, and_true] at e
    obtain ⟨⟨rfl, rfl⟩, rfl, rfl⟩ := e
    rw [List.length_cons] at hn ht
    refine ⟨rfl, by omega, .inr ⟨g, if cap = 1 then off else off + 1, cap - 1, cur, rfl, hb, hg, by omega, by omega, ?_, ?_⟩⟩
    · split <;> omega
    · by_cases hc : cap = 1
      · have hz : zs = [] := List.eq_nil_of_length_eq_zero (by omega)
        subst hz
        simp
      · rw [if_neg hc]
        have h1 : ((cur.toList.drop off).take (zs.length + 1)).drop 1 = zs.map (Value.int .i64) := by rw [ht]; rfl
        rw [List.drop_take, List.drop_drop, Nat.add_sub_cancel] at h1
        exact h1
/-- Without its last one. -/
theorem IntsO.pop {p : Option Addr} {k c : Nat} {t : Int} (h : IntsO W B (.slice p k c) (zs ++ [t])) : k = zs.length + 1 ∧ IntsO W B (.slice p zs.length c) zs := by
  rcases h with ⟨e, h0⟩ | ⟨g, off, cap, cur, e, hb, hg, hn, hm, hs, ht⟩
  · simp at h0
  · simp only [Value.slice.injEq] at e
    obtain ⟨rfl, rfl, rfl⟩ := e
    rw [List.length_append, List.length_singleton] at hn ht
    refine ⟨by simp, .inr ⟨g, off, c, cur, rfl, hb, hg, by omega, hm, hs, ?_⟩⟩
    have h1 : ((cur.toList.drop off).take (zs.length + 1)).take zs.length = zs.map (Value.int .i64) := by
      rw [ht, List.map_append, List.take_left' (by simp)]
    rw [List.take_take, Nat.min_eq_left (by omega)] at h1
    exact h1
end
theorem putA_drop (vs : List Value) (cur : Array Value) (off k : Nat) (h : off + k + vs.length ≤ cur.size) : (putA cur (off + k) vs).toList.drop off = (cur.toList.drop off).take k ++ vs ++ (cur.toList.drop off).drop (k + vs.length) := by
  rw [putA_list _ _ _ h, List.append_assoc, List.drop_append_of_le_length (by simp; omega), List.drop_take, Nat.add_sub_cancel_left, List.drop_drop, List.append_assoc, Nat.add_assoc]
theorem ints1 (x : Int) : ∀ u ∈ [iv x], u.oneCell' = true := by
  intro u hu
  simp at hu
  subst hu
  rfl
set_option maxRecDepth 100000 in
/-- 'append' of one number. -/
theorem wpList_append_o {w : World} {ops : Array Oper} {rest : List Oper} {o : Oper} {a : Act} {Q : Exit → Act → World → Prop} (hgd : o.guard = none) (s x : Operand)
    (ho : o.op = .call { callee := .builtin .append, args := #[s, x], argTypes := #[23, 23] })
    (B : Nat) (v : Value) (zs : List Int) (y : Int) (hs : a.eval s = v) (h : IntsO w B v zs) (ad : Addr) (c : Nat) (hx : a.eval x = .slice (some ad) 1 c) (hnews : ∀ j u, [iv y][j]? = some u → w.cell? (ad.add j) = some u)
    (hl : zs.length ≤ 1000000) (hB : B ≤ w.heap.size)
    (hK : ∀ v' w', IntsO w' B v' (zs ++ [y]) → w.grownBy w' v.ownBlock → (∀ k, v'.ownBlock = some k → v.ownBlock = some k ∨ w.heap.size ≤ k) → wpList Tryz.prog ops Q rest (a.put o.dst v') w') : wpList Tryz.prog ops Q (o :: rest) a w := by
  obtain ⟨i0, hi, hz0, hz1, hz2⟩ := info_parts elem3
  have grows : ∀ v' w', w'.ownsRow w.heap.size 3 1 v' (zs.length + 1) (zs.map (Value.int .i64) ++ [iv y]) → w.grownBy w' none → wpList Tryz.prog ops Q rest (a.put o.dst v') w' := fun v' w' h1 h2 => by
    have h3 : IntsO w' w.heap.size v' (zs ++ [y]) := intsO_row (by rw [List.length_append, List.map_append]; exact h1)
    exact hK v' w' (h3.low hB) (h2.but _) (fun k hk => .inr (h3.lt hk).1)
  rcases h with ⟨rfl, rfl⟩ | ⟨g, off, cap, cur, rfl, hb, hg, hn, hm, hss, ht⟩
  · exact wpList_append_grows w hgd s x 23 ho 3 i0 (.int .i64 0) 1 8 Tryz.underlying23 hi hz0 hz1 hz2 rfl (by decide) none 0 0 [] hs (fun _ => ⟨rfl, rfl⟩) rfl (fun b e => by cases e) ad 1 c [iv y] hx rfl hnews (ints1 y) (by decide) (by decide) (by decide) grows
  · have hcell : ∀ j, w.cell? ⟨g, off + j, none⟩ = cur[off + j]? := fun j => by simp [World.cell?, hg]
    refine wpList_append_arg w hgd s x 23 ho 3 i0 (.int .i64 0) 1 8 Tryz.underlying23 hi hz0 hz1 hz2 rfl (by decide) g off zs.length cap (zs.map (Value.int .i64)) hs (by simp) (fun j u hj => ?_) ad 1 c [iv y] hx rfl hnews (ints1 y) (fun hr j hj => ⟨?_, by simp [World.frozen?, hg]⟩) (by unfold maxLen; omega) (by omega) (fun hr => ?_) (fun _ => grows)
    · rw [hcell]
      rw [← ht, List.getElem?_take] at hj
      split at hj
      · rw [List.getElem?_drop] at hj
        simpa using hj
      · cases hj
    · have hj0 : j = 0 := by simpa using hj
      subst hj0
      have := hcell (zs.length * 1)
      rw [Nat.add_zero, this, Array.getElem?_eq_getElem (by omega)]
      rfl
    · rw [Nat.mul_one]
      have hh := heap_setCells_same g 3 [iv y] (off + zs.length) w cur hg
      have hl2 : (zs ++ [y]).length = zs.length + 1 := by simp
      refine hK _ _ (.inr ⟨g, off, cap, _, by rw [hl2], hb, hh, by rw [hl2]; exact hr, hm, by rw [putA_size]; exact hss, ?_⟩) (grown_setCells _ _ _ _) (fun k hk => .inl hk)
      rw [putA_drop _ _ _ _ (by simp; omega), ht, hl2, List.take_left' (by simp), List.map_append]
      rfl
theorem midL (D cs : List Value) (x : Value) (i n : Nat) (hcs : cs.length = n) (hD : D.take n = cs) (hi : i < n) (hr : n + 1 ≤ D.length) :
    ((((D.take (i + 1) ++ cs.drop i ++ D.drop (i + 1 + (n - i))).take i ++ [x] ++ (D.take (i + 1) ++ cs.drop i ++ D.drop (i + 1 + (n - i))).drop (i + 1)))).take (n + 1) = cs.take i ++ x :: cs.drop i := by
  have e1 : (D.take (i + 1) ++ cs.drop i ++ D.drop (i + 1 + (n - i))).take i = cs.take i := by
    rw [List.append_assoc, List.take_append_of_le_length (by simp; omega), List.take_take, Nat.min_eq_left (by omega), ← hD, List.take_take, Nat.min_eq_left (by omega)]
  have e3 : (D.take (i + 1) ++ cs.drop i ++ D.drop (i + 1 + (n - i))).drop (i + 1) = cs.drop i ++ D.drop (i + 1 + (n - i)) := by
    rw [List.append_assoc]
    apply List.drop_left'
    simp
    omega
  rw [e1, e3]
  have := take_put cs x i (D.drop (i + 1 + (n - i))) (by omega)
  rw [hcs] at this
  rw [List.append_assoc]
  exact this
set_option maxHeartbeats 16000000 in
set_option maxRecDepth 100000 in
theorem insert_o {B : Nat} {v : Value} {zs : List Int} (x : Int) (i : Nat) (nb : Nat) (w : World) (h : IntsO w B v zs) (hi : i ≤ zs.length) (hl : zs.length ≤ 100000) (hB : B ≤ w.heap.size) (hnb : w.heap[nb]? = some (.cells #[iv x] 3)) (hne : v.ownBlock ≠ some nb) :
    Calls Tryz.prog 32 #[v, .int .i64 (i : Int), .slice (some ⟨nb, 0, none⟩) 1 1] w fun e w' => ∃ v', e = .returned v' ∧ Hid (IntsO w' B v' (zs.take i ++ x :: zs.drop i) ∧ w.grownBy w' v.ownBlock ∧ ∀ k, v'.ownBlock = some k → v.ownBlock = some k ∨ w.heap.size ≤ k) := by
  have hlz : (zs.take i ++ x :: zs.drop i).length = zs.length + 1 := by simp; omega
  have hcx : ∀ j u, [iv x][j]? = some u → w.cell? ⟨nb, 0 + j, none⟩ = some u := by
    intro j u hj
    rcases j with _ | j
    · simp at hj
      subst hj
      simp [World.cell?, hnb]
    · simp at hj
  have h1x := ints1 x
  have h1c : ∀ u ∈ zs.map (Value.int .i64), u.oneCell' = true := by
    intro u hu
    obtain ⟨y, _, rfl⟩ := List.mem_map.1 hu
    rfl
  have row : ∀ (w' : World) (g off cap : Nat) (cur : Array Value), B ≤ g → w'.heap[g]? = some (.cells cur 3 (0, 0)) → zs.length + 1 ≤ cap → cap ≤ maxLen → off + cap ≤ cur.size → (cur.toList.drop off).take (zs.length + 1) = (zs.take i ++ x :: zs.drop i).map (Value.int .i64) → IntsO w' B (.slice (some ⟨g, off, none⟩) (zs.length + 1) cap) (zs.take i ++ x :: zs.drop i) := by
    intro w' g off cap cur k1 k2 k3 k4 k5 k6
    refine .inr ⟨g, off, cap, cur, by rw [hlz], k1, k2, by rw [hlz]; exact k3, k4, k5, by rw [hlz]; exact k6⟩
  have hml : zs.length + 1 ≤ maxLen := by unfold maxLen; omega
  rcases h with ⟨e, hz⟩ | ⟨g, off, cap, cur, e, hb, hg, hn, hm, hs, ht⟩
  · subst hz e
    have hi0 : i = 0 := by simpa using hi
    subst hi0
    have hc := grownCap_ge w (0 + 1) 0 3
    have hc2 := grownCap_le_maxLen w (0 + 1) 0 3 (by unfold maxLen; omega)
    have hcall := Any2.slices_Insert_int_end_grow Tryz.insertInts none 0 0 nb 0 1 1 [] [iv x] w (by decide) (Nat.le_refl _) (by decide) (by decide) rfl rfl (fun _ => rfl) (fun a e => by cases e) hcx h1x
    replace hcall : Calls Tryz.prog 32 #[.slice none 0 0, .int .i64 ((0 : Nat) : Int), .slice (some ⟨nb, 0, none⟩) 1 1] w fun e w' => e = .returned (.slice (some ⟨w.heap.size, 0, none⟩) (0 + 1) (grownCap w (0 + 1) 0 3)) ∧ w' = w.drew.alloc (.cells (([] ++ [iv x] : List Value).toArray ++ Builtin.zeroCells (Value.int .i64 0).cells (grownCap w (0 + 1) 0 3 - (0 + 1))) 3) := hcall
    generalize grownCap w (0 + 1) 0 3 = C at *
    refine hcall.mono ?_
    rintro e w' ⟨rfl, rfl⟩
    refine ⟨_, rfl, row _ _ 0 _ _ hB (World.alloc_heap_new w.drew _) hc hc2 ?_ (by simp), ?_, fun k hk => ?_⟩
    · rw [Array.size_append, zc_size]
      simp
      omega
    · have := World.grownBy_alloc w.drew (.cells (([] ++ [iv x] : List Value).toArray ++ Builtin.zeroCells (Value.int .i64 0).cells (C - (0 + 1))) 3) none
      exact ⟨this.os, this.tape, this.output, this.size, this.block⟩
    · simp [Value.ownBlock] at hk
      right
      omega
  · subst e
    have hcell : ∀ j, w.cell? ⟨g, off + j, none⟩ = cur[off + j]? := fun j => by simp [World.cell?, hg]
    have hcl : (zs.map (Value.int .i64)).length = zs.length := List.length_map ..
    have hgn : g ≠ nb := fun e => hne (by rw [e]; rfl)
    have hglt : g < w.heap.size := (Array.getElem?_eq_some_iff.1 hg).1
    have hcs : ∀ j u, (zs.map (Value.int .i64))[j]? = some u → w.cell? ⟨g, off + j, none⟩ = some u := by
      intro j u hj
      rw [hcell]
      rw [← ht, List.getElem?_take] at hj
      split at hj
      · rw [List.getElem?_drop] at hj
        simpa using hj
      · cases hj
    have hsp : ∀ j, j < zs.length + 1 → zs.length + 1 ≤ cap → (w.cell? ⟨g, off + j, none⟩).isSome = true := by
      intro j hj hr
      rw [hcell, Array.getElem?_eq_getElem (by omega)]
      rfl
    have hfz : ∀ j, w.frozen? ⟨g, j, none⟩ = false := fun j => by simp [World.frozen?, hg]
    have hcap : cap ≤ 9223372036854775807 := by unfold maxLen at hm; omega
    by_cases hroom : zs.length + 1 ≤ cap
    · by_cases hin : i < zs.length
      · -- in the middle, with room
        refine (Any2.slices_Insert_int_shift Tryz.insertInts g off zs.length cap i nb 0 1 1 (zs.map (Value.int .i64)) [iv x] w hin (by decide) hroom hcap (fun e => hgn e.symm) hcl rfl hcs (fun j hj => hsp j hj hroom) (fun j _ => hfz _) hcx h1c h1x 3 3 1 cur.size (by simp [World.shape?, hnb]) (by simp [World.shape?, hg]) (by omega) (by simp [World.frozen?, hnb]) (by simp [World.frozen?, hnb])).mono ?_
        rintro e w' ⟨rfl, rfl⟩
        have hh := heap_setCells_same g 3 [iv x] (off + i) _ _ (heap_setCells_same g 3 ((zs.map (Value.int .i64)).drop i) (off + (i + 1)) w.drew cur hg)
        refine ⟨_, rfl, row _ _ off _ _ hb hh hroom hm (by rw [putA_size, putA_size]; exact hs) ?_, ?_, fun k hk => .inl hk⟩
        · have hd : ((zs.map (Value.int .i64)).drop i).length = zs.length - i := by simp
          rw [putA_drop _ _ _ _ (by rw [putA_size]; simp; omega), putA_drop _ _ _ _ (by rw [hd]; omega), hd]
          have h9 := midL (cur.toList.drop off) (zs.map (Value.int .i64)) (iv x) i zs.length hcl ht hin (by simp; omega)
          rw [← ints_map_put zs x i]
          exact h9
        · have h5 := (grown_setCells g ((zs.map (Value.int .i64)).drop i) (off + (i + 1)) w.drew).trans (grown_setCells g [iv x] (off + i) _)
          exact ⟨h5.os, h5.tape, h5.output, h5.size, h5.block⟩
      · -- at the end, with room
        have hi2 : i = zs.length := by omega
        subst hi2
        refine (Any2.slices_Insert_int_end_room Tryz.insertInts g off zs.length cap nb 0 1 1 [iv x] w (by decide) hroom hcap rfl (fun j hj => ?_) (fun j _ => hfz _) hcx h1x).mono ?_
        · have := hsp (zs.length + j) (by omega) hroom
          rw [show off + zs.length + j = off + (zs.length + j) from by omega]
          exact this
        rintro e w' ⟨rfl, rfl⟩
        have hh := heap_setCells_same g 3 [iv x] (off + zs.length) w cur hg
        refine ⟨_, rfl, row _ _ off _ _ hb hh hroom hm (by rw [putA_size]; exact hs) ?_, grown_setCells _ _ _ _, fun k hk => .inl hk⟩
        rw [putA_drop _ _ _ _ (by simp; omega), ht, List.take_left' (by simp)]
        simp
    · have hc := grownCap_ge w (zs.length + 1) cap 3
      have hc2 := grownCap_le_maxLen w (zs.length + 1) cap 3 hml
      by_cases hin : i < zs.length
      · -- in the middle, a new row
        have hcall := Any2.slices_Insert_int_grow Tryz.insertInts g off zs.length cap i nb 0 1 1 (zs.map (Value.int .i64)) [iv x] w hin (by decide) hn (by omega) (by omega) hcl rfl hcs hcx h1c h1x
        replace hcall : Calls Tryz.prog 32 #[.slice (some ⟨g, off, none⟩) zs.length cap, .int .i64 (i : Int), .slice (some ⟨nb, 0, none⟩) 1 1] w fun e w' => e = .returned (.slice (some ⟨w.heap.size, 0, none⟩) (zs.length + 1) (grownCap w (zs.length + 1) cap 3)) ∧ w' = (((w.alloc (.cells (((zs.map (Value.int .i64)).take i).toArray ++ Builtin.zeroCells (Value.int .i64 0).cells (zs.length + 1 - i) ++ Builtin.zeroCells (Value.int .i64 0).cells (grownCap w (zs.length + 1) cap 3 - (zs.length + 1))) 3)).drew.setCells w.heap.size i [iv x]).drew).setCells w.heap.size (i + 1) ((zs.map (Value.int .i64)).drop i) := hcall
        generalize grownCap w (zs.length + 1) cap 3 = C at *
        refine hcall.mono ?_
        rintro e w' ⟨rfl, rfl⟩
        obtain ⟨A, hA⟩ : ∃ A, ((zs.map (Value.int .i64)).take i).toArray ++ Builtin.zeroCells (Value.int .i64 0).cells (zs.length + 1 - i) ++ Builtin.zeroCells (Value.int .i64 0).cells (C - (zs.length + 1)) = A := ⟨_, rfl⟩
        have hAs : A.size = C := by
          rw [← hA, Array.size_append, Array.size_append, zc_size, zc_size]
          simp
          omega
        have hAt : A.toList.take i = (zs.map (Value.int .i64)).take i := by
          rw [← hA, Array.toList_append, Array.toList_append, List.append_assoc]
          rw [List.take_append_of_le_length (by simp; omega)]
          simp only [List.take_take, Nat.min_self]
        rw [hA]
        have hh := heap_setCells_same w.heap.size 3 ((zs.map (Value.int .i64)).drop i) (i + 1) ((w.alloc (.cells A 3)).drew.setCells w.heap.size i [iv x]).drew _ (heap_setCells_same w.heap.size 3 [iv x] i (w.alloc (.cells A 3)).drew A (World.alloc_heap_new w _))
        refine ⟨_, rfl, row _ _ 0 _ _ hB hh hc hc2 (by rw [putA_size, putA_size, Nat.zero_add]; exact Nat.le_of_eq hAs.symm) ?_, ?_, fun k hk => ?_⟩
        · have hd : ((zs.map (Value.int .i64)).drop i).length = zs.length - i := by simp
          have hsz : (putA A i [iv x]).size = C := by rw [putA_size]; exact hAs
          rw [putA_list _ _ _ (by rw [hsz, hd]; omega), putA_list _ _ _ (by simp; omega), hd, hAt]
          simp only [List.length_cons, List.length_nil]
          have hti : ((zs.map (Value.int .i64)).take i).length = i := by simp; omega
          have e1 : ((zs.map (Value.int .i64)).take i ++ [iv x] ++ A.toList.drop (i + (0 + 1))).take (i + 1) = (zs.map (Value.int .i64)).take i ++ [iv x] := by
            apply List.take_left'
            simp
            omega
          rw [e1]
          have := take_put (zs.map (Value.int .i64)) (iv x) i ((((zs.map (Value.int .i64)).take i ++ [iv x] ++ A.toList.drop (i + (0 + 1)))).drop (i + 1 + (zs.length - i))) (by simp; omega)
          rw [hcl] at this
          rw [List.append_assoc, List.append_assoc]
          show (List.take i (zs.map (Value.int .i64)) ++ (iv x :: ([] ++ _))).take (zs.length + 1) = _
          rw [List.nil_append, this]
          exact ints_map_put zs x i
        · have h4 := World.grownBy_alloc w (.cells A 3) none
          have h5 := (grown_setCells w.heap.size [iv x] i (w.alloc (.cells A 3)).drew).trans (show ((w.alloc (.cells A 3)).drew.setCells w.heap.size i [iv x]).grownBy _ (some w.heap.size) from ⟨(grown_setCells w.heap.size ((zs.map (Value.int .i64)).drop i) (i + 1) (((w.alloc (.cells A 3)).drew.setCells w.heap.size i [iv x]).drew)).os, (grown_setCells w.heap.size ((zs.map (Value.int .i64)).drop i) (i + 1) (((w.alloc (.cells A 3)).drew.setCells w.heap.size i [iv x]).drew)).tape, (grown_setCells w.heap.size ((zs.map (Value.int .i64)).drop i) (i + 1) (((w.alloc (.cells A 3)).drew.setCells w.heap.size i [iv x]).drew)).output, (grown_setCells w.heap.size ((zs.map (Value.int .i64)).drop i) (i + 1) (((w.alloc (.cells A 3)).drew.setCells w.heap.size i [iv x]).drew)).size, (grown_setCells w.heap.size ((zs.map (Value.int .i64)).drop i) (i + 1) (((w.alloc (.cells A 3)).drew.setCells w.heap.size i [iv x]).drew)).block⟩)
          refine ⟨h5.os.trans h4.os, h5.tape.trans h4.tape, h5.output.trans h4.output, Nat.le_trans h4.size h5.size, fun k hk _ => (h5.block k (Nat.lt_of_lt_of_le hk h4.size) (fun e => ?_)).trans (h4.block k hk (by simp))⟩
          have := Option.some.inj e
          omega
        · simp [Value.ownBlock] at hk
          right
          omega
      · -- at the end, a new row
        have hi2 : i = zs.length := by omega
        subst hi2
        have hcall := Any2.slices_Insert_int_end_grow Tryz.insertInts (some ⟨g, off, none⟩) zs.length cap nb 0 1 1 (zs.map (Value.int .i64)) [iv x] w (by decide) hn (by omega) (by omega) hcl rfl (fun e => by cases e) (fun a e j u hj => by cases e; rw [Addr.add_lit]; exact hcs j u hj) hcx h1x
        replace hcall : Calls Tryz.prog 32 #[.slice (some ⟨g, off, none⟩) zs.length cap, .int .i64 (zs.length : Int), .slice (some ⟨nb, 0, none⟩) 1 1] w fun e w' => e = .returned (.slice (some ⟨w.heap.size, 0, none⟩) (zs.length + 1) (grownCap w (zs.length + 1) cap 3)) ∧ w' = w.drew.alloc (.cells ((zs.map (Value.int .i64) ++ [iv x]).toArray ++ Builtin.zeroCells (Value.int .i64 0).cells (grownCap w (zs.length + 1) cap 3 - (zs.length + 1))) 3) := hcall
        generalize grownCap w (zs.length + 1) cap 3 = C at *
        refine hcall.mono ?_
        rintro e w' ⟨rfl, rfl⟩
        refine ⟨_, rfl, row _ _ 0 _ _ hB (World.alloc_heap_new w.drew _) hc hc2 ?_ ?_, ?_, fun k hk => ?_⟩
        · rw [Array.size_append, zc_size]
          simp
          omega
        · rw [Array.toList_append, List.drop_zero, List.take_append_of_le_length (by simp)]
          rw [List.take_length, List.drop_length]
          rw [List.take_of_length_le (by simp)]
          simp
        · have := World.grownBy_alloc w.drew (.cells ((zs.map (Value.int .i64) ++ [iv x]).toArray ++ Builtin.zeroCells (Value.int .i64 0).cells (C - (zs.length + 1))) 3) none
          exact ⟨this.os, this.tape, this.output, this.size, fun k hk _ => this.block k hk (by simp)⟩
        · simp [Value.ownBlock] at hk
          right
          omega
set_option maxRecDepth 100000 in
/-- A search in such a list. -/
theorem search_o {B : Nat} {v : Value} {zs : List Int} (x : Int) (w : World) (h : IntsO w B v zs) (hr : RiseI zs) (hl : zs.length ≤ 100000) :
    Calls Tryz.prog 31 #[v, iv x] w fun e w' => e = .returned (.tuple #[.int .i64 ((lessN x zs : Nat) : Int), .bool (decide (x ∈ zs))]) ∧ Hid (Below w.heap.size w w') := by
  have hcount : ∀ {l : List Int}, RiseI l → l.countP (· < x) = lessN x l := by
    intro l
    induction l with
    | nil => intro _; rfl
    | cons y l ih =>
      intro hl
      have hl' := List.pairwise_cons.1 hl
      unfold lessN
      by_cases hy : y < x
      · rw [if_pos hy, List.countP_cons_of_pos (by simpa using hy), ih hl'.2]
      · rw [if_neg hy, List.countP_cons_of_neg (by simpa using hy)]
        rw [List.countP_eq_zero]
        intro z hz
        have := hl'.1 z hz
        simp
        omega
  obtain ⟨p, c, rfl, -, h2⟩ := h.form
  by_cases hz : zs = []
  · subst hz
    refine (Any.slices_BinarySearch_int_empty Tryz.searchInts p c x w).mono ?_
    rintro e w' ⟨rfl, rfl⟩
    exact ⟨rfl, Below.refl _ _⟩
  · obtain ⟨g, off, rfl, -, -, hc⟩ := h2 hz
    refine (Any.slices_BinarySearch_int Tryz.searchInts g off zs.length c zs x w (Nat.le_refl _) (by omega) hc (by rw [List.take_length]; exact hr.imp Int.le_of_lt)).mono ?_
    rintro e w' ⟨rfl, q, rfl⟩
    rw [List.take_length, hcount hr]
    refine ⟨?_, drewN_below w q⟩
    have : zs.contains x = decide (x ∈ zs) := by rw [Bool.eq_iff_iff, List.contains_iff_mem, decide_eq_true_eq]
    rw [this]
end Go.Proofs.YthgkloapnihpaaaGreat

/- A list laid behind a list; maps that tell who has been seen; a map of rows, by whom each is led to. -/
namespace Go.Proofs.YthgkloapnihpaaaGreat
open Go.RowKit Go.Maps Go.WideMaps Go.WideElems Go.ChangeShapes Go.WideShapes

theorem ints_one (zs : List Int) : ∀ u ∈ zs.map (Value.int .i64), u.oneCell' = true := by
  intro u hu
  obtain ⟨y, _, rfl⟩ := List.mem_map.1 hu
  rfl
set_option maxRecDepth 100000 in
/-- 'append' of a list of numbers. -/
theorem wpList_append_os {w : World} {ops : Array Oper} {rest : List Oper} {o : Oper} {a : Act} {Q : Exit → Act → World → Prop} (hgd : o.guard = none) (s x : Operand)
    (ho : o.op = .call { callee := .builtin .append, args := #[s, x], argTypes := #[23, 23] })
    (B B2 : Nat) (v v2 : Value) (zs ys : List Int) (hs : a.eval s = v) (h : IntsO w B v zs) (hx : a.eval x = v2) (h2 : IntsO w B2 v2 ys)
    (hl : zs.length + ys.length ≤ 1000000) (hB : B ≤ w.heap.size)
    (hK : ∀ v' w', IntsO w' B v' (zs ++ ys) → w.grownBy w' v.ownBlock → (∀ k, v'.ownBlock = some k → v.ownBlock = some k ∨ w.heap.size ≤ k) → wpList Tryz.prog ops Q rest (a.put o.dst v') w') : wpList Tryz.prog ops Q (o :: rest) a w := by
  obtain ⟨i0, hi, hz0, hz1, hz2⟩ := info_parts elem3
  have grows : ∀ v' w', w'.ownsRow w.heap.size 3 1 v' (zs.length + ys.length) (zs.map (Value.int .i64) ++ ys.map (Value.int .i64)) → w.grownBy w' none → wpList Tryz.prog ops Q rest (a.put o.dst v') w' := fun v' w' h1 h2 => by
    have h3 : IntsO w' w.heap.size v' (zs ++ ys) := intsO_row (by rw [List.length_append, List.map_append]; exact h1)
    exact hK v' w' (h3.low hB) (h2.but _) (fun k hk => .inr (h3.lt hk).1)
  rcases h2 with ⟨rfl, rfl⟩ | ⟨g2, off2, cap2, cur2, rfl, hb2, hg2, hn2, hm2, hss2, ht2⟩
  · -- nothing is laid behind
    have hsame : wpList Tryz.prog ops Q rest (a.put o.dst v) w := hK v w (by rw [List.append_nil]; exact h) ⟨rfl, rfl, rfl, Nat.le_refl _, fun _ _ _ => rfl⟩ (fun k hk => .inl hk)
    refine wpList_plain hgd fun K hK' => ?_
    have hrun : (Builtin.append_ #[23, 23] o.type #[v, .slice none 0 0]).run Tryz.prog w = .ok v w := by
      rcases h with ⟨rfl, rfl⟩ | ⟨g, off, cap, cur, rfl, hb, hg, hn, hm, hss, ht⟩
      · simp [Builtin.append_, run_underlying Tryz.underlying23, sizeOf, typeInfo, hi, Builtin.lenOf, Builtin.firstCells]
      · simp [Builtin.append_, run_underlying Tryz.underlying23, sizeOf, typeInfo, hi, Builtin.lenOf, Builtin.firstCells, hn, storeCells]
    unfold Oper.wp
    simp [execOp, ho, resolve, invoke, builtin, hs, hx, hrun, Result.andThen]
    exact hK' _ _ hsame
  · have hcell2 : ∀ j u, (ys.map (Value.int .i64))[j]? = some u → w.cell? ((⟨g2, off2, none⟩ : Addr).add j) = some u := by
      intro j u hj
      rw [Addr.add_lit]
      rw [← ht2, List.getElem?_take] at hj
      split at hj
      · rw [List.getElem?_drop] at hj
        simp only [World.cell?, hg2]
        simpa using hj
      · cases hj
    rcases h with ⟨rfl, rfl⟩ | ⟨g, off, cap, cur, rfl, hb, hg, hn, hm, hss, ht⟩
    · exact wpList_append_own w hgd s x 23 ho w.heap.size 3 i0 (.int .i64 0) 1 8 Tryz.underlying23 hi hz0 hz1 hz2 rfl (by decide) (.slice none 0 0) 0 [] hs (World.ownsRow_nil _ _ _ _) ⟨g2, off2, none⟩ ys.length cap2 (ys.map (Value.int .i64)) hx (by simp) hcell2 (ints_one ys) (by unfold maxLen; simp at hl; omega) (by simp at hl; omega) (Nat.le_refl _) fun v' w' h1 h2 _ => grows v' w' h1 ⟨h2.os, h2.tape, h2.output, h2.size, fun k hk _ => h2.block k hk (by simp [Value.ownBlock])⟩
    · have hcell : ∀ j, w.cell? ⟨g, off + j, none⟩ = cur[off + j]? := fun j => by simp [World.cell?, hg]
      refine wpList_append_arg w hgd s x 23 ho 3 i0 (.int .i64 0) 1 8 Tryz.underlying23 hi hz0 hz1 hz2 rfl (by decide) g off zs.length cap (zs.map (Value.int .i64)) hs (by simp) (fun j u hj => ?_) ⟨g2, off2, none⟩ ys.length cap2 (ys.map (Value.int .i64)) hx (by simp) hcell2 (ints_one ys) (fun hr j hj => ⟨?_, by simp [World.frozen?, hg]⟩) (by unfold maxLen; omega) (by omega) (fun hr => ?_) (fun _ => grows)
      · rw [hcell]
        rw [← ht, List.getElem?_take] at hj
        split at hj
        · rw [List.getElem?_drop] at hj
          simpa using hj
        · cases hj
      · have hj2 : j < ys.length := by simpa using hj
        have := hcell (zs.length * 1 + j)
        rw [← Nat.add_assoc] at this
        rw [this, Array.getElem?_eq_getElem (by omega)]
        rfl
      · rw [Nat.mul_one]
        have hh := heap_setCells_same g 3 (ys.map (Value.int .i64)) (off + zs.length) w cur hg
        have hl2 : (zs ++ ys).length = zs.length + ys.length := by simp
        have hyl : (ys.map (Value.int .i64)).length = ys.length := List.length_map ..
        have hk := hK (.slice (some ⟨g, off, none⟩) (zs.length + ys.length) cap) (w.setCells g (off + zs.length) (ys.map (Value.int .i64))) (.inr ⟨g, off, cap, putA cur (off + zs.length) (ys.map (Value.int .i64)), by rw [hl2], hb, hh, by rw [hl2]; exact hr, hm, by rw [putA_size]; exact hss, by
          rw [putA_drop _ _ _ _ (by rw [hyl]; omega), ht, hl2, List.take_left' (by simp), List.map_append]⟩) (grown_setCells _ _ _ _) (fun k hk => .inl hk)
        exact hk

theorem IntsO.beside {W W' : World} {B : Nat} {v v' : Value} {zs : List Int} (h : IntsO W B v zs) (hg : W.grownBy W' v'.ownBlock) (hap : ∀ q, v'.ownBlock = some q → v.ownBlock ≠ some q) : IntsO W' B v zs := by
  refine h.kept hg ?_
  cases hv : v'.ownBlock with
  | none => cases v.ownBlock <;> simp
  | some q => exact .inr (hap q hv)
/-- A slice's length. -/
def lenOf : Value → Nat
  | .slice _ n _ => n
  | _ => 0
/-- Nothing at all, as an element. -/
abbrev unitV : Value := .agg #[]
theorem zero79 (w : World) : (zeroValue 108).run Tryz.prog w = .ok unitV w := by kernel_rfl
/-- A map that tells who has been seen. -/
structure SeenAt (mb n : Nat) (L : List Int) (D : DV) (W : World) : Prop where
  dom : DomAt Tryz.prog 3 il fit64 asIs mb n L D W
  val : ∀ a, fit64 a → D.atKey (il a) (.held unitV) = .held unitV
theorem seen_made (w : World) : SeenAt w.heap.size 0 [] (.map []) (w.alloc (.map #[] 0)) := ⟨dom_made Tryz.prog 3 il fit64 asIs w, fun _ _ => rfl⟩
theorem SeenAt.kept {mb n : Nat} {L : List Int} {D : DV} {W W' : World} {row : Option Nat} (h : SeenAt mb n L D W) (hg : W.grownBy W' row) (hne : some mb ≠ row) : SeenAt mb n L D W' := ⟨h.dom.kept hg hne, h.val⟩
theorem SeenAt.look {mb n : Nat} {L : List Int} {D : DV} {W : World} (h : SeenAt mb n L D W) {a : Int} (ha : fit64 a) : (Instr.lookup 83 (.map (some mb)) (iv a) true).run Tryz.prog W = .ok (.tuple #[unitV, .bool (decide (a ∈ L))]) W :=
  look_ok_as h.dom Tryz.underlying83 (zero79 W) ha (h.val a ha)
theorem SeenAt.put {mb n : Nat} {L : List Int} {D : DV} {W : World} (h : SeenAt mb n L D W) {a : Int} (ha : fit64 a) (hn : n < maxLen) :
    ∃ w', (Instr.mapUpdate 83 (.map (some mb)) (iv a) unitV).run Tryz.prog W = .ok () w' ∧ SeenAt mb (n + 1) (L ++ [a]) (D.put (il a) (.held unitV)) w' ∧ W.grownBy w' (some mb) := by
  obtain ⟨w', h1, h2, h3⟩ := put_as h.dom Tryz.underlying83 hn ha unitV (L' := L ++ [a]) (fun y => by simp)
  refine ⟨w', h1, ⟨h2, fun x hx => ?_⟩, h3⟩
  rw [at_put h.dom ha hx]
  by_cases e : x = a
  · rw [if_pos e]
  · rw [if_neg e]; exact h.val x hx
theorem SeenAt.obj {mb n : Nat} {L : List Int} {D : DV} {W : World} (h : SeenAt mb n L D W) : ∃ o, W.heap[mb]? = some o ∧ o.isCells = false := dom_obj h.dom
theorem SeenAt.lt {mb n : Nat} {L : List Int} {D : DV} {W : World} (h : SeenAt mb n L D W) : mb < W.heap.size := h.dom.own.lt
/-- A map of rows: of each node those from which an edge leads to it. -/
structure TurnAt (B tb : Nat) (E : List Ed) (W : World) : Prop where
  ex : ∀ a, fit64 a → ∃ v zs, (∀ W', Below W.heap.size W W' → (Instr.lookup 74 (.map (some tb)) (iv a) false).run Tryz.prog W' = .ok v W') ∧ IntsO W B v zs ∧ zs.Nodup ∧ ∀ y, y ∈ zs ↔ EdR E y a
end Go.Proofs.YthgkloapnihpaaaGreat

/- Graphs, plainly: how far nodes are from one, and the shortest way round. -/
namespace Go.Proofs.YthgkloapnihpaaaGreat
open Classical

/-- So many edges lead from a to s. -/
inductive Steps (R : Int → Int → Prop) (s : Int) : Nat → Int → Prop
  | zero : Steps R s 0 s
  | next {n : Nat} {a b : Int} : R a b → Steps R s n b → Steps R s (n + 1) a
/-- .. at least. -/
def Dst (R : Int → Int → Prop) (s a : Int) (n : Nat) : Prop := Steps R s n a ∧ ∀ m, Steps R s m a → n ≤ m
theorem Dst.same {R : Int → Int → Prop} {s a : Int} {n m : Nat} (h : Dst R s a n) (k : Dst R s a m) : n = m := Nat.le_antisymm (h.2 m k.1) (k.2 n h.1)
theorem dst_ex {R : Int → Int → Prop} {s a : Int} : ∀ (m : Nat), Steps R s m a → ∃ n, n ≤ m ∧ Dst R s a n := by
  intro m
  induction m using Nat.strongRecOn with
  | _ m ih =>
    intro h
    by_cases hm : ∃ k, k < m ∧ Steps R s k a
    · obtain ⟨k, h1, h2⟩ := hm
      obtain ⟨n, h3, h4⟩ := ih k h1 h2
      exact ⟨n, by omega, h4⟩
    · exact ⟨m, Nat.le_refl _, h, fun k hk => Classical.byContradiction fun g => hm ⟨k, by omega, hk⟩⟩
theorem dst_self (R : Int → Int → Prop) (s : Int) : Dst R s s 0 := ⟨.zero, fun _ _ => Nat.zero_le _⟩
theorem dst_zero {R : Int → Int → Prop} {s a : Int} : Dst R s a 0 ↔ a = s := by
  constructor
  · rintro ⟨h, _⟩
    cases h
    rfl
  · rintro rfl
    exact dst_self R a
theorem dst_step {R : Int → Int → Prop} {s a : Int} {n : Nat} (h : Dst R s a (n + 1)) : ∃ b, R a b ∧ Dst R s b n := by
  obtain ⟨h1, h2⟩ := h
  cases h1 with
  | next h3 h4 =>
    rename_i b
    refine ⟨b, h3, h4, fun m hm => ?_⟩
    have := h2 (m + 1) (.next h3 hm)
    omega
theorem dst_edge {R : Int → Int → Prop} {s a b : Int} {n : Nat} (h : R a b) (hb : Dst R s b n) : ∃ m, m ≤ n + 1 ∧ Dst R s a m := dst_ex (n + 1) (.next h hb.1)
theorem steps_leads {R : Int → Int → Prop} {s a : Int} {n : Nat} (h : Steps R s n a) : Leads R a s := by
  induction h with
  | zero => exact .refl _
  | next h1 _ ih => exact .step h1 ih
theorem leads_steps {R : Int → Int → Prop} {s a : Int} (h : Leads R a s) : ∃ n, Steps R s n a := by
  induction h with
  | refl => exact ⟨0, .zero⟩
  | step h1 _ ih =>
    obtain ⟨n, hn⟩ := ih
    exact ⟨n + 1, .next h1 hn⟩
/-- How far it is to s; -1: nothing leads there. -/
noncomputable def dst (R : Int → Int → Prop) (s a : Int) : Int := if h : ∃ n, Dst R s a n then ((Classical.choose h : Nat) : Int) else -1
theorem dst_is {R : Int → Int → Prop} {s a : Int} {n : Nat} : dst R s a = (n : Int) ↔ Dst R s a n := by
  unfold dst
  constructor
  · intro h
    split at h
    · rename_i hx
      have e : Classical.choose hx = n := by omega
      rw [← e]
      exact Classical.choose_spec hx
    · omega
  · intro h
    rw [dif_pos ⟨n, h⟩]
    have := (Classical.choose_spec (⟨n, h⟩ : ∃ n, Dst R s a n)).same h
    omega
theorem dst_neg {R : Int → Int → Prop} {s a : Int} : dst R s a = -1 ↔ ∀ n, ¬ Dst R s a n := by
  unfold dst
  constructor
  · intro h n hn
    rw [dif_pos ⟨n, hn⟩] at h
    omega
  · intro h
    rw [dif_neg (fun ⟨n, hn⟩ => h n hn)]
theorem dst_cases (R : Int → Int → Prop) (s a : Int) : (dst R s a = -1 ∧ ∀ n, ¬ Dst R s a n) ∨ ∃ n : Nat, dst R s a = (n : Int) ∧ Dst R s a n := by
  by_cases h : ∃ n, Dst R s a n
  · obtain ⟨n, hn⟩ := h
    exact .inr ⟨n, dst_is.2 hn, hn⟩
  · exact .inl ⟨dst_neg.2 fun n hn => h ⟨n, hn⟩, fun n hn => h ⟨n, hn⟩⟩
section
variable {R : Int → Int → Prop} {s : Int} {N : List Int}
/-- On the way from one that is so far away there is one at each lesser distance. -/
theorem dst_below : ∀ (n : Nat) (a : Int), Dst R s a n → ∀ m, m ≤ n → ∃ b, Leads R a b ∧ Dst R s b m
  | 0, a, h, m, hm => ⟨a, .refl _, by rw [show m = 0 from by omega]; exact h⟩
  | n + 1, a, h, m, hm => by
    by_cases e : m = n + 1
    · subst e
      exact ⟨a, .refl _, h⟩
    · obtain ⟨b, h1, h2⟩ := dst_step h
      obtain ⟨c, h3, h4⟩ := dst_below n b h2 m (by omega)
      exact ⟨c, .step h1 h3, h4⟩
theorem leads_in (hin : ∀ a b, R a b → a ∈ N ∧ b ∈ N) {a b : Int} (h : Leads R a b) (ha : a ∈ N) : b ∈ N := by
  induction h with
  | refl => exact ha
  | step h1 _ ih => exact ih (hin _ _ h1).2
theorem range_inj (f : Nat → Int) (hf : ∀ i j, f i = f j → i = j) (n : Nat) : ((List.range n).map f).Nodup := by
  rw [List.nodup_iff_pairwise_ne, List.pairwise_map]
  exact (List.nodup_iff_pairwise_ne.1 List.nodup_range).imp fun h e => h (hf _ _ e)
/-- Nothing is farther away than there are nodes. -/
theorem dst_lt (hin : ∀ a b, R a b → a ∈ N ∧ b ∈ N) {a : Int} (ha : a ∈ N) {n : Nat} (h : Dst R s a n) : n < N.length := by
  have hx : ∀ m, ∃ b, m ≤ n → Leads R a b ∧ Dst R s b m := fun m => by
    by_cases hm : m ≤ n
    · obtain ⟨b, h1⟩ := dst_below n a h m hm
      exact ⟨b, fun _ => h1⟩
    · exact ⟨0, fun g => absurd g hm⟩
  have hc := fun m => Classical.choose_spec (hx m)
  have h1 : ((List.range (n + 1)).map fun m => Classical.choose (hx m)).Nodup := by
    rw [List.nodup_iff_pairwise_ne, List.pairwise_map]
    refine List.Pairwise.imp_of_mem ?_ (List.nodup_iff_pairwise_ne.1 List.nodup_range)
    intro i j hi hj hne e
    have e1 := (hc i (by have := List.mem_range.1 hi; omega)).2
    have e2 := (hc j (by have := List.mem_range.1 hj; omega)).2
    have e3 : Classical.choose (hx i) = Classical.choose (hx j) := e
    rw [e3] at e1
    exact hne (e1.same e2)
  have h2 := len_le h1 (m := N) fun x hxm => by
    obtain ⟨m, hm, rfl⟩ := List.mem_map.1 hxm
    exact leads_in hin (hc m (by have := List.mem_range.1 hm; omega)).1 ha
  rw [List.length_map, List.length_range] at h2
  omega
/-- Distances that have been found in so many rounds. -/
noncomputable def farV (R : Int → Int → Prop) (s : Int) (r : Nat) (a : Int) : Int := if dst R s a ≤ (r : Int) then dst R s a else -1
theorem farV_zero (a : Int) : farV R s 0 a = if a = s then 0 else -1 := by
  unfold farV
  rcases dst_cases R s a with ⟨h1, h2⟩ | ⟨n, h1, h2⟩
  · rw [h1, if_pos (by omega), if_neg fun e => h2 0 (dst_zero.2 e)]
  · rw [h1]
    by_cases hn : n = 0
    · subst hn
      rw [if_pos (by omega), if_pos (dst_zero.1 h2)]
      rfl
    · rw [if_neg (by omega), if_neg fun e => hn (h2.same (dst_zero.2 e))]
theorem farV_is {r : Nat} {a : Int} : farV R s r a = (r : Int) ↔ Dst R s a r := by
  unfold farV
  rcases dst_cases R s a with ⟨h1, h2⟩ | ⟨n, h1, h2⟩
  · rw [h1, if_pos (by omega)]
    exact ⟨fun h => by omega, fun h => absurd h (h2 r)⟩
  · rw [h1]
    constructor
    · intro h
      split at h
      · have : n = r := by omega
        subst this
        exact h2
      · omega
    · intro h
      have := h2.same h
      subst this
      rw [if_pos (Int.le_refl _)]
theorem farV_next_is {r : Nat} {a : Int} : farV R s (r + 1) a = (r : Int) ↔ Dst R s a r := by
  unfold farV
  rcases dst_cases R s a with ⟨h1, h2⟩ | ⟨n, h1, h2⟩
  · rw [h1, if_pos (by omega)]
    exact ⟨fun h => by omega, fun h => absurd h (h2 r)⟩
  · rw [h1]
    constructor
    · intro h
      split at h
      · have : n = r := by omega
        subst this
        exact h2
      · omega
    · intro h
      have := h2.same h
      subst this
      rw [if_pos (by omega)]
theorem farV_ge (r : Nat) (a : Int) : -1 ≤ farV R s r a ∧ farV R s r a ≤ r := by
  unfold farV
  rcases dst_cases R s a with ⟨h1, h2⟩ | ⟨n, h1, h2⟩
  · rw [h1, if_pos (by omega)]; omega
  · rw [h1]; split <;> omega
/-- One node within a round, so many others looked at. -/
noncomputable def farM (R : Int → Int → Prop) (s : Int) (N : List Int) (r k : Nat) (a : Int) : Int := if 0 ≤ farV R s r a then farV R s r a else if ∃ b ∈ N.take k, Dst R s b r ∧ R a b then (r : Int) + 1 else -1
theorem farM_zero (r : Nat) (a : Int) : farM R s N r 0 a = farV R s r a := by
  unfold farM
  have := farV_ge (R := R) (s := s) r a
  split
  · rfl
  · rw [if_neg (by simp)]
    omega
theorem farM_stay {r k : Nat} {a : Int} (h : 0 ≤ farM R s N r k a) : farM R s N r (k + 1) a = farM R s N r k a := by
  unfold farM at *
  split at h
  · rename_i h1
    rw [if_pos h1, if_pos h1]
  · rename_i h1
    rw [if_neg h1, if_neg h1]
    split at h
    · rename_i h2
      obtain ⟨b, h3, h4⟩ := h2
      rw [if_pos ⟨b, List.mem_of_mem_take (i := k) (by rw [List.take_take, Nat.min_eq_left (by omega)]; exact h3), h4⟩, if_pos ⟨b, h3, h4⟩]
    · omega
theorem take_more {N : List Int} {k : Nat} (hk : k < N.length) : N.take (k + 1) = N.take k ++ [N.getD k 0] := by
  rw [List.take_add_one, List.getElem?_eq_getElem hk, List.getD_eq_getElem?_getD, List.getElem?_eq_getElem hk]
  rfl
theorem farM_hit {r k : Nat} {a : Int} (hk : k < N.length) (h : farM R s N r k a < 0) (hb : Dst R s (N.getD k 0) r) (he : R a (N.getD k 0)) : farM R s N r (k + 1) a = (r : Int) + 1 := by
  unfold farM at *
  split at h
  · omega
  · rename_i h1
    rw [if_neg h1, if_pos ⟨N.getD k 0, by rw [take_more hk]; simp, hb, he⟩]
theorem farM_miss {r k : Nat} {a : Int} (hk : k < N.length) (hb : ¬ (Dst R s (N.getD k 0) r ∧ R a (N.getD k 0))) : farM R s N r (k + 1) a = farM R s N r k a := by
  unfold farM
  split
  · rfl
  · have : (∃ b ∈ N.take (k + 1), Dst R s b r ∧ R a b) ↔ ∃ b ∈ N.take k, Dst R s b r ∧ R a b := by
      rw [take_more hk]
      constructor
      · rintro ⟨b, h1, h2⟩
        rcases List.mem_append.1 h1 with h3 | h3
        · exact ⟨b, h3, h2⟩
        · rw [List.mem_singleton] at h3
          subst h3
          exact absurd h2 hb
      · rintro ⟨b, h1, h2⟩
        exact ⟨b, List.mem_append_left _ h1, h2⟩
    simp only [this]
theorem farM_all {r : Nat} {a : Int} (hin : ∀ a b, R a b → a ∈ N ∧ b ∈ N) : farM R s N r N.length a = farV R s (r + 1) a := by
  unfold farM
  rw [List.take_length]
  rcases dst_cases R s a with ⟨h1, h2⟩ | ⟨n, h1, h2⟩
  · have e : ∀ r, farV R s r a = -1 := fun r => by unfold farV; rw [h1]; split <;> rfl
    rw [e, e, if_neg (by omega), if_neg]
    rintro ⟨b, -, h3, h4⟩
    obtain ⟨m, -, h5⟩ := dst_edge h4 h3
    exact h2 m h5
  · unfold farV
    rw [h1]
    by_cases hn : n ≤ r
    · rw [if_pos (by omega), if_pos (by omega), if_pos (by omega)]
    · rw [if_neg (by omega : ¬ ((n : Int) ≤ (r : Int))), if_neg (by omega)]
      by_cases hn2 : n = r + 1
      · subst hn2
        obtain ⟨b, h3, h4⟩ := dst_step h2
        rw [if_pos ⟨b, (hin _ _ h3).2, h4, h3⟩, if_pos (Int.le_refl _)]
        omega
      · rw [if_neg (by omega : ¬ ((n : Int) ≤ ((r + 1 : Nat) : Int))), if_neg]
        rintro ⟨b, -, h3, h4⟩
        obtain ⟨m, h5, h6⟩ := dst_edge h4 h3
        have := h6.same h2
        omega
theorem farV_last (hin : ∀ a b, R a b → a ∈ N ∧ b ∈ N) {a : Int} (ha : a ∈ N) : farV R s N.length a = dst R s a := by
  unfold farV
  rcases dst_cases R s a with ⟨h1, h2⟩ | ⟨n, h1, h2⟩
  · rw [h1, if_pos (by omega)]
  · have := dst_lt hin ha h2
    rw [h1, if_pos (by omega)]
end
end Go.Proofs.YthgkloapnihpaaaGreat

/- Graphs, plainly: the shortest way round, where it begins; a search by distance. -/
namespace Go.Proofs.YthgkloapnihpaaaGreat
open Classical

/-- How near the nearest of those is to which an edge leads. -/
def Near (R : Int → Int → Prop) (s a : Int) (k : Nat) : Prop := (∃ b, R a b ∧ Dst R s b k) ∧ ∀ b n, R a b → Dst R s b n → k ≤ n
section
variable {R : Int → Int → Prop} {s : Int} {N : List Int}
theorem near_next {a : Int} {k : Nat} (h : Dst R s a (k + 1)) : Near R s a k := by
  refine ⟨dst_step h, fun b n hb hn => ?_⟩
  obtain ⟨m, h1, h2⟩ := dst_edge hb hn
  have := h2.same h
  omega
theorem near_same {a : Int} {k m : Nat} (h : Near R s a k) (g : Near R s a m) : k = m := by
  obtain ⟨b, h1, h2⟩ := h.1
  obtain ⟨c, h3, h4⟩ := g.1
  exact Nat.le_antisymm (h.2 c m h3 h4) (g.2 b k h1 h2)
/-- The least of those that is so far away. -/
noncomputable def pickD (R : Int → Int → Prop) (s : Int) (l : List Int) (k : Nat) : Option Int := l.find? fun b => decide (Dst R s b k)
/-- The way back, from one to which it is so far behind the next step. -/
noncomputable def wayZ (R : Int → Int → Prop) (s : Int) (O : Int → List Int) : Nat → Int → List Int
  | 0, _ => []
  | k + 1, a => (pickD R s (O a) (k + 1)).getD a :: wayZ R s O k ((pickD R s (O a) (k + 1)).getD a)
/-- In a rising list the first one is the least one. -/
theorem find_least : ∀ {l : List Int} {p : Int → Bool} {x : Int}, RiseI l → (l.find? p = some x ↔ x ∈ l ∧ p x = true ∧ ∀ y ∈ l, p y = true → x ≤ y)
  | [], p, x, _ => by simp
  | a :: l, p, x, h => by
    have h' := List.pairwise_cons.1 h
    rw [List.find?_cons]
    cases hp : p a with
    | true =>
      constructor
      · intro e
        injection e with e
        subst e
        refine ⟨List.mem_cons_self .., hp, fun y hy _ => ?_⟩
        rcases List.mem_cons.1 hy with rfl | hy
        · exact Int.le_refl _
        · exact Int.le_of_lt (h'.1 y hy)
      · rintro ⟨h1, h2, h3⟩
        have h4 := h3 a (List.mem_cons_self ..) hp
        rcases List.mem_cons.1 h1 with e | h1
        · rw [e]
        · have := h'.1 x h1
          omega
    | false =>
      show l.find? p = some x ↔ _
      rw [find_least h'.2]
      constructor
      · rintro ⟨h1, h2, h3⟩
        refine ⟨List.mem_cons_of_mem _ h1, h2, fun y hy hpy => ?_⟩
        rcases List.mem_cons.1 hy with rfl | hy
        · rw [hp] at hpy; cases hpy
        · exact h3 y hy hpy
      · rintro ⟨h1, h2, h3⟩
        refine ⟨?_, h2, fun y hy => h3 y (List.mem_cons_of_mem _ hy)⟩
        rcases List.mem_cons.1 h1 with rfl | h1
        · rw [hp] at h2; cases h2
        · exact h1
theorem find_no {l : List Int} {p : Int → Bool} : l.find? p = none ↔ ∀ y ∈ l, ¬ p y = true := by
  rw [List.find?_eq_none]
theorem pick_is {l : List Int} (hl : RiseI l) {k : Nat} {x : Int} : pickD R s l k = some x ↔ x ∈ l ∧ Dst R s x k ∧ ∀ y ∈ l, Dst R s y k → x ≤ y := by
  unfold pickD
  rw [find_least hl, decide_eq_true_eq]
  simp only [decide_eq_true_eq]
/-- The one that the document takes: of so many the nearest, and of these the least. -/
def BestOk (R : Int → Int → Prop) (s : Int) (N : List Int) (a : Int) (k : Nat) (best : Int) : Prop :=
  (best = -1 ∧ ∀ b ∈ N.take k, ∀ n, ¬ (R a b ∧ Dst R s b n)) ∨
  ∃ j m : Nat, best = (j : Int) ∧ j < k ∧ j < N.length ∧ R a (N.getD j 0) ∧ Dst R s (N.getD j 0) m ∧ (∀ b ∈ N.take k, ∀ n, R a b → Dst R s b n → m ≤ n) ∧ ∀ b ∈ N.take j, R a b → ¬ Dst R s b m
theorem BestOk.zero (a : Int) : BestOk R s N a 0 (-1) := .inl ⟨rfl, by simp⟩
theorem BestOk.skip {a : Int} {k : Nat} {best : Int} (h : BestOk R s N a k best) (hk : k < N.length) (hn : ∀ n, ¬ (R a (N.getD k 0) ∧ Dst R s (N.getD k 0) n)) : BestOk R s N a (k + 1) best := by
  rcases h with ⟨h1, h2⟩ | ⟨j, m, h1, h2, h3, h4, h5, h6, h7⟩
  · refine .inl ⟨h1, fun b hb n => ?_⟩
    rw [take_more hk] at hb
    rcases List.mem_append.1 hb with hb | hb
    · exact h2 b hb n
    · rw [List.mem_singleton] at hb
      subst hb
      exact hn n
  · refine .inr ⟨j, m, h1, by omega, h3, h4, h5, fun b hb n g1 g2 => ?_, h7⟩
    rw [take_more hk] at hb
    rcases List.mem_append.1 hb with hb | hb
    · exact h6 b hb n g1 g2
    · rw [List.mem_singleton] at hb
      subst hb
      exact absurd ⟨g1, g2⟩ (hn n)
theorem BestOk.keep {a : Int} {k j : Nat} (h : BestOk R s N a k (j : Int)) (hk : k < N.length) {m n : Nat} (hm : Dst R s (N.getD j 0) m) (hn : Dst R s (N.getD k 0) n) (hle : m ≤ n) : BestOk R s N a (k + 1) (j : Int) := by
  rcases h with ⟨h1, h2⟩ | ⟨j', m', h1, h2, h3, h4, h5, h6, h7⟩
  · omega
  · have e : j = j' := by omega
    subst e
    have e2 := h5.same hm
    subst e2
    refine .inr ⟨j, m', rfl, by omega, h3, h4, h5, fun b hb n' g1 g2 => ?_, h7⟩
    rw [take_more hk] at hb
    rcases List.mem_append.1 hb with hb | hb
    · exact h6 b hb n' g1 g2
    · rw [List.mem_singleton] at hb
      subst hb
      have := g2.same hn
      omega
theorem BestOk.first {a : Int} {k : Nat} (h : BestOk R s N a k (-1)) (hk : k < N.length) {n : Nat} (hR : R a (N.getD k 0)) (hn : Dst R s (N.getD k 0) n) : BestOk R s N a (k + 1) (k : Int) := by
  rcases h with ⟨h1, h2⟩ | ⟨j', m', h1, h2, h3, h4, h5, h6, h7⟩
  · refine .inr ⟨k, n, rfl, by omega, hk, hR, hn, fun b hb n' g1 g2 => ?_, fun b hb g1 g2 => h2 b hb n ⟨g1, g2⟩⟩
    rw [take_more hk] at hb
    rcases List.mem_append.1 hb with hb | hb
    · exact absurd ⟨g1, g2⟩ (h2 b hb n')
    · rw [List.mem_singleton] at hb
      subst hb
      have := g2.same hn
      omega
  · omega
theorem BestOk.less {a : Int} {k j : Nat} (h : BestOk R s N a k (j : Int)) (hk : k < N.length) {m n : Nat} (hm : Dst R s (N.getD j 0) m) (hR : R a (N.getD k 0)) (hn : Dst R s (N.getD k 0) n) (hlt : n < m) : BestOk R s N a (k + 1) (k : Int) := by
  rcases h with ⟨h1, h2⟩ | ⟨j', m', h1, h2, h3, h4, h5, h6, h7⟩
  · omega
  · have e : j = j' := by omega
    subst e
    have e2 := h5.same hm
    subst e2
    refine .inr ⟨k, n, rfl, by omega, hk, hR, hn, fun b hb n' g1 g2 => ?_, fun b hb g1 g2 => ?_⟩
    · rw [take_more hk] at hb
      rcases List.mem_append.1 hb with hb | hb
      · have := h6 b hb n' g1 g2
        omega
      · rw [List.mem_singleton] at hb
        subst hb
        have := g2.same hn
        omega
    · have := h6 b hb n g1 g2
      omega
theorem BestOk.known {a : Int} {k j : Nat} (h : BestOk R s N a k (j : Int)) : j < N.length ∧ ∃ m, Dst R s (N.getD j 0) m := by
  rcases h with ⟨h1, h2⟩ | ⟨j', m', h1, h2, h3, h4, h5, h6, h7⟩
  · omega
  · have e : j = j' := by omega
    subst e
    exact ⟨h3, m', h5⟩
theorem mem_take_lt (hN : RiseI N) {j : Nat} (hj : j < N.length) {y : Int} (hy : y ∈ N) (hlt : y < N.getD j 0) : y ∈ N.take j := by
  have h1 : N.drop j = N[j] :: N.drop (j + 1) := List.drop_eq_getElem_cons hj
  have h2 : y ∈ N.take j ++ N.drop j := by rw [List.take_append_drop]; exact hy
  rcases List.mem_append.1 h2 with h3 | h3
  · exact h3
  · rw [h1] at h3
    have h4 : RiseI (N.drop j) := List.Pairwise.sublist (List.drop_sublist _ _) hN
    rw [h1] at h4
    have h5 : N.getD j 0 = N[j] := by rw [List.getD_eq_getElem?_getD, List.getElem?_eq_getElem hj]; rfl
    rcases List.mem_cons.1 h3 with e | h3
    · omega
    · have := (List.pairwise_cons.1 h4).1 y h3
      omega
theorem getD_mem {j : Nat} (hj : j < N.length) : N.getD j 0 ∈ N := by
  rw [List.getD_eq_getElem?_getD, List.getElem?_eq_getElem hj]
  exact List.getElem_mem hj
/-- It is the one that the program takes. -/
theorem BestOk.pick (hN : RiseI N) (hin : ∀ a b, R a b → a ∈ N ∧ b ∈ N) {O : Int → List Int} (hO : ∀ a b, b ∈ O a ↔ R a b) (hOr : ∀ a, RiseI (O a)) {a : Int} {best : Int} (h : BestOk R s N a N.length best) {q : Nat} (hq : Near R s a q) :
    ∃ j : Nat, best = (j : Int) ∧ j < N.length ∧ Dst R s (N.getD j 0) q ∧ pickD R s (O a) q = some (N.getD j 0) := by
  obtain ⟨b, hb1, hb2⟩ := hq.1
  rcases h with ⟨h1, h2⟩ | ⟨j, m, h1, h2, h3, h4, h5, h6, h7⟩
  · rw [List.take_length] at h2
    exact absurd ⟨hb1, hb2⟩ (h2 b (hin a b hb1).2 q)
  · rw [List.take_length] at h6
    have e : m = q := Nat.le_antisymm (h6 b (hin a b hb1).2 q hb1 hb2) (hq.2 _ _ h4 h5)
    subst e
    refine ⟨j, h1, h3, h5, (pick_is (hOr a)).2 ⟨(hO a _).2 h4, h5, fun y hy hd => ?_⟩⟩
    rcases Int.lt_or_le y (N.getD j 0) with g | g
    · exact absurd hd (h7 y (mem_take_lt hN h3 (hin a y ((hO a y).1 hy)).2 g) ((hO a y).1 hy))
    · exact g
/-- The document's way round: what has come, where it is, how far it is behind the next step. -/
structure CycSt (R : Int → Int → Prop) (s : Int) (N : List Int) (O : Int → List Int) (L : Nat) (l : List Int) (a : Int) (k : Nat) : Prop where
  whole : l ++ wayZ R s O k a = wayZ R s O L s
  near : Near R s a k
  far : ∀ x ∈ l, ∃ m, k < m ∧ Dst R s x m
  once : l.Nodup
  sub : ∀ x ∈ l, x ∈ N
theorem CycSt.start {O : Int → List Int} {L : Nat} (h : Near R s s L) : CycSt R s N O L [] s L := ⟨rfl, h, by simp, by simp, by simp⟩
theorem CycSt.bound {O : Int → List Int} {L k : Nat} {l : List Int} {a : Int} (hs : s ∈ N) (h : CycSt R s N O L l a k) : (s :: l).length ≤ N.length := by
  refine len_le (List.nodup_cons.2 ⟨fun hm => ?_, h.once⟩) fun x hx => ?_
  · obtain ⟨m, h1, h2⟩ := h.far s hm
    have := h2.same (dst_self R s)
    omega
  · rcases List.mem_cons.1 hx with rfl | hx
    · exact hs
    · exact h.sub x hx
theorem CycSt.next {O : Int → List Int} {L k : Nat} {l : List Int} {a b : Int} (h : CycSt R s N O L l a (k + 1)) (hb : Dst R s b (k + 1)) (hbN : b ∈ N) (hp : pickD R s (O a) (k + 1) = some b) : CycSt R s N O L (l ++ [b]) b k := by
  refine ⟨?_, near_next hb, fun x hx => ?_, ?_, fun x hx => ?_⟩
  · have e : wayZ R s O (k + 1) a = b :: wayZ R s O k b := by
      show (pickD R s (O a) (k + 1)).getD a :: wayZ R s O k ((pickD R s (O a) (k + 1)).getD a) = _
      rw [hp]
      rfl
    have := h.whole
    rw [e] at this
    rw [List.append_assoc]
    exact this
  · rcases List.mem_append.1 hx with hx | hx
    · obtain ⟨m, h1, h2⟩ := h.far x hx
      exact ⟨m, by omega, h2⟩
    · rw [List.mem_singleton] at hx
      subst hx
      exact ⟨k + 1, by omega, hb⟩
  · rw [List.nodup_append]
    refine ⟨h.once, by simp, fun x hx y hy e => ?_⟩
    rw [List.mem_singleton] at hy
    subst hy e
    obtain ⟨m, h1, h2⟩ := h.far x hx
    have := h2.same hb
    omega
  · rcases List.mem_append.1 hx with hx | hx
    · exact h.sub x hx
    · rw [List.mem_singleton] at hx
      subst hx
      exact hbN
theorem CycSt.stop {O : Int → List Int} {L : Nat} {l : List Int} {a : Int} (h : CycSt R s N O L l a 0) : l = wayZ R s O L s := by
  have := h.whole
  unfold wayZ at this
  rw [List.append_nil] at this
  cases L with
  | zero => exact this
  | succ L => exact this

/-- One edge or more lead from a to b. -/
def TCR (R : Int → Int → Prop) (a b : Int) : Prop := ∃ c, R a c ∧ Leads R c b
theorem TCR.leads {a b : Int} (h : TCR R a b) : Leads R a b := by
  obtain ⟨c, h1, h2⟩ := h
  exact .step h1 h2
theorem leads_or {a b : Int} (h : Leads R a b) : a = b ∨ TCR R a b := by
  cases h with
  | refl => exact .inl rfl
  | step h1 h2 => exact .inr ⟨_, h1, h2⟩
theorem TCR.go {a b c : Int} (h : TCR R a b) (k : Leads R b c) : TCR R a c := by
  obtain ⟨d, h1, h2⟩ := h
  exact ⟨d, h1, h2.trans k⟩
/-- Two that reach one another and are not the same are on a cycle. -/
theorem mutual_tcr {a b : Int} (h : Mutual R a b) (hne : a ≠ b) : TCR R a a := by
  rcases leads_or h.1 with e | h1
  · exact absurd e hne
  · exact h1.go h.2
theorem mutual_on {a b : Int} (h : Mutual R a b) (hb : TCR R b b) : TCR R a a := by
  by_cases e : a = b
  · rw [e]; exact hb
  · exact mutual_tcr h e
/-- The nearest of those to which an edge leads from one on a cycle. -/
theorem near_ex (h : TCR R s s) : ∃ k, Near R s s k := by
  obtain ⟨c, h1, h2⟩ := h
  obtain ⟨n, hn⟩ := leads_steps h2
  obtain ⟨m, -, hm⟩ := dst_ex n hn
  have : ∀ m, (∃ b, R s b ∧ Dst R s b m) → ∃ k, Near R s s k := by
    intro m
    induction m using Nat.strongRecOn with
    | _ m ih =>
      intro h
      by_cases g : ∃ j, j < m ∧ ∃ b, R s b ∧ Dst R s b j
      · obtain ⟨j, g1, g2⟩ := g
        exact ih j g1 g2
      · exact ⟨m, h, fun b n hb hn => Classical.byContradiction fun hlt => g ⟨n, by omega, b, hb, hn⟩⟩
  exact this m ⟨c, h1, hm⟩
/-- A group with a cycle in it. -/
def loopP (R : Int → Int → Prop) (p : List Int) : Prop := R (p.headD 0) (p.headD 0) ∨ 1 < p.length
theorem reps_head (hN : RiseI N) {h : Int} (hh : h ∈ reps R N) : (cls R N h).headD 0 = h := by
  have h1 := mem_reps.1 hh
  have hm : h ∈ cls R N h := mem_cls.2 ⟨h1.1, Mutual.refl h⟩
  cases hl : cls R N h with
  | nil => rw [hl] at hm; simp at hm
  | cons x l =>
    have h2 := head_least (rise_cls (R := R) hN h) (x := x) (by rw [hl]; rfl)
    have h3 := mem_cls.1 h2.1
    have h4 := h1.2 x h3.1 h3.2
    have h5 := h2.2 h hm
    show x = h
    omega
theorem loopP_iff (hN : RiseI N) (hin : ∀ a b, R a b → a ∈ N ∧ b ∈ N) {h : Int} (hh : h ∈ reps R N) : loopP R (cls R N h) ↔ TCR R h h := by
  have hm : h ∈ cls R N h := mem_cls.2 ⟨(mem_reps.1 hh).1, Mutual.refl h⟩
  unfold loopP
  rw [reps_head hN hh]
  constructor
  · rintro (h1 | h1)
    · exact ⟨h, h1, .refl _⟩
    · have hnd := riseI_nodup (rise_cls (R := R) hN h)
      have : ∃ y ∈ cls R N h, y ≠ h := by
        refine Classical.byContradiction fun hno => ?_
        have := len_le hnd (m := [h]) fun x hx => by
          rw [List.mem_singleton]
          exact Classical.byContradiction fun g => hno ⟨x, hx, g⟩
        simp at this
        omega
      obtain ⟨y, hy, hne⟩ := this
      exact mutual_tcr (mem_cls.1 hy).2 (fun e => hne e.symm)
  · rintro ⟨c, h1, h2⟩
    by_cases e : c = h
    · subst e
      exact .inl h1
    · right
      have hc : c ∈ cls R N h := mem_cls.2 ⟨(hin h c h1).2, .one h1, h2⟩
      have h5 := len_le (l := [c, h]) (m := cls R N h) (by simp [e]) (by simp [hc, hm])
      have h6 : [c, h].length = 2 := rfl
      omega
/-- Where the way round begins. -/
noncomputable def startZ (R : Int → Int → Prop) (N : List Int) : Option Int := N.find? fun n => decide (TCR R n n)
theorem startZ_is (hN : RiseI N) {x : Int} : startZ R N = some x ↔ x ∈ N ∧ TCR R x x ∧ ∀ y ∈ N, TCR R y y → x ≤ y := by
  unfold startZ
  rw [find_least hN]
  simp only [decide_eq_true_eq]
theorem startZ_no : startZ R N = none ↔ ∀ y ∈ N, ¬ TCR R y y := by
  unfold startZ
  rw [find_no]
  simp only [decide_eq_true_eq]
theorem startZ_rep (hN : RiseI N) {x : Int} (h : startZ R N = some x) : x ∈ reps R N := by
  obtain ⟨h1, h2, h3⟩ := (startZ_is hN).1 h
  exact mem_reps.2 ⟨h1, fun y hy hm => h3 y hy (mutual_on hm.symm h2)⟩
theorem find_map {α β : Type} (f : α → β) (p : β → Bool) : ∀ l : List α, (l.map f).find? p = (l.find? fun a => p (f a)).map f
  | [] => rfl
  | a :: l => by
    rw [List.map_cons, List.find?_cons, List.find?_cons]
    cases p (f a) with
    | true => rfl
    | false => exact find_map f p l
theorem find_congr {p q : Int → Bool} : ∀ {l : List Int}, (∀ x ∈ l, p x = q x) → l.find? p = l.find? q
  | [], _ => rfl
  | a :: l, h => by
    rw [List.find?_cons, List.find?_cons, h a (List.mem_cons_self ..), find_congr fun x hx => h x (List.mem_cons_of_mem _ hx)]
/-- The first group with a cycle in it begins with that one. -/
theorem start_parts (hN : RiseI N) (hin : ∀ a b, R a b → a ∈ N ∧ b ∈ N) : ((partsOf R N).find? fun p => decide (loopP R p)).map (fun p => p.headD 0) = startZ R N := by
  unfold partsOf
  rw [find_map]
  have e : (reps R N).find? (fun a => decide (loopP R (cls R N a))) = (reps R N).find? fun n => decide (TCR R n n) := find_congr fun x hx => by
    rw [decide_eq_decide]
    exact loopP_iff hN hin hx
  rw [e]
  cases hs : startZ R N with
  | none =>
    have h1 : (reps R N).find? (fun n => decide (TCR R n n)) = none := find_no.2 fun y hy => by
      rw [decide_eq_true_eq]
      exact startZ_no.1 hs y (mem_reps.1 hy).1
    rw [h1]
    rfl
  | some x =>
    have h0 := startZ_rep hN hs
    obtain ⟨h1, h2, h3⟩ := (startZ_is hN).1 hs
    have h4 : (reps R N).find? (fun n => decide (TCR R n n)) = some x := (find_least (rise_reps hN)).2 ⟨h0, by rw [decide_eq_true_eq]; exact h2, fun y hy hp => by
      rw [decide_eq_true_eq] at hp
      exact h3 y (mem_reps.1 hy).1 hp⟩
    rw [h4]
    simp only [Option.map_some]
    rw [reps_head hN h0]

/-- A search by distance: those gone through, those that wait, how far each is away. -/
structure BfsOk (R : Int → Int → Prop) (s : Int) (P rim : List Int) (f : Int → Nat) : Prop where
  once : (P ++ rim).Nodup
  self : s ∈ P ++ rim
  exact : ∀ x ∈ P ++ rim, Dst R s x (f x)
  rise : rim.Pairwise fun x y => f x ≤ f y
  top : ∀ x ∈ P ++ rim, ∀ y ∈ rim, f x ≤ f y + 1
  closed : ∀ x ∈ P, ∀ a, R a x → a ∈ P ++ rim
theorem BfsOk.start {f : Int → Nat} (hf : f s = 0) : BfsOk R s [] [s] f := by
  refine ⟨by simp, by simp, fun x hx => ?_, by simp, fun x hx y hy => ?_, by simp⟩
  · simp at hx
    subst hx
    rw [hf]
    exact dst_self R x
  · simp at hx hy
    subst hx hy
    omega
theorem BfsOk.late {P rest : List Int} {x : Int} {f : Int → Nat} (h : BfsOk R s P (x :: rest) f) {a : Int} {n : Nat} (hs : Steps R s n a) : a ∉ P ++ x :: rest → f x + 1 ≤ n := by
  induction hs with
  | zero => exact fun hn => absurd h.self hn
  | @next n a b h1 h2 ih =>
    intro hn
    by_cases hb : b ∈ P ++ x :: rest
    · rcases List.mem_append.1 hb with g | g
      · exact absurd (h.closed b g a h1) hn
      · have g1 := (h.exact b hb).2 n h2
        have g2 : f x ≤ f b := by
          rcases List.mem_cons.1 g with rfl | g
          · exact Nat.le_refl _
          · exact (List.pairwise_cons.1 h.rise).1 b g
        omega
    · have := ih hb
      omega
/-- One more is found. -/
theorem BfsOk.add {P rest : List Int} {x a : Int} {f f' : Int → Nat} (h : BfsOk R s P (x :: rest) f) (ha : a ∉ P ++ x :: rest) (hR : R a x) (hf : f' a = f x + 1) (hf2 : ∀ y ∈ P ++ x :: rest, f' y = f y) : BfsOk R s P (x :: (rest ++ [a])) f' := by
  have hx : x ∈ P ++ x :: rest := by simp
  have hxr : x ∈ x :: rest := by simp
  have split : ∀ y, y ∈ P ++ x :: (rest ++ [a]) → y ∈ P ++ x :: rest ∨ y = a := by
    intro y hy
    simp only [List.mem_append, List.mem_cons, List.not_mem_nil, or_false] at hy ⊢
    rcases hy with h | h | h | h <;> simp [h]
  have splr : ∀ y, y ∈ x :: (rest ++ [a]) → y ∈ x :: rest ∨ y = a := by
    intro y hy
    simp only [List.mem_append, List.mem_cons, List.not_mem_nil, or_false] at hy ⊢
    rcases hy with h | h | h <;> simp [h]
  have inr : ∀ y, y ∈ x :: rest → y ∈ P ++ x :: rest := fun y hy => List.mem_append_right _ hy
  have le1 : ∀ y, y ∈ x :: rest → f x ≤ f y := fun y g => by
    rcases List.mem_cons.1 g with rfl | g
    · exact Nat.le_refl _
    · exact (List.pairwise_cons.1 h.rise).1 y g
  refine ⟨?_, ?_, fun y hy => ?_, ?_, fun y hy z hz => ?_, fun y hy b hb => ?_⟩
  · have e : P ++ x :: (rest ++ [a]) = (P ++ x :: rest) ++ [a] := by simp
    rw [e, List.nodup_append]
    exact ⟨h.once, by simp, fun y hy z hz => by simp at hz; subst hz; rintro rfl; exact ha hy⟩
  · have := h.self
    simp only [List.mem_append, List.mem_cons] at this ⊢
    rcases this with g | g | g <;> simp [g]
  · rcases split y hy with g | rfl
    · rw [hf2 y g]; exact h.exact y g
    · rw [hf]
      exact ⟨.next hR (h.exact x hx).1, fun m hm => h.late hm ha⟩
  · rw [← List.cons_append, List.pairwise_append]
    refine ⟨List.Pairwise.imp_of_mem (fun {p q} hp hq g => ?_) h.rise, by simp, fun y hy z hz => ?_⟩
    · rw [hf2 p (inr p hp), hf2 q (inr q hq)]; exact g
    · simp at hz
      subst hz
      rw [hf2 y (inr y hy), hf]
      exact h.top y (inr y hy) x hxr
  · rcases split y hy with g | rfl <;> rcases splr z hz with k | rfl
    · rw [hf2 y g, hf2 z (inr z k)]; exact h.top y g z k
    · rw [hf2 y g, hf]
      have := h.top y g x hxr
      omega
    · rw [hf, hf2 z (inr z k)]
      have := le1 z k
      omega
    · omega
  · have := h.closed y hy b hb
    simp only [List.mem_append, List.mem_cons] at this ⊢
    rcases this with g | g | g <;> simp [g]
/-- All that lead to it have been found: it is gone through. -/
theorem BfsOk.pop {P rest : List Int} {x : Int} {f : Int → Nat} (h : BfsOk R s P (x :: rest) f) (hall : ∀ a, R a x → a ∈ P ++ x :: rest) : BfsOk R s (P ++ [x]) rest f := by
  have e : P ++ [x] ++ rest = P ++ x :: rest := by simp
  refine ⟨by rw [e]; exact h.once, by rw [e]; exact h.self, by rw [e]; exact h.exact, (List.pairwise_cons.1 h.rise).2, fun y hy z hz => h.top y (by rw [← e]; exact hy) z (List.mem_cons_of_mem _ hz), fun y hy a ha => ?_⟩
  rw [e]
  rcases List.mem_append.1 hy with g | g
  · exact h.closed y g a ha
  · simp at g
    subst g
    exact hall a ha
/-- All that lead there have been found. -/
theorem BfsOk.all {P : List Int} {f : Int → Nat} (h : BfsOk R s P [] f) (a : Int) : a ∈ P ↔ ∃ n, Dst R s a n := by
  constructor
  · intro ha
    exact ⟨_, h.exact a (by simpa using ha)⟩
  · rintro ⟨n, hn, -⟩
    induction hn with
    | zero => simpa using h.self
    | next h1 _ ih => simpa using h.closed _ ih _ h1
end
end Go.Proofs.YthgkloapnihpaaaGreat

/- Who is found from one on, but those that have been seen (gather), by a contract. -/
namespace Go.Proofs.YthgkloapnihpaaaGreat
open Go.RowKit Go.Maps Go.WideMaps Go.WideElems Go.ChangeShapes Go.WideShapes

/-- Plainly: found so far, still to be looked at. -/
structure GthOk (R : Int → Int → Prop) (N S0 : List Int) (k : Int) (F T : List Int) : Prop where
  once : F.Nodup
  new : ∀ x ∈ F, x ∉ S0
  sound : ∀ x ∈ F, Leads (within R fun z => z ∉ S0) k x
  todo : ∀ t ∈ T, t = k ∨ ∃ f ∈ F, R f t
  closed : ∀ x ∈ F, ∀ y, R x y → y ∈ S0 ∨ y ∈ F ∨ y ∈ T
  start : k ∈ T ∨ k ∈ F ∨ k ∈ S0
  sub : ∀ x ∈ F, x ∈ N
  len : T.length ≤ F.length * N.length + 1
theorem snoc_cases {α : Type} (l : List α) : l = [] ∨ ∃ l' x, l = l' ++ [x] := by
  rcases List.eq_nil_or_concat l with h | ⟨l', x, h⟩
  · exact .inl h
  · exact .inr ⟨l', x, by rw [h]; simp⟩
section
variable {R : Int → Int → Prop} {N S0 : List Int} {k t : Int} {F T ys : List Int}
theorem GthOk.begin (R : Int → Int → Prop) (N S0 : List Int) (k : Int) : GthOk R N S0 k [] [k] := ⟨by simp, by simp, by simp, by simp, by simp, by simp, by simp, by simp⟩
theorem GthOk.skip (h : GthOk R N S0 k F (T ++ [t])) (ht : t ∈ S0 ++ F) : GthOk R N S0 k F T := by
  refine ⟨h.once, h.new, h.sound, fun x hx => h.todo x (List.mem_append_left _ hx), fun x hx y hxy => ?_, ?_, h.sub, ?_⟩
  · rcases h.closed x hx y hxy with g | g | g
    · exact .inl g
    · exact .inr (.inl g)
    · rcases List.mem_append.1 g with g | g
      · exact .inr (.inr g)
      · rw [List.mem_singleton] at g
        subst g
        rcases List.mem_append.1 ht with g | g
        · exact .inl g
        · exact .inr (.inl g)
  · rcases h.start with g | g | g
    · rcases List.mem_append.1 g with g | g
      · exact .inl g
      · rw [List.mem_singleton] at g
        subst g
        rcases List.mem_append.1 ht with g | g
        · exact .inr (.inr g)
        · exact .inr (.inl g)
    · exact .inr (.inl g)
    · exact .inr (.inr g)
  · have := h.len
    simp at this
    omega
theorem GthOk.push (hin : ∀ a b, R a b → a ∈ N ∧ b ∈ N) (hk : k ∈ N) (h : GthOk R N S0 k F (T ++ [t])) (ht : t ∉ S0 ++ F) (hy : ∀ y, y ∈ ys ↔ R t y) (hyl : ys.length ≤ N.length) : GthOk R N S0 k (F ++ [t]) (T ++ ys) := by
  have ht0 : t ∉ S0 ∧ t ∉ F := by simpa using ht
  have hl : Leads (within R fun z => z ∉ S0) k t := by
    rcases h.todo t (by simp) with e | ⟨f, h1, h2⟩
    · rw [e]; exact .refl _
    · exact (h.sound f h1).snoc ⟨h2, h.new f h1, ht0.1⟩
  refine ⟨?_, fun x hx => ?_, fun x hx => ?_, fun x hx => ?_, fun x hx y hxy => ?_, ?_, fun x hx => ?_, ?_⟩
  · rw [List.nodup_append]
    exact ⟨h.once, by simp, fun x hx y hy e => by rw [List.mem_singleton] at hy; subst hy e; exact ht0.2 hx⟩
  · rcases List.mem_append.1 hx with g | g
    · exact h.new x g
    · rw [List.mem_singleton] at g; subst g; exact ht0.1
  · rcases List.mem_append.1 hx with g | g
    · exact h.sound x g
    · rw [List.mem_singleton] at g; subst g; exact hl
  · rcases List.mem_append.1 hx with g | g
    · rcases h.todo x (List.mem_append_left _ g) with e | ⟨f, h1, h2⟩
      · exact .inl e
      · exact .inr ⟨f, List.mem_append_left _ h1, h2⟩
    · exact .inr ⟨t, by simp, (hy x).1 g⟩
  · rcases List.mem_append.1 hx with g | g
    · rcases h.closed x g y hxy with g | g | g
      · exact .inl g
      · exact .inr (.inl (List.mem_append_left _ g))
      · rcases List.mem_append.1 g with g | g
        · exact .inr (.inr (List.mem_append_left _ g))
        · rw [List.mem_singleton] at g; subst g; exact .inr (.inl (by simp))
    · rw [List.mem_singleton] at g
      subst g
      exact .inr (.inr (List.mem_append_right _ ((hy y).2 hxy)))
  · rcases h.start with g | g | g
    · rcases List.mem_append.1 g with g | g
      · exact .inl (List.mem_append_left _ g)
      · rw [List.mem_singleton] at g; subst g; exact .inr (.inl (by simp))
    · exact .inr (.inl (List.mem_append_left _ g))
    · exact .inr (.inr g)
  · rcases List.mem_append.1 hx with g | g
    · exact h.sub x g
    · rw [List.mem_singleton] at g
      subst g
      rcases h.todo x (by simp) with e | ⟨f, h1, h2⟩
      · rw [e]; exact hk
      · exact (hin _ _ h2).2
  · have := h.len
    simp only [List.length_append, List.length_singleton, Nat.add_mul, Nat.one_mul] at this ⊢
    omega
theorem GthOk.done (h : GthOk R N S0 k F []) (y : Int) : y ∈ F ↔ k ∉ S0 ∧ Leads (within R fun z => z ∉ S0) k y := by
  constructor
  · intro hy
    refine ⟨fun hk => ?_, h.sound y hy⟩
    cases h.sound y hy with
    | refl => exact h.new _ hy hk
    | step g _ => exact g.2.1 hk
  · rintro ⟨hk, hl⟩
    have hkF : k ∈ F := by
      rcases h.start with g | g | g
      · simp at g
      · exact g
      · exact absurd g hk
    have : ∀ {a b : Int}, Leads (within R fun z => z ∉ S0) a b → a ∈ F → b ∈ F := by
      intro a b hab
      induction hab with
      | refl => exact id
      | step g _ ih =>
        intro ha
        refine ih ?_
        rcases h.closed _ ha _ g.1 with q | q | q
        · exact absurd q g.2.2
        · exact q
        · simp at q
    exact this hl hkF
theorem GthOk.bound (h : GthOk R N S0 k F T) : F.length ≤ N.length := len_le h.once h.sub
end
theorem gth_measure {n f t y : Nat} (hf : f + 1 ≤ n) (hy : y ≤ n) : (n - (f + 1)) * (n + 1) + (t + y) < (n - f) * (n + 1) + (t + 1) := by
  obtain ⟨d, rfl⟩ : ∃ d, n = f + 1 + d := ⟨n - (f + 1), by omega⟩
  rw [show f + 1 + d - (f + 1) = d from by omega, show f + 1 + d - f = d + 1 from by omega, Nat.add_mul d 1, Nat.one_mul]
  omega
/-- Where it stands. -/
structure Gth (w : World) (mb n0 : Nat) (R : Int → Int → Prop) (N S0 : List Int) (k : Int) (F T : List Int) (D : DV) (v7 v8 : Value) (W : World) : Prop where
  seen : SeenAt mb (n0 + F.length) (S0 ++ F) D W
  found : IntsO W w.heap.size v7 F
  todo : IntsO W w.heap.size v8 T
  apart : ∀ q, v7.ownBlock = some q → v8.ownBlock ≠ some q
  gro : w.grownBy W (some mb)
  ok : GthOk R N S0 k F T
def flipR (E : List Ed) (a b : Int) : Prop := EdR E b a
set_option maxHeartbeats 32000000 in
set_option maxRecDepth 100000 in
theorem gather_any {B tb mb n0 : Nat} {N S0 : List Int} {E : List Ed} {D0 : DV} (V : World) (hE : EndsIn N E) (hT : TurnAt B tb E V) (k : Int) (hk : k ∈ N) (hfit : ∀ a ∈ N, fit64 a) (hN : N.length ≤ 500) (hn0 : n0 ≤ 1000) (hmb : V.heap.size ≤ mb) (w : World) (hV : Below V.heap.size V w) (hS : SeenAt mb n0 S0 D0 w) :
    Calls Tryz.prog 40 #[iv k, .map (some tb), .map (some mb)] w fun e w' => ∃ v F D, e = .returned v ∧ Hid (SeenAt mb (n0 + F.length) (S0 ++ F) D w' ∧ IntsO w' w.heap.size v F ∧ w.grownBy w' (some mb) ∧ F.Nodup ∧ (∀ x ∈ F, x ∈ N) ∧ ∀ y, y ∈ F ↔ k ∉ S0 ∧ Leads (within (flipR E) fun z => z ∉ S0) k y) := by
  have HT := Lib.hid hT
  have HE : Hid (∀ a b, flipR E a b → a ∈ N ∧ b ∈ N) := fun a b h => ⟨(hE b a h).2, (hE b a h).1⟩
  have Hk := Lib.hid hk
  have Hfit := Lib.hid hfit
  have HN := Lib.hid hN
  have Hn0 := Lib.hid hn0
  have Hmb := Lib.hid hmb
  have HV := Lib.hid hV
  have Hmlt := Lib.hid hS.lt
  obtain ⟨W1, hW1⟩ : ∃ W, w.alloc (.cells #[iv k] 3) = W := ⟨_, rfl⟩
  have H0 : Hid (Gth w mb n0 (flipR E) N S0 k [] [k] D0 (.slice none 0 0) (.slice (some ⟨w.heap.size, 0, none⟩) 1 1) W1) := by
    rw [← hW1]
    exact ⟨by rw [List.append_nil]; exact hS.kept (World.grownBy_alloc w _ none) (by simp), intsO_nil _ _, intsO_one w _ (Nat.le_refl _) k, fun q h => by simp [Value.ownBlock] at h, World.grownBy_alloc w _ _, GthOk.begin _ _ _ _⟩
  obtain ⟨n, hn⟩ : ∃ n, N.length = n := ⟨_, rfl⟩
  have Hn := Lib.hid hn
  clear hT hE hk hfit hN hn0 hmb hV hS hn
  go_enter Tryz.func40, Tryz.ntmps40
  go_wp2
  go_loopw [7, 8] (fun v7 v8 wr => ∃ F T D, Hid (Gth w mb n0 (flipR E) N S0 k F T D v7 v8 wr)) (fun v7 v8 _ => (n - lenOf v7) * (n + 1) + lenOf v8)
  case atStart => exact ⟨[], [k], D0, H0⟩
  case round =>
    obtain ⟨F, T, D, HG⟩ := hrel
    obtain ⟨p7, c7, rfl, -, -⟩ := HG.out.found.form
    obtain ⟨p8, c8, rfl, hc8, hsl⟩ := HG.out.todo.form
    rcases snoc_cases T with rfl | ⟨T, t, rfl⟩
    · simp only [List.length_nil] at *
      have HD := Lib.hid HG.out.ok.done
      clear hsl hc8
      go_wp2
      go_ret
      exact ⟨_, F, D, rfl, HG.out.seen, HG.out.found, HG.out.gro, HG.out.ok.once, HG.out.ok.sub, HD.out⟩
    · obtain ⟨g8, off8, rfl, hgb, hgl, hcell⟩ := hsl (by simp)
      obtain ⟨m, hm⟩ : ∃ m, T.length = m := ⟨_, rfl⟩
      have hlen : (T ++ [t]).length = m + 1 := by simp [hm]
      have ct := hcell m (by rw [hlen]; omega)
      rw [show (T ++ [t]).getD m 0 = t from by subst hm; simp] at ct
      have hmb0 : m ≤ 250001 := by
        have h1 := HG.out.ok.len
        have h2 := HG.out.ok.bound
        have h3 := HN.out
        have h4 : F.length * N.length ≤ 500 * 500 := Nat.mul_le_mul (by omega) h3
        rw [hlen] at h1
        omega
      have htN : t ∈ N := by
        rcases HG.out.ok.todo t (by simp) with e | ⟨f, h1, h2⟩
        · rw [e]; exact Hk.out
        · exact (HE.out _ _ h2).2
      have Hpop := Lib.hid HG.out.todo.pop
      rw [hm, hlen] at Hpop
      have hft := Hfit.out t htN
      have hlook := HG.out.seen.look hft
      have HtN := Lib.hid htN
      have Hft := Lib.hid hft
      have Hm := Lib.hid hm
      obtain ⟨W2, hW2⟩ : ∃ W, wr.alloc (.cells #[] 108) = W := ⟨_, rfl⟩
      rw [hlen] at hc8 ⊢
      have hg0 : decide ((0 : Int) < (m : Int) + 1) = true := by simp
      have hwr : IntKind.i64.wrap (m : Int) = (m : Int) := by rw [IntKind.wrap_i64]; omega
      have hix1 : (m : Int) < (m : Int) + 1 := by omega
      have hix2 : (m : Int) < ((m + 1 : Nat) : Int) := by omega
      have hix3 : m < m + 1 := by omega
      have hix0 : (0 : Int) ≤ (m : Int) := by omega
      have Hlen := Lib.hid hlen
      clear hsl hcell hlen htN hft hm hgb hgl
      by_cases hts : t ∈ S0 ++ F
      · rw [decide_eq_true hts] at hlook
        have HS := Lib.hid (HG.out.ok.skip hts)
        clear hts
        go_wp2
        have hA : Hid (wr.grownBy W2 none) := by rw [← hW2]; exact World.grownBy_alloc wr _ none
        exact ⟨⟨F, T, D, HG.out.seen.kept hA.out (by simp), HG.out.found.kept hA.out (by simp [Value.ownBlock]; cases p7 <;> simp), Hpop.out.2.kept hA.out (by simp [Value.ownBlock]), HG.out.apart, HG.out.gro.trans (hA.out.but _), HS.out⟩, by simp [lenOf]⟩
      · rw [decide_eq_false hts] at hlook
        have hA : wr.grownBy W2 none := by rw [← hW2]; exact World.grownBy_alloc wr _ none
        have hS2 := HG.out.seen.kept hA (by simp)
        have hF2 : IntsO W2 w.heap.size (.slice p7 F.length c7) F := HG.out.found.kept hA (by cases (Value.slice p7 F.length c7).ownBlock <;> simp)
        have hT2 : IntsO W2 w.heap.size (.slice (some ⟨g8, off8, none⟩) m c8) T := by
          exact Hpop.out.2.kept hA (by simp [Value.ownBlock])
        have hFb := HG.out.ok.bound
        have hn' := HN.out
        have hn0' := Hn0.out
        obtain ⟨W3, hup, hS3, hg3⟩ := hS2.put Hft.out (by unfold maxLen; omega)
        obtain ⟨o2, ho2, hc2⟩ := hS2.obj
        have hF3 := hF2.kept hg3 (.inr (hF2.no ho2 hc2))
        have hT3 := hT2.kept hg3 (.inr (hT2.no ho2 hc2))
        have HS3 := Lib.hid hS3
        have HF3 := Lib.hid hF3
        have HT3 := Lib.hid hT3
        have Hg3 : Hid (w.grownBy W3 (some mb)) := (HG.out.gro.trans (hA.but _)).trans hg3
        obtain ⟨v9, ys, hl9, ho9, hny, hys⟩ := HT.out.ex t Hft.out
        have hyl : ys.length ≤ N.length := len_le hny fun y hy => (HE.out t y ((hys y).1 hy)).2
        have HP := Lib.hid (HG.out.ok.push HE.out Hk.out hts hys hyl)
        have Ho9 := Lib.hid ho9
        have Hyl := Lib.hid hyl
        have Hl9 : Hid (∀ W', Below V.heap.size V W' → (Instr.lookup 74 (.map (some tb)) (iv t) false).run Tryz.prog W' = .ok v9 W') := hl9
        have Hap : Hid (∀ q, (Value.slice p7 F.length c7).ownBlock = some q → (Value.slice (some ⟨g8, off8, none⟩) m c8).ownBlock ≠ some q) := HG.out.apart
        have HFl : Hid (F.length + 1 ≤ n) := by
          have h1 := HP.out.bound
          rw [List.length_append, List.length_singleton, Hn.out] at h1
          exact h1
        have hFl2 : F.length ≤ 1000000 := by omega
        clear hts hA hS2 hF2 hT2 hFb hn' hn0' hS3 hg3 ho2 hc2 hF3 hT3 hl9 ho9 hny hys hyl
        go_wp2_with (first
          | (at_builtin; refine wpList_append_o rfl _ _ rfl w.heap.size (.slice p7 F.length c7) F t rfl (HF3.out.alloc _) ⟨W3.heap.size, 0, none⟩ 1 rfl (news_new W3 #[iv t] 3) hFl2 (by have := Hg3.out.size; simp; omega) ?_
             intro v7 w5 hf5 hg5 hl5
             have hgw5 : w.grownBy w5 (some mb) := (Hg3.out.trans (World.grownBy_alloc W3 (.cells #[iv t] 3) _)).andThen hg5 (fun q e => .inl (HF3.out.lt e).1)
             have hS5 := (HS3.out.kept (World.grownBy_alloc W3 (.cells #[iv t] 3) none) (by simp)).kept hg5 (fun e => by
               obtain ⟨o, ho, hc⟩ := HS3.out.obj
               exact HF3.out.no ho hc e.symm)
             have hT5 := (HT3.out.alloc (.cells #[iv t] 3)).kept hg5 (.inr fun e => Hap.out g8 e.symm rfl)
             have hb5 : Below V.heap.size V w5 := HV.out.grown hgw5 HV.out.size (fun q e => by cases e; exact Hmb.out)
             have hl9 := Hl9.out w5 hb5
             have hap5 : ∀ q, v7.ownBlock = some q → (Value.slice (some ⟨g8, off8, none⟩) m c8).ownBlock ≠ some q := fun q h1 h2 => by
               rcases hl5 q h1 with h3 | h3
               · exact Hap.out q h3 h2
               · have h4 := (HT3.out.lt h2).2
                 simp at h3
                 omega
             have HF5 := Lib.hid hf5
             have HS5 := Lib.hid hS5
             have HT5 := Lib.hid hT5
             have Hgw5 := Lib.hid hgw5
             have H95 := Lib.hid (Ho9.out.below hb5)
             have Hap5 := Lib.hid hap5
             clear hf5 hg5 hl5 hgw5 hS5 hT5 hb5 hap5)
          | (at_builtin; refine wpList_append_os rfl _ _ rfl w.heap.size B (.slice (some ⟨g8, off8, none⟩) m c8) v9 T ys rfl HT5.out rfl H95.out (by have := Hm.out; have := Hyl.out; have := HN.out; omega) Hgw5.out.size ?_
             intro v8 w6 ht6 hg6 hl6
             have hF6 := HF5.out.kept hg6 (.inr fun e => Hap5.out _ e rfl)
             have hS6 := HS5.out.kept hg6 (fun e => by
               obtain ⟨o, ho, hc⟩ := HS5.out.obj
               exact HT5.out.no ho hc e.symm)
             have hgw6 : w.grownBy w6 (some mb) := Hgw5.out.andThen hg6 (fun q e => .inl (HT5.out.lt e).1)
             have HG6 : Hid (Gth w mb n0 (flipR E) N S0 k (F ++ [t]) (T ++ ys) (D.put (il t) (.held unitV)) v7 v8 w6) := by
               refine ⟨by rw [List.length_append, List.length_singleton, ← List.append_assoc]; exact hS6, hF6, ht6, fun q h1 h2 => ?_, hgw6, HP.out⟩
               rcases hl6 q h2 with h3 | h3
               · exact Hap5.out q h1 h3
               · have := (HF5.out.lt h1).2
                 omega
             obtain ⟨p9, c9, e9, -, -⟩ := ht6.form
             obtain ⟨p10, c10, e10, -, -⟩ := hF6.form
             clear ht6 hg6 hl6 hF6 hS6 hgw6)
          | go_in)
        have h6 := HG6.out
        rw [e9, e10] at h6
        simp only [List.length_append, List.length_singleton] at h6
        refine ⟨⟨F ++ [t], T ++ ys, _, h6⟩, ?_⟩
        have h7 := gth_measure (t := T.length) HFl.out (show ys.length ≤ n by rw [← Hn.out]; exact Hyl.out)
        rw [← Hm.out]
        exact h7
end Go.Proofs.YthgkloapnihpaaaGreat

/- Lists of numbers sorted where they lie; pairs of edges. -/
namespace Go.Proofs.YthgkloapnihpaaaGreat
open Go.RowKit Go.Maps Go.WideMaps Go.WideElems Go.ChangeShapes Go.WideShapes
open Go.Sort (grow putRow Holds putCells mapBlock onCells heap_grow_old)

theorem heap_sortedO {w : World} {g m off : Nat} {os : Array Obj} {cur : Array Value} {e : TypeId} {fr : Nat × Nat} (d : Array Int) (hb : w.heap[g]? = some (.cells cur e fr)) :
    (grow (putRow (Value.int .i64) (Sort.ahead w m) g off d) os).heap[g]? = some (.cells (putCells (Value.int .i64) off d cur) e fr) := by
  have hg : g < w.heap.size := (Array.getElem?_eq_some_iff.1 hb).1
  rw [heap_grow_old _ _ (by simpa [putRow, mapBlock, Sort.ahead] using hg)]
  simp [putRow, mapBlock, Sort.ahead, Array.getElem?_modify, hb, onCells]
theorem grownBy_sortedO {w : World} {g m off : Nat} {os : Array Obj} (d : Array Int) : w.grownBy (grow (putRow (Value.int .i64) (Sort.ahead w m) g off d) os) (some g) := by
  refine ⟨rfl, rfl, rfl, by simp [grow, putRow, mapBlock, Sort.ahead], fun k hk hne => ?_⟩
  rw [heap_grow_old _ _ (by simpa [putRow, mapBlock, Sort.ahead] using hk)]
  have : g ≠ k := fun e => hne (by rw [e])
  simp [putRow, mapBlock, Sort.ahead, Array.getElem?_modify, this]
theorem take_sortedO (cur : Array Value) (l : List Int) (off : Nat) (h : off + l.length ≤ cur.size) : ((putCells (Value.int .i64) off l.toArray cur).toList.drop off).take l.length = l.map (Value.int .i64) := by
  refine List.ext_getElem? fun j => ?_
  by_cases hj : j < l.length
  · have hc : off + j < cur.size := by omega
    rw [List.getElem?_take_of_lt hj, List.getElem?_drop, Array.getElem?_toList]
    simp [putCells, hj, hc]
  · rw [List.getElem?_take_eq_none (by omega), List.getElem?_eq_none (by simp; omega)]
set_option maxRecDepth 100000 in
/-- The library's sort. -/
theorem sort_o (B : Nat) (v : Value) (l : List Int) (w : World) (h : IntsO w B v l) (hn : l.length ≤ 1000000) (hd : l.Nodup) :
    Calls Tryz.prog 41 #[v] w fun e w' => e = .returned (.tuple #[]) ∧ ∃ l', Hid (RiseI l' ∧ (∀ z, z ∈ l' ↔ z ∈ l) ∧ l'.length = l.length ∧ IntsO w' B v l' ∧ w.grownBy w' v.ownBlock) := by
  rcases h with ⟨rfl, rfl⟩ | ⟨g, off, cap, cur, rfl, hB, hg, hn1, hm, hs, ht⟩
  · exact (Any.slices_Sort_int_none Tryz.sortInts none 0 w).mono fun e w' ⟨h1, h2⟩ => ⟨h1, [], List.Pairwise.nil, fun _ => Iff.rfl, rfl, h2 ▸ intsO_nil _ _, h2 ▸ World.grownBy.refl w _⟩
  · have hgs : g < w.heap.size := (Array.getElem?_eq_some_iff.1 hg).1
    have hh : Holds (Value.int .i64) w g off l.toArray := by
      intro j hj
      have hj' : j < l.length := by simpa using hj
      refine ⟨?_, by simp [World.frozen?, hg]⟩
      have h1 : (l.map (Value.int .i64))[j]? = some (iv (l.getD j 0)) := by simp [hj']
      rw [← ht, List.getElem?_take, if_pos hj', List.getElem?_drop] at h1
      simp only [World.cell?, hg]
      simp [hj'] at h1 ⊢
      exact h1
    have hcon := Any.slices_Sort_int Tryz.sortInts g off cap l w hh hgs (by omega)
    refine hcon.mono fun e w' ⟨h1, m, os, hw⟩ => ⟨h1, l.mergeSort fun x y => decide (x ≤ y), ?_, ?_, ?_, ?_, ?_⟩
    · have hp := List.mergeSort_perm l fun x y => decide (x ≤ y)
      have hs := List.pairwise_mergeSort (le := fun x y : Int => decide (x ≤ y)) (fun a b c h1 h2 => by simp at *; omega) (fun a b => by simp; omega) l
      have hnd := hp.symm.nodup hd
      refine (hs.and hnd).imp (fun {p q} hpq => ?_)
      have h2 : p ≤ q := by simpa using hpq.1
      have h3 := hpq.2
      omega
    · intro z
      exact (List.mergeSort_perm l fun x y => decide (x ≤ y)).mem_iff
    · exact List.length_mergeSort l
    · rw [hw]
      have hl2 := List.length_mergeSort (le := fun x y : Int => decide (x ≤ y)) l
      refine .inr ⟨g, off, cap, _, by rw [hl2], hB, heap_sortedO _ hg, by rw [hl2]; exact hn1, hm, by simp [putCells]; exact hs, take_sortedO cur _ off (by omega)⟩
    · rw [hw]
      exact grownBy_sortedO _
/-- The pairs of nodes between which an edge leads. -/
def prE (E : List Ed) : List Pr := E.map fun e => (e.1, e.2.1)
theorem mem_prE {E : List Ed} {a b : Int} : (a, b) ∈ prE E ↔ EdR E a b := by
  unfold prE EdR
  rw [List.mem_map]
  constructor
  · rintro ⟨⟨x, y, k⟩, h, e⟩
    cases e
    exact ⟨k, h⟩
  · rintro ⟨k, h⟩
    exact ⟨(a, b, k), h, rfl⟩
theorem tc_tcr {L : List Pr} {R : Int → Int → Prop} (hL : ∀ a b, (a, b) ∈ L ↔ R a b) {a b : Int} : TC L a b ↔ TCR R a b := by
  constructor
  · intro h
    induction h with
    | one h1 => exact ⟨_, (hL _ _).1 h1, .refl _⟩
    | more _ h2 ih => exact ih.go (.one ((hL _ _).1 h2))
  · rintro ⟨c, h1, h2⟩
    have : ∀ {c b : Int}, Leads R c b → TC L a c → TC L a b := by
      intro c b h
      induction h with
      | refl => exact id
      | step h1 _ ih => exact fun g => ih (.more g ((hL _ _).2 h1))
    exact this h2 (.one ((hL _ _).2 h1))
theorem invI : ∀ key kl, keyOf Tryz.prog 3 key = some kl → ∃ x, key = Value.int .i64 x := fun _ _ h => by
  obtain ⟨x, e, _⟩ := Maps.keyOf_int_inv Tryz.underlying3 h
  exact ⟨x, e⟩
theorem grown_of_below {W W' : World} (h : W.grownBy W' none) : Below W.heap.size W W' := ⟨h.os, h.tape, h.output, h.size, fun k hk => h.block k hk (by simp)⟩
end Go.Proofs.YthgkloapnihpaaaGreat

/- Graphs: Reach, by a contract. -/
namespace Go.Proofs.YthgkloapnihpaaaGreat
open Go.RowKit Go.Maps Go.WideMaps Go.WideElems Go.ChangeShapes Go.WideShapes

/-- A search: who has been found, in a list and in a map; who is still to be looked at. -/
structure RcSt (w : World) (mb : Nat) (N F T : List Int) (D : DV) (v5 v7 : Value) (W : World) : Prop where
  seen : SeenAt mb F.length F D W
  found : IntsO W w.heap.size v5 F
  todo : IntsO W w.heap.size v7 T
  apart : ∀ q, v5.ownBlock = some q → v7.ownBlock ≠ some q
  gro : w.grownBy W none
  once : F.Nodup
  sub : ∀ x ∈ F, x ∈ N
theorem RcSt.kept {w : World} {mb : Nat} {N F T : List Int} {D : DV} {v5 v7 : Value} {W W' : World} (h : RcSt w mb N F T D v5 v7 W) (hg : W.grownBy W' none) : RcSt w mb N F T D v5 v7 W' :=
  ⟨h.seen.kept hg (by simp), h.found.kept hg (by cases v5.ownBlock <;> simp), h.todo.kept hg (by cases v7.ownBlock <;> simp), h.apart, h.gro.trans hg, h.once, h.sub⟩
/-- A block made since is written: none of these. -/
theorem RcSt.keptAt {w : World} {mb : Nat} {N F T : List Int} {D : DV} {v5 v7 : Value} {W W' : World} {rg : Nat} (h : RcSt w mb N F T D v5 v7 W) (hg : W.grownBy W' (some rg)) (hne : mb ≠ rg) (hlo : w.heap.size ≤ rg) {o : Obj} (ho : W.heap[rg]? = some o) (hc : o.isCells = false) : RcSt w mb N F T D v5 v7 W' :=
  ⟨h.seen.kept hg (by simpa using hne), h.found.kept hg (.inr (h.found.no ho hc)), h.todo.kept hg (.inr (h.todo.no ho hc)), h.apart, h.gro.andThen hg (fun j e => .inl (by cases e; exact hlo)), h.once, h.sub⟩
theorem RcSt.bound {w : World} {mb : Nat} {N F T : List Int} {D : DV} {v5 v7 : Value} {W : World} (h : RcSt w mb N F T D v5 v7 W) : F.length ≤ N.length := len_le h.once h.sub
/-- Within a round: what has been added. -/
structure RcIn (w : World) (mb rg ib c : Nat) (N F0 T0 outs new done : List Int) (DI : DV) (left : Lit → Bool) (cnt : Nat) (D : DV) (v5 v7 : Value) (W : World) : Prop where
  st : RcSt w mb N (F0 ++ new) (T0 ++ new) D v5 v7 W
  rng : RngX Tryz.prog 3 il fit64 asIs ib rg c outs done DI left cnt W
  ofs : ∀ x ∈ new, x ∈ outs
  all : ∀ x ∈ done, x ∈ F0 ++ new
end Go.Proofs.YthgkloapnihpaaaGreat
