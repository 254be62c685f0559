/- Take of a queue of numbers, by contracts. -/
import Derived.Test.YtgkdemdpknljkaaDoorQus
namespace Go.Proofs.YtgkdemdpknljkaaDoor
open Go.RowKit Go.Maps Go.WideMaps Go.WideElems Go.ChangeShapes Go.WideShapes

set_option maxHeartbeats 400000 in
theorem qus_take_none (B qb : Nat) (v : Value) (k : Nat) (xs : List Int) (w : World) (h : QuI B w qb v k xs) (hsm : xs.length < 1000000) (hk : k = xs.length) :
    Calls Tryd.prog 18 #[.pointer (some ⟨qb, 0, none⟩)] w fun e w' => e = .returned (.tuple #[.int .i64 0, .bool false]) ∧ Only (fun _ => False) w w' := by
  have hlen := qus_len B qb v k xs w h hsm
  rw [show (xs.length : Int) - k = 0 by omega] at hlen
  have Hlen := Lib.hid hlen
  clear hlen h hk
  go_enter Tryd.func18, Tryd.ntmps18
  go_wp2_with (go_at_call 20; refine Hlen.out.mono ?_; rintro e w' ⟨rfl, nq, rfl⟩)
  go_ret2
  exact ⟨rfl, Only.of_drewN _ _⟩

theorem heap_setCells_low {g : Nat} {T : TypeId} : ∀ (vs : List Value) (o : Nat) (w : World) (cur : Array Value), w.heap[g]? = some (.cells cur T (0, 0)) →
    ∃ cur', (w.setCells g o vs).heap[g]? = some (.cells cur' T (0, 0)) ∧ cur'.size = cur.size ∧ ∀ j, j < o → cur'[j]? = cur[j]?
  | [], _, _, cur, h => ⟨cur, h, rfl, fun _ _ => rfl⟩
  | v :: vs, o, w, cur, h => by
    obtain ⟨cur', h1, h2, h3⟩ := heap_setCells_low vs (o + 1) (w.setCell ⟨g, o, none⟩ v) _ (heap_setCell_cells h v)
    refine ⟨cur', h1, by simpa using h2, fun j hj => ?_⟩
    rw [h3 j (by omega), Array.getElem?_setIfInBounds, if_neg (by omega)]
theorem only_setCells {g : Nat} : ∀ (vs : List Value) (o : Nat) (w : World), Only (fun i => i = g) w (w.setCells g o vs)
  | [], _, w => Only.refl _ w
  | v :: vs, o, w => (Only.of_setCell w ⟨g, o, none⟩ v).trans (only_setCells vs (o + 1) _) (fun _ h => h) (fun _ h => .inl h)
theorem Only.of_below_cells {g : Nat} {w w' : World} {cs : Array Value} (h : w' = w.setRow g cs) : Only (fun i => i = g) w w' := by
  subst h
  exact ⟨rfl, rfl, rfl, by simp [World.setRow], fun k _ hn => setRow_other w g k cs hn⟩

theorem wpList_copy_only {P : Program} {w : World} {ops : Array Oper} {rest : List Oper} {o : Oper} {a : Act} {Q : Exit → Act → World → Prop} (hgd : o.guard = none) (d s : Operand) (dT sT : TypeId)
    (ho : o.op = .call { callee := .builtin .copy, args := #[d, s], argTypes := #[dT, sT] }) (elem : TypeId) (hu : P.underlying dT = some (.slice elem)) (hsz : (P.info? elem).map (·.size) = some 1)
    (dp sp : Option Addr) (dLen dCap sLen sCap : Nat) (hd : a.eval d = .slice dp dLen dCap) (hs : a.eval s = .slice sp sLen sCap)
    (g off : Nat) (cur : List Value) (t : TypeId) (hg : w.heap[g]? = some (.cells cur.toArray t (0, 0))) (cs : List Value) (hn : cs.length = Nat.min sLen dLen)
    (hpos : 0 < cs.length → dp = some ⟨g, off, none⟩ ∧ ∃ ad, sp = some ad ∧ ∀ j v, cs[j]? = some v → w.cell? (ad.add j) = some v)
    (hfit : off + cs.length ≤ cur.length) (h1 : ∀ v ∈ cs, v.oneCell' = true)
    (h : ∀ w', Hid (w'.heap[g]? = some (.cells (splice cur off cs).toArray t (0, 0))) → Hid (Only (fun i => i = g) w w') → wpList P ops Q rest (a.put o.dst (goInt cs.length)) w') :
    wpList P ops Q (o :: rest) a w := by
  by_cases h0 : cs.length = 0
  · obtain rfl : cs = [] := List.eq_nil_of_length_eq_zero h0
    refine wpList_copy_nothing hgd d s dT sT ho elem hu hsz dp sp dLen dCap sLen sCap hd hs (by simpa using hn.symm) ?_
    exact h w (show _ = _ by simpa [splice] using hg) (Only.refl _ _)
  · obtain ⟨rfl, ad, rfl, hsrc⟩ := hpos (by omega)
    refine wpList_copy_own hgd d s dT sT ho elem hu hsz g off dLen dCap ad sLen sCap hd hs cur.toArray t hg cs hn hsrc (by simpa using hfit) h1 ?_
    exact h _ (show _ = _ by simpa [splice] using setRow_heap w g _ _ t _ hg) (Only.of_below_cells rfl)

theorem slice_low (a : Option Addr) (n cap : Nat) (l : Nat) (i : Int) (hi : i = l) (hl : l ≤ n) (w : World) :
    (Instr.slice 22 (.slice a n cap) (some (.int .i64 i)) none none).run Tryd.prog w = .ok (.slice (if cap = l then a else a.map (·.add (l * 1))) (n - l) (cap - l)) w := by
  subst hi
  rw [run_slice_l w 22 a n cap (by kernel_rfl) .i64 l (by omega) (by omega)]
  have hs : (sizeOf (Tryd.prog.elem 22)).run Tryd.prog w = .ok 1 w := by kernel_rfl
  rw [hs]
  simp [Result.andThen, sliced]

theorem slice_high (g n cap h : Nat) (i : Int) (hi : i = h) (hl : h ≤ cap) (w : World) :
    (Instr.slice 22 (.slice (some ⟨g, 0, none⟩) n cap) none (some (.int .i64 i)) none).run Tryd.prog w = .ok (.slice (some ⟨g, 0, none⟩) h cap) w := by
  subst hi
  rw [run_slice_h w 22 (some ⟨g, 0, none⟩) n cap (by kernel_rfl) .i64 h (by omega) (by omega)]
  have hs : (sizeOf (Tryd.prog.elem 22)).run Tryd.prog w = .ok 1 w := by kernel_rfl
  rw [hs]
  simp [Result.andThen, sliced, Addr.add]
theorem slice_low_at (g n cap l : Nat) (hl : l < n) (hn : n ≤ cap) (w : World) :
    (Instr.slice 22 (.slice (some ⟨g, 0, none⟩) n cap) (some (.int .i64 (l : Int))) none none).run Tryd.prog w = .ok (.slice (some ⟨g, l, none⟩) (n - l) (cap - l)) w := by
  rw [slice_low (some ⟨g, 0, none⟩) n cap l l rfl (by omega), if_neg (by omega)]
  have e : (⟨g, 0, none⟩ : Addr).add l = ⟨g, l, none⟩ := by simp [Addr.add]; omega
  simp [e]
theorem clear_at (g n c o : Nat) (cur : Array Value) (w : World) (hn : 0 < n) (hg : w.heap[g]? = some (.cells cur 3 (0, 0))) (hfit : o + n ≤ cur.size) (ty : TypeId) :
    (Builtin.clear_ #[22] ty #[.slice (some ⟨g, o, none⟩) n c]).run Tryd.prog w = .ok (.tuple #[]) (w.setCells g o (List.replicate n (.int .i64 0))) :=
  Lib.run_clear_slice w 22 3 ty (.int .i64 0) Tryd.under22 (fun w => by kernel_rfl) rfl rfl g o n c hn
    (fun j hj => by simp only [World.cell?, hg]; simp; omega) (fun j hj => by simp [World.frozen?, hg])

set_option maxHeartbeats 800000 in
theorem qus_take_some (B qb g cap k : Nat) (cur : Array Value) (xs : List Int) (w : World) (h : QuI B w qb (.slice (some ⟨g, 0, none⟩) xs.length cap) k xs) (hsm : xs.length < 1000000) (hk : k < xs.length)
    (hg : w.heap[g]? = some (.cells cur 3 (0, 0))) (hcur : cur.size = cap) (hcap : xs.length ≤ cap) (htake : cur.toList.take xs.length = I xs) :
    Calls Tryd.prog 18 #[.pointer (some ⟨qb, 0, none⟩)] w fun e w' => e = .returned (.tuple #[.int .i64 (xs.getD k 0), .bool true]) ∧ ∃ k' xs', QuPost B w qb (.slice (some ⟨g, 0, none⟩) xs.length cap) w' (.slice (some ⟨g, 0, none⟩) xs'.length cap) k' xs' ∧ xs'.drop k' = xs.drop (k + 1) ∧ xs'.length ≤ xs.length := by
  have hlen := qus_len B qb _ k xs w h hsm
  have hne : (((xs.length : Int) - k) == 0) = false := by simp; omega
  generalize (xs.length : Int) - k = d at *
  have hgq : g ≠ qb := fun e => h.apart (by simp [Value.ownBlock, e])
  have hcell : ∀ j, j < xs.length → w.cell? ⟨g, j, none⟩ = some (.int .i64 (xs.getD j 0)) := by
    intro j hj
    have : cur[j]? = some (.int .i64 (xs.getD j 0)) := by
      have h1 : (cur.toList.take xs.length)[j]? = (I xs)[j]? := by rw [htake]
      rw [List.getElem?_take, if_pos hj] at h1
      simpa [I, hj] using h1
    simp [World.cell?, hg, this]
  have ck : w.cell? ⟨g, k, none⟩ = some (.int .i64 (xs.getD k 0)) := hcell k hk
  have c0 := h.cell0
  have c1 := h.cell1
  have fk : w.frozen? ⟨g, k, none⟩ = false := by simp [World.frozen?, hg]
  have f1 : w.frozen? ⟨qb, 1, none⟩ = false := h.free 1
  have hki : (k : Int) < xs.length := by omega
  generalize xs.getD k 0 = y at *
  have Hlen := Lib.hid hlen
  have Hh := Lib.hid h
  have Hg := Lib.hid hg
  have Hcur := Lib.hid hcur
  have Htake := Lib.hid htake
  have Hcell := Lib.hid hcell
  clear hlen h hg hcur htake hcell
  go_enter Tryd.func18, Tryd.ntmps18
  go_wp2_with (go_at_call 20; refine Hlen.out.mono ?_; rintro e w' ⟨rfl, n1, rfl⟩)
  go_quiet (fail)
  go_wp2_with fail
  go_region
  go_wp2_with fail
  generalize hw1 : ((w.drewN (n1 + nq + 1)).setCell ⟨g, k, none⟩ (.int .i64 0)).setCell ⟨qb, 1, none⟩ (.int .i64 (↑k + 1)) = w1
  have hb1 : w1.heap[qb]? = some (.cells #[.slice (some ⟨g, 0, none⟩) xs.length cap, .int .i64 ((k : Int) + 1)] 42 (0, 0)) := by
    rw [← hw1]
    refine heap_setCell_cells (cs := #[.slice (some ⟨g, 0, none⟩) xs.length cap, .int .i64 (k : Int)]) ?_ _
    rw [Below.heap_setCell _ _ _ _ (fun e => hgq e.symm)]
    exact Hh.out.cells
  have hg1 : w1.heap[g]? = some (.cells (cur.setIfInBounds k (.int .i64 0)) 3 (0, 0)) := by
    rw [← hw1, Below.heap_setCell _ _ _ _ hgq]
    exact heap_setCell_cells Hg.out _
  have ho1 : Only (fun i => i = qb ∨ i = g) w w1 := by
    rw [← hw1]
    exact ((Only.of_drewN w (n1 + nq + 1)).trans (Only.of_setCell _ _ _) (fun _ (h : False) => h.elim) (fun _ h => .inl (.inr h))).trans (Only.of_setCell _ _ _) (fun _ h => h) (fun _ h => .inl (.inl h))
  clear hw1 ck c0 c1 fk f1 Hlen Hg hne Hcell
  have c0 : w1.cell? ⟨qb, 0, none⟩ = some (.slice (some ⟨g, 0, none⟩) xs.length cap) := by simp [World.cell?, hb1]
  have c1 : w1.cell? ⟨qb, 1, none⟩ = some (.int .i64 ((k : Int) + 1)) := by simp [World.cell?, hb1]
  have Hb1 := Lib.hid hb1
  have Hg1 := Lib.hid hg1
  have Ho1 := Lib.hid ho1
  clear hb1 hg1 ho1
  by_cases hc : (xs.length : Int) ≤ 2 * ((k : Int) + 1)
  · go_quiet (fail)
    go_wp2_with fail
    have ho2 : Only (fun i => i = qb ∨ i = g) w (w1.drewN nq) := Ho1.out.trans (Only.of_drewN w1 nq) (fun _ h => h) (fun _ (h : False) => h.elim)
    have hb2 : (w1.drewN nq).heap[qb]? = some (.cells #[.slice (some ⟨g, 0, none⟩) xs.length cap, .int .i64 ((k : Int) + 1)] 42 (0, 0)) := by rw [(Only.of_drewN w1 nq).block qb (lt_of_block Hb1.out) (fun h => h)]; exact Hb1.out
    have hg2 : (w1.drewN nq).heap[g]? = some (.cells (cur.setIfInBounds k (.int .i64 0)) 3 (0, 0)) := by rw [(Only.of_drewN w1 nq).block g (lt_of_block Hg1.out) (fun h => h)]; exact Hg1.out
    generalize w1.drewN nq = w2 at *
    clear c0 c1 Hb1 Hg1 Ho1
    have c0 : w2.cell? ⟨qb, 0, none⟩ = some (.slice (some ⟨g, 0, none⟩) xs.length cap) := by simp [World.cell?, hb2]
    have c1 : w2.cell? ⟨qb, 1, none⟩ = some (.int .i64 ((k : Int) + 1)) := by simp [World.cell?, hb2]
    have Hb2 := Lib.hid hb2
    have Hg2 := Lib.hid hg2
    have Ho2 := Lib.hid ho2
    clear hb2 hg2 ho2
    have hsl := slice_low (some ⟨g, 0, none⟩) xs.length cap (k + 1) ((k : Int) + 1) (by simp) (by omega)
    obtain ⟨A, hA⟩ : ∃ A, A = (if cap = k + 1 then some (⟨g, 0, none⟩ : Addr) else (some (⟨g, 0, none⟩ : Addr)).map (·.add ((k + 1) * 1))) := ⟨_, rfl⟩
    rw [← hA] at hsl
    have HA := Lib.hid hA
    clear hA
    go_still_tail 13, (by kernel_rfl)
    change wpList _ _ _ _ _ w2.drew
    have hcs : (I (xs.drop (k + 1))).length = Nat.min (xs.length - (k + 1)) xs.length := by simp
    have hfit : 0 + (I (xs.drop (k + 1))).length ≤ (cur.setIfInBounds k (.int .i64 0)).toList.length := by have := Hcur.out; simp; omega
    have hone : ∀ v ∈ I (xs.drop (k + 1)), v.oneCell' = true := by intro v hv; obtain ⟨a, _, rfl⟩ := List.mem_map.1 hv; rfl
    have hpos : 0 < (I (xs.drop (k + 1))).length → (some (⟨g, 0, none⟩ : Addr)) = some ⟨g, 0, none⟩ ∧ ∃ ad, A = some ad ∧ ∀ j v, (I (xs.drop (k + 1)))[j]? = some v → w2.drew.cell? (ad.add j) = some v := by
      intro hp
      simp at hp
      refine ⟨rfl, _, (by rw [HA.out, if_neg (by omega)]; rfl), fun j v hv => ?_⟩
      have e1 : ((⟨g, 0, none⟩ : Addr).add ((k + 1) * 1)).add j = ⟨g, k + 1 + j, none⟩ := by simp [Addr.add]
      rw [e1]
      have hjn : k + 1 + j < xs.length := by
        have := (List.getElem?_eq_some_iff.1 hv).1
        simp at this; omega
      have e2 : (cur.toList.take xs.length)[k + 1 + j]? = (I xs)[k + 1 + j]? := by rw [Htake.out]
      rw [List.getElem?_take, if_pos hjn] at e2
      have e3 : (I (xs.drop (k + 1)))[j]? = (I xs)[k + 1 + j]? := by simp [I]
      show w2.cell? _ = _
      simp only [World.cell?, Hg2.out]
      simp only [Option.isSome_none, Bool.false_eq_true, if_false, Array.getElem?_setIfInBounds]
      rw [if_neg (by omega), ← hv, e3, ← e2]
      simp
    have hg2' : w2.drew.heap[g]? = some (.cells (cur.setIfInBounds k (.int .i64 0)).toList.toArray 3 (0, 0)) := by rw [Array.toArray_toList]; exact Hg2.out
    have Hcs := Lib.hid hcs
    have Hfit := Lib.hid hfit
    have Hone := Lib.hid hone
    have Hpos := Lib.hid hpos
    have Hg2' := Lib.hid hg2'
    have hsl2 := slice_low_at g xs.length cap (xs.length - (k + 1)) (by omega) hcap
    have hsl3 := slice_high g xs.length cap (xs.length - (k + 1)) ((xs.length - (k + 1) : Nat) : Int) rfl (by omega)
    have hX : ∀ w3 : World, Hid (w3.heap[g]? = some (.cells (splice (cur.setIfInBounds k (.int .i64 0)).toList 0 (I (xs.drop (k + 1)))).toArray 3 (0, 0))) → Hid (Only (fun i => i = g) w2.drew w3) →
        w3.cell? ⟨qb, 0, none⟩ = some (.slice (some ⟨g, 0, none⟩) xs.length cap) ∧ ∃ w4, (∀ ty, (Builtin.clear_ #[22] ty #[.slice (some ⟨g, xs.length - (k + 1), none⟩) (xs.length - (xs.length - (k + 1))) (cap - (xs.length - (k + 1)))]).run Tryd.prog w3 = .ok (.tuple #[]) w4) ∧
          w4.cell? ⟨qb, 0, none⟩ = some (.slice (some ⟨g, 0, none⟩) xs.length cap) ∧ w4.cell? ⟨qb, 1, none⟩ = some (.int .i64 ((k : Int) + 1)) ∧ w4.frozen? ⟨qb, 0, none⟩ = false ∧ w4.frozen? ⟨qb, 1, none⟩ = false ∧
          Hid (QuPost B w qb (.slice (some ⟨g, 0, none⟩) xs.length cap) ((w4.setCell ⟨qb, 0, none⟩ (.slice (some ⟨g, 0, none⟩) (xs.length - (k + 1)) cap)).setCell ⟨qb, 1, none⟩ (.int .i64 0)) (.slice (some ⟨g, 0, none⟩) (xs.drop (k + 1)).length cap) 0 (xs.drop (k + 1))) := by
      intro w3 hg3 ho3
      have hb3 : w3.heap[qb]? = some (.cells #[.slice (some ⟨g, 0, none⟩) xs.length cap, .int .i64 ((k : Int) + 1)] 42 (0, 0)) := by rw [ho3.out.block qb (lt_of_block (w := w2.drew) Hb2.out) (fun e => hgq e.symm)]; exact Hb2.out
      have hsz3 : (splice (cur.setIfInBounds k (.int .i64 0)).toList 0 (I (xs.drop (k + 1)))).toArray.size = cap := by rw [List.size_toArray, length_splice _ _ _ hfit]; simpa using Hcur.out
      obtain ⟨cur4, h41, h42, h43⟩ := heap_setCells_low (T := 3) (List.replicate (xs.length - (xs.length - (k + 1))) (.int .i64 0)) (xs.length - (k + 1)) w3 _ hg3.out
      have o4 : Only (fun i => i = g) w3 (w3.setCells g (xs.length - (k + 1)) (List.replicate (xs.length - (xs.length - (k + 1))) (.int .i64 0))) := only_setCells _ _ _
      refine ⟨by simp [World.cell?, hb3], _, clear_at g (xs.length - (xs.length - (k + 1))) (cap - (xs.length - (k + 1))) (xs.length - (k + 1)) _ w3 (by omega) hg3.out (by rw [hsz3]; omega), ?_⟩
      generalize w3.setCells g (xs.length - (k + 1)) (List.replicate (xs.length - (xs.length - (k + 1))) (.int .i64 0)) = w4 at *
      have hb4 : w4.heap[qb]? = some (.cells #[.slice (some ⟨g, 0, none⟩) xs.length cap, .int .i64 ((k : Int) + 1)] 42 (0, 0)) := by rw [o4.block qb (lt_of_block hb3) (fun e => hgq e.symm)]; exact hb3
      refine ⟨by simp [World.cell?, hb4], by simp [World.cell?, hb4], by simp [World.frozen?, hb4], by simp [World.frozen?, hb4], ?_⟩
      have hq5 := heap_setCell_cells hb4 (o := 0) (.slice (some ⟨g, 0, none⟩) (xs.length - (k + 1)) cap)
      have hq6 := heap_setCell_cells hq5 (o := 1) (.int .i64 0)
      have hl : (xs.drop (k + 1)).length = xs.length - (k + 1) := by simp
      refine ⟨⟨?_, ⟨by simp [I], .inr ⟨g, cap, cur4, rfl, ?_, ?_, by rw [hl]; omega, ?_, ?_, ?_⟩⟩, Nat.zero_le _, Hh.out.base⟩, ?_, ?_⟩
      · rw [hl]; exact hq6
      · exact (Hh.out.row.lt g rfl).1
      · rw [Below.heap_setCell _ _ _ _ hgq, Below.heap_setCell _ _ _ _ hgq]; exact h41
      · rcases Hh.out.row.2 with ⟨e1, _⟩ | ⟨g', cap', cur', e1, _, _, _, hc', _⟩
        · cases e1
        · cases e1; exact hc'
      · rw [h42, hsz3]; omega
      · rw [hl, Nat.mul_one]
        apply List.ext_getElem?
        intro j
        rw [List.getElem?_take]
        split
        · rename_i hj
          have e5 := h43 j hj
          rw [Array.getElem?_toList, e5]
          simp only [splice, List.take_zero, List.nil_append, Nat.zero_add, List.getElem?_toArray]
          rw [List.getElem?_append_left (by simp [I]; omega)]
        · rw [List.getElem?_eq_none]
          simp [I]; omega
      · refine (((Ho2.out.trans (Only.of_drew w2) (H := qfoot qb (.slice (some ⟨g, 0, none⟩) xs.length cap)) ?_ (fun _ (h : False) => h.elim)).trans ho3.out (fun _ h => h) ?_).trans o4 (fun _ h => h) ?_).trans ((Only.of_setCell w4 _ _).trans (Only.of_setCell _ _ _) (H := fun i => i = qb) (fun _ h => h) (fun _ h => .inl h)) (fun _ h => h) (fun _ h => .inl (.inl h))
        · rintro i (rfl | rfl)
          · exact .inl rfl
          · exact .inr rfl
        · rintro i rfl; exact .inl (.inr rfl)
        · rintro i rfl; exact .inl (.inr rfl)
      · rintro i (h | h)
        · exact .inl (.inl h)
        · exact .inl (.inr h)
    have HX := Lib.hid hX
    clear hcs hfit hone hpos hg2' hX
    go_wp2_with (with_reducible refine wpList_copy_only rfl _ _ _ _ rfl 3 Tryd.under22 (by kernel_rfl) (some ⟨g, 0, none⟩) A xs.length cap (xs.length - (k + 1)) (cap - (k + 1)) rfl rfl g 0 _ 3 Hg2'.out (I (xs.drop (k + 1))) Hcs.out Hpos.out Hfit.out Hone.out ?_; intro w3 Hg3 Ho3; obtain ⟨cA, w4, hcl, cC, cD, fC, fD, HW⟩ := HX.out w3 Hg3 Ho3)
    go_ret2
    exact ⟨rfl, 0, xs.drop (k + 1), HW.out, by simp, by simp⟩
  · go_quiet (fail)
    go_wp2_with fail
    go_ret2
    have od := Only.of_drewN w1 nq
    refine ⟨rfl, k + 1, xs.set k 0, ⟨⟨?_, ⟨by simp [I], .inr ⟨g, cap, cur.setIfInBounds k (.int .i64 0), rfl, ?_, ?_, by simpa using hcap, ?_, by simpa using Hcur.out, ?_⟩⟩, ?_, Hh.out.base⟩, ?_, ?_⟩, ?_, by simp⟩
    · rw [od.block qb (lt_of_block Hb1.out) (fun h => h), List.length_set]; exact Hb1.out
    · exact (Hh.out.row.lt g rfl).1
    · rw [od.block g (lt_of_block Hg1.out) (fun h => h)]; exact Hg1.out
    · rcases Hh.out.row.2 with ⟨e1, _⟩ | ⟨g', cap', cur', e1, _, _, _, hc', _⟩
      · cases e1
      · cases e1; exact hc'
    · have e1 : (cur.setIfInBounds k (.int .i64 0)).toList = cur.toList.set k (.int .i64 0) := by simp
      rw [e1, List.length_set, Nat.mul_one, List.take_set, Htake.out]
      simp [I]
    · simp; omega
    · refine (Ho1.out.trans od (fun i h => ?_) (fun _ (h : False) => h.elim))
      rcases h with rfl | rfl
      · exact .inl rfl
      · exact .inr rfl
    · rw [List.length_set]; exact fun i h => .inl h
    · rw [List.drop_set_of_lt (by omega)]

/-- What Take leaves where there is an element. -/
structure TakePost (B : Nat) (w : World) (qb : Nat) (v : Value) (k : Nat) (xs : List Int) (w' : World) (v' : Value) (k' : Nat) (xs' : List Int) : Prop where
  q : QuI B w' qb v' k' xs'
  only : Only (qfoot qb v) w w'
  from' : ∀ i, qfoot qb v' i → qfoot qb v i ∨ w.heap.size ≤ i
  left : xs'.drop k' = xs.drop (k + 1)
  small : xs'.length ≤ xs.length

theorem qus_take (B qb : Nat) (v : Value) (k : Nat) (xs : List Int) (w : World) (h : QuI B w qb v k xs) (hsm : xs.length < 1000000) (hk : k < xs.length) :
    Calls Tryd.prog 18 #[.pointer (some ⟨qb, 0, none⟩)] w fun e w' => e = .returned (.tuple #[.int .i64 (xs.getD k 0), .bool true]) ∧ ∃ v' k' xs', TakePost B w qb v k xs w' v' k' xs' := by
  rcases h.row.2 with ⟨_, e2⟩ | ⟨g, cap, cur, rfl, _, hg, hn, _, hcur, htake⟩
  · omega
  · refine (qus_take_some B qb g cap k cur xs w h hsm hk hg (by omega) hn (by rw [← htake, Nat.mul_one])).mono ?_
    rintro e w' ⟨rfl, k', xs', hp, hd, hl⟩
    exact ⟨rfl, _, k', xs', hp.q, hp.only, hp.from', hd, hl⟩

end Go.Proofs.YtgkdemdpknljkaaDoor
