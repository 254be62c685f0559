/- Helpers, joined: Dn, Do, La, Lb. -/
import Derived.Test.YthgkloapnihpaaaGreatM3
import Derived.StillTailTactics

/- The document's Node, by a contract; boxes of two, written. -/
namespace Go.Proofs.YthgkloapnihpaaaGreat
open Go.RowKit Go.Maps Go.WideMaps Go.WideElems Go.ChangeShapes Go.WideShapes

theorem results_row1 {P : Program} {fn : Func} {p : Tmp} {ty : TypeId} (h : fn.results = #[.cell p ty]) (tmps : Array Value) (w : World) (g : Nat) (t : TypeId) (cs : Array Value) (fr : Nat × Nat) (d : TypeDesc)
    (hp : tmps.getD p undef = .pointer (some ⟨g, 0, none⟩)) (hg : w.heap[g]? = some (.cells cs t fr))
    (hu : P.underlying ty = some d) (hd : (match d with | .struct _ | .array _ _ => true | _ => false) = true) (hi : (P.info? ty).map (·.size) = some cs.size) :
    (results fn tmps).run P w = .ok (.agg cs) w := by
  have hp' : tmps[p]?.getD undef = .pointer (some ⟨g, 0, none⟩) := by simpa using hp
  simp only [results, h]
  simp [hp', asAddr, run_loadVar_row w g t ty cs fr d hg hu hd hi]
theorem two_at {W : World} {b : Nat} {x y : Value} {t : TypeId} (h : W.heap[b]? = some (.cells #[x, y] t)) : W.cell? ⟨b, 0, none⟩ = some x ∧ W.cell? ⟨b, 1, none⟩ = some y := two_cells h
theorem setCell_far {W : World} {rb o k : Nat} {p : Value} (h : k ≠ rb) : (W.setCell ⟨rb, o, none⟩ p).heap[k]? = W.heap[k]? := Below.heap_setCell _ _ _ _ (fun e => h e)
theorem setCell_size (W : World) (a : Addr) (p : Value) : (W.setCell a p).heap.size = W.heap.size := by simp [World.setCell]
theorem setCell_below {w W : World} {rb o : Nat} {p : Value} (h : w.heap.size ≤ rb) : Below w.heap.size W (W.setCell ⟨rb, o, none⟩ p) := ⟨rfl, rfl, rfl, by simp [World.setCell], fun k hk => setCell_far (by omega)⟩
theorem SlI.set {W : World} {a : Option Addr} {l : List Int} {rb o : Nat} {p : Value} (h : SlI W a l) (hb : ∀ b o, a = some ⟨b, o, none⟩ → l ≠ [] → b ≠ rb) : SlI (W.setCell ⟨rb, o, none⟩ p) a l := by
  rcases h with h | ⟨b, off, e, hl, h⟩
  · exact .inl h
  · by_cases hz : l = []
    · exact .inl hz
    · refine .inr ⟨b, off, e, fun hx => by rw [setCell_size]; exact hl hx, fun k x hk => ?_⟩
      exact (World.cell?_of_block (setCell_far (hb b off e hz))).trans (h k x hk)
theorem SlE.set {W : World} {a : Option Addr} {l : List Ed} {rb o : Nat} {p : Value} (h : SlE W a l) (hb : ∀ b o, a = some ⟨b, o, none⟩ → l ≠ [] → b ≠ rb) : SlE (W.setCell ⟨rb, o, none⟩ p) a l := by
  rcases h with h | ⟨b, off, e, hl, h⟩
  · exact .inl h
  · by_cases hz : l = []
    · exact .inl hz
    · refine .inr ⟨b, off, e, fun hx => by rw [setCell_size]; exact hl hx, fun k x hk => ?_⟩
      obtain ⟨h1, h2, h3⟩ := h k x hk
      exact ⟨(World.cell?_of_block (setCell_far (hb b off e hz))).trans h1, (World.cell?_of_block (setCell_far (hb b off e hz))).trans h2, (World.cell?_of_block (setCell_far (hb b off e hz))).trans h3⟩
theorem SlE.lt {W : World} {g o : Nat} {l : List Ed} (h : SlE W (some ⟨g, o, none⟩) l) (hl : l ≠ []) : g < W.heap.size := by
  rcases h with h | ⟨b, off, e, h1, -⟩
  · exact absurd h hl
  · have h2 : g = b := by simpa using congrArg (fun x => x.map Addr.block) e
    rw [h2]
    exact h1 hl
/-- A box of two, written: the first, the second, both. -/
theorem set_first {V : World} {rb : Nat} {x y : Value} {t : TypeId} (p : Value) (hM : V.heap[rb]? = some (.cells #[x, y] t)) : (V.setCell ⟨rb, 0, none⟩ p).heap[rb]? = some (.cells #[p, y] t) := heap_setCell_same V rb 0 _ t p hM
theorem set_second {V : World} {rb : Nat} {x y : Value} {t : TypeId} (p : Value) (hM : V.heap[rb]? = some (.cells #[x, y] t)) : (V.setCell ⟨rb, 1, none⟩ p).heap[rb]? = some (.cells #[x, p] t) := heap_setCell_same V rb 1 _ t p hM
theorem two_thaw {V : World} {rb j : Nat} {x y : Value} {t : TypeId} (hM : V.heap[rb]? = some (.cells #[x, y] t)) : V.frozen? ⟨rb, j, none⟩ = false := by simp [World.frozen?, hM]
theorem two_any (w : World) (x y : Value) (t : TypeId) : ∃ W, w.alloc (.cells #[x, y] t) = W ∧ Hid (Below w.heap.size w W) ∧ Hid (w.heap.size < W.heap.size) ∧ Hid (W.heap[w.heap.size]? = some (.cells #[x, y] t)) :=
  ⟨_, rfl, (Below.refl _ _).alloc (Nat.le_refl _) _, by show _ < _; simp, World.alloc_heap_new w _⟩
/-- Where a list that is answered lies: where the one that was given lies, or in new memory. -/
def NewAt (B : Nat) (a0 a : Option Addr) : Prop := a = a0 ∨ ∀ g o, a = some ⟨g, o, none⟩ → B ≤ g
/-- A graph of the document's in memory. -/
structure DgAt (W : World) (a a' : Option Addr) (N : List Int) (E : List Ed) : Prop where
  nodes : SlI W a N
  edges : SlE W a' E
  n0 : N = [] → a = none
  e0 : E = [] → a' = none
theorem DgAt.below {W W' : World} {a a' : Option Addr} {N : List Int} {E : List Ed} (h : DgAt W a a' N E) (hb : Below W.heap.size W W') : DgAt W' a a' N E := ⟨h.nodes.below (grown_below hb), h.edges.below hb, h.n0, h.e0⟩
theorem DgAt.ltN {W : World} {a a' : Option Addr} {N : List Int} {E : List Ed} (h : DgAt W a a' N E) {b o : Nat} (e : a = some ⟨b, o, none⟩) : b < W.heap.size := by
  by_cases hN : N = []
  · rw [h.n0 hN] at e
    cases e
  · have h1 := h.nodes
    rw [e] at h1
    exact SlI.lt h1 hN
theorem DgAt.ltE {W : World} {a a' : Option Addr} {N : List Int} {E : List Ed} (h : DgAt W a a' N E) {b o : Nat} (e : a' = some ⟨b, o, none⟩) : b < W.heap.size := by
  by_cases hN : E = []
  · rw [h.e0 hN] at e
    cases e
  · have h1 := h.edges
    rw [e] at h1
    exact SlE.lt h1 hN
theorem DgAt.set {W : World} {a a' : Option Addr} {N : List Int} {E : List Ed} {rb o : Nat} {p : Value} (h : DgAt W a a' N E) (h1 : ∀ b o, a = some ⟨b, o, none⟩ → b ≠ rb) (h2 : ∀ b o, a' = some ⟨b, o, none⟩ → b ≠ rb) : DgAt (W.setCell ⟨rb, o, none⟩ p) a a' N E :=
  ⟨h.nodes.set fun b o e _ => h1 b o e, h.edges.set fun b o e _ => h2 b o e, h.n0, h.e0⟩
theorem putI_ne (l : List Int) (x : Int) : putI l x ≠ [] := fun e => by
  have : x ∈ putI l x := mem_putI.2 (.inl rfl)
  rw [e] at this
  simp at this
set_option maxHeartbeats 32000000 in
set_option maxRecDepth 100000 in
theorem dnode_any (a a' : Option Addr) (c c' : Nat) (N : List Int) (E : List Ed) (k : Int) (hn : N.length ≤ 100000) (w : World) (h : DgAt w a a' N E) :
    Calls Tryz.prog 8 #[gval a N.length c a' E.length c', iv k] w fun e w' => ∃ a2 c2, e = .returned (gval a2 (putI N k).length c2 a' E.length c') ∧ Hid (DgAt w' a2 a' (putI N k) E ∧ Below w.heap.size w w' ∧ NewAt w.heap.size a a2) := by
  obtain ⟨n, hnn⟩ : ∃ n, N.length = n := ⟨_, rfl⟩
  obtain ⟨m, hmm⟩ : ∃ m, E.length = m := ⟨_, rfl⟩
  obtain ⟨W1, hW1, Hb1, hs1, Hx1⟩ := two_any w (.slice a N.length c) (.slice a' E.length c') 28
  obtain ⟨W2, hW2, Hb2, hs2, Hx2⟩ := two_any W1 (.slice none 0 0) (.slice none 0 0) 28
  have hB12 : Below w.heap.size w W2 := Hb1.out.trans (Hb2.out.mono Hb1.out.size)
  have HB12 := Lib.hid hB12
  have HX1 : Hid (W2.heap[w.heap.size]? = some (.cells #[.slice a N.length c, .slice a' E.length c'] 28)) := (Hb2.out.block _ hs1.out).trans Hx1.out
  have HP := Lib.hid (puti_at a c N k hn W2 (h.nodes.below (grown_below hB12)))
  have H := Lib.hid h
  obtain ⟨x0, x1⟩ := two_at HX1.out
  rw [hnn, hmm] at *
  clear hB12 h
  go_enter Tryz.func8, Tryz.ntmps8
  go_wp2_with (first
    | (go_at_call 23; (with_reducible refine HP.out.mono ?_); rintro e w3 ⟨a2, c2, rfl, K3⟩
       have hX3 : w3.heap[w.heap.size]? = some (.cells #[.slice a n c, .slice a' m c'] 28) := (K3.out.2.1.block _ (by have := hs1.out; have := hs2.out; omega)).trans HX1.out
       have hY3 : w3.heap[W1.heap.size]? = some (.cells #[.slice none 0 0, .slice none 0 0] 28) := (K3.out.2.1.block _ hs2.out).trans Hx2.out
       obtain ⟨y0, y1⟩ := two_at hX3
       have fz := two_thaw (j := 0) hX3
       obtain ⟨W4, hW4⟩ : ∃ W, w3.setCell ⟨w.heap.size, 0, none⟩ (.slice a2 (putI N k).length c2) = W := ⟨_, rfl⟩
       have hX4 : W4.heap[w.heap.size]? = some (.cells #[.slice a2 (putI N k).length c2, .slice a' m c'] 28) := by rw [← hW4]; exact set_first _ hX3
       have hY4 : W4.heap[W1.heap.size]? = some (.cells #[.slice none 0 0, .slice none 0 0] 28) := by rw [← hW4]; exact (setCell_far (by have := hs1.out; omega)).trans hY3
       obtain ⟨z0, z1⟩ := two_at hX4
       obtain ⟨u0, u1⟩ := two_at hY4
       have fz2 := two_thaw (j := 0) hY4
       obtain ⟨W5, hW5⟩ : ∃ W, W4.setCell ⟨W1.heap.size, 0, none⟩ (.slice a2 (putI N k).length c2) = W := ⟨_, rfl⟩
       have hY5 : W5.heap[W1.heap.size]? = some (.cells #[.slice a2 (putI N k).length c2, .slice none 0 0] 28) := by rw [← hW5]; exact set_first _ hY4
       obtain ⟨v0, v1⟩ := two_at hY5
       have fz3 := two_thaw (j := 1) hY5
       have HY5 := Lib.hid hY5)
    | go_in)
  have HY6 : Hid ((W5.setCell ⟨W1.heap.size, 1, none⟩ (.slice a' m c')).heap[W1.heap.size]? = some (.cells #[.slice a2 (putI N k).length c2, .slice a' m c'] 28)) := set_second _ HY5.out
  refine bodyPost_ret (results_row1 rfl _ _ W1.heap.size 28 _ (0, 0) _ rfl HY6.out Tryz.underlying28 rfl (by kernel_rfl)) rfl ?_
  have hlt := hs1.out
  have hlt2 := hs2.out
  have hb3 : Below w.heap.size w w3 := HB12.out.trans (K3.out.2.1.mono HB12.out.size)
  have hbE : Below w.heap.size w (W5.setCell ⟨W1.heap.size, 1, none⟩ (.slice a' m c')) := by
    rw [← hW5, ← hW4]
    exact ((hb3.trans (setCell_below (Nat.le_refl _))).trans (setCell_below (by omega))).trans (setCell_below (by omega))
  have hne : ∀ b o, a2 = some ⟨b, o, none⟩ → b ≠ w.heap.size ∧ b ≠ W1.heap.size := fun b o e => by
    rcases K3.out.2.2 with g | g
    · have := H.out.ltN (g ▸ e)
      omega
    · have := g b o e
      omega
  refine ⟨a2, c2, rfl, ⟨?_, H.out.edges.below hbE, fun e => absurd e (putI_ne N k), H.out.e0⟩, hbE, ?_⟩
  · rw [← hW5, ← hW4]
    exact ((K3.out.1.set (fun b o e _ => (hne b o e).1)).set (fun b o e _ => (hne b o e).2)).set (fun b o e _ => (hne b o e).2)
  · rcases K3.out.2.2 with g | g
    · exact .inl g
    · exact .inr fun b o e => Nat.le_trans HB12.out.size (g b o e)
end Go.Proofs.YthgkloapnihpaaaGreat

/- The document's Edge, by a contract. -/
namespace Go.Proofs.YthgkloapnihpaaaGreat
open Go.RowKit Go.Maps Go.WideMaps Go.WideElems Go.ChangeShapes Go.WideShapes

theorem elem62 : (Tryz.prog.info? 36).map (fun i => (i.zero, i.size, i.bytes)) = some (some (.agg #[.int .i64 0, .int .i64 0, .int .i64 0]), 3, 24) := by kernel_rfl
theorem aheadE_lt {p : Ed} : ∀ {l : List Ed} {k : Nat}, k < aheadE p l → k < l.length ∧ LtE (l.getD k e0) p
  | [], k, h => by simp [aheadE] at h
  | q :: l, k, h => by
    unfold aheadE at h
    split at h
    · rename_i hq
      cases k with
      | zero => exact ⟨by simp, by simpa using hq⟩
      | succ k =>
        obtain ⟨h1, h2⟩ := aheadE_lt (p := p) (l := l) (k := k) (by omega)
        exact ⟨by simp; omega, by simpa using h2⟩
    · omega
theorem aheadE_stop {p : Ed} : ∀ {l : List Ed}, aheadE p l < l.length → ¬ LtE (l.getD (aheadE p l) e0) p
  | [], h => by simp at h
  | q :: l, h => by
    by_cases hq : LtE q p
    · have e : aheadE p (q :: l) = aheadE p l + 1 := by show (if LtE q p then aheadE p l + 1 else 0) = _; rw [if_pos hq]
      rw [e] at h ⊢
      have := aheadE_stop (p := p) (l := l) (by simpa using h)
      simpa using this
    · have e : aheadE p (q :: l) = 0 := by show (if LtE q p then aheadE p l + 1 else 0) = _; rw [if_neg hq]
      rw [e]
      simpa using hq
/-- What has been copied, the edge among it where it belongs. -/
def outQ (E : List Ed) (p : Ed) (A i : Nat) : List Ed := if i ≤ A then E.take i else E.take A ++ p :: (E.drop A).take (i - A)
theorem takeE {E : List Ed} {i : Nat} (h : i < E.length) : E.take (i + 1) = E.take i ++ [E.getD i e0] := by
  rw [List.take_add_one, List.getElem?_eq_getElem h, List.getD_eq_getElem?_getD, List.getElem?_eq_getElem h]
  rfl
theorem outQ_before {E : List Ed} {p : Ed} {A i : Nat} (h : i < A) (hi : i < E.length) : outQ E p A (i + 1) = outQ E p A i ++ [E.getD i e0] := by
  unfold outQ
  rw [if_pos (by omega), if_pos (by omega), takeE hi]
theorem outQ_at {E : List Ed} {p : Ed} {A : Nat} (hi : A < E.length) : outQ E p A (A + 1) = (outQ E p A A ++ [p]) ++ [E.getD A e0] := by
  unfold outQ
  rw [if_neg (by omega), if_pos (Nat.le_refl _), show A + 1 - A = 1 from by omega, List.getD_eq_getElem?_getD, List.getElem?_eq_getElem hi]
  have h1 : (E.drop A).take 1 = [E[A]] := by
    rw [List.drop_eq_getElem_cons hi]
    rfl
  rw [h1]
  simp
theorem outQ_behind {E : List Ed} {p : Ed} {A i : Nat} (h : A < i) (hi : i < E.length) : outQ E p A (i + 1) = outQ E p A i ++ [E.getD i e0] := by
  unfold outQ
  rw [if_neg (by omega), if_neg (by omega), show i + 1 - A = (i - A) + 1 from by omega]
  have h1 : (E.drop A).take (i - A + 1) = (E.drop A).take (i - A) ++ [E.getD i e0] := by
    rw [List.take_add_one, List.getElem?_drop, show A + (i - A) = i from by omega, List.getElem?_eq_getElem hi, List.getD_eq_getElem?_getD, List.getElem?_eq_getElem hi]
    rfl
  rw [h1]
  simp
theorem outQ_all {E : List Ed} {p : Ed} (hp : p ∉ E) (h : aheadE p E < E.length) : outQ E p (aheadE p E) E.length = putE E p := by
  unfold outQ putE
  rw [if_neg (by omega), if_neg hp, List.take_of_length_le (l := E.drop _) (by simp)]
theorem outQ_end {E : List Ed} {p : Ed} (hp : p ∉ E) (h : aheadE p E = E.length) : outQ E p (aheadE p E) E.length ++ [p] = putE E p := by
  unfold outQ putE
  rw [if_pos (by omega), if_neg hp, h]
  simp
theorem outQ_len {E : List Ed} {p : Ed} {A i : Nat} : (outQ E p A i).length ≤ E.length + 1 := by
  unfold outQ
  split
  · rw [List.length_take]; omega
  · simp; omega
theorem row_slE2 {W : World} {B : Nat} {n : Nat} {v : Value} {l : List Ed} (h : W.ownsRow B 36 3 v n (edRow l)) : ∃ a c, v = .slice a n c ∧ SlE W a l ∧ (∀ b o, a = some ⟨b, o, none⟩ → B ≤ b) ∧ (l = [] → n = 0) := by
  obtain ⟨a, c, e, hl, hs⟩ := row_slE h
  refine ⟨a, c, e, hs, fun b o e2 => ?_, fun hz => by rw [hz] at hl; exact hl.symm⟩
  refine (h.lt b ?_).1
  rw [e, e2]
  rfl
set_option maxHeartbeats 128000000 in
set_option maxRecDepth 100000 in
theorem dedge_any (a a' : Option Addr) (c c' : Nat) (N : List Int) (E : List Ed) (x y z : Int) (hE : RiseE E) (hn : N.length ≤ 10000) (hm : E.length ≤ 10000) (w : World) (h : DgAt w a a' N E) :
    Calls Tryz.prog 9 #[gval a N.length c a' E.length c', iv x, iv y, iv z] w fun e w' => ∃ a2 c2 a3 c3, e = .returned (gval a2 (putI (putI N x) y).length c2 a3 (putE E (x, y, z)).length c3) ∧ Hid (DgAt w' a2 a3 (putI (putI N x) y) (putE E (x, y, z)) ∧ Below w.heap.size w w' ∧ NewAt w.heap.size a a2 ∧ NewAt w.heap.size a' a3) := by
  obtain ⟨i0, hi, hz0, hz1, hz2⟩ := info_parts elem62
  obtain ⟨W1, hW1, Hb1, hs1, Hx1⟩ := two_any w (.slice a N.length c) (.slice a' E.length c') 28
  obtain ⟨W2, hW2, Hb2, hs2, Hx2⟩ := two_any W1 (.slice none 0 0) (.slice none 0 0) 28
  have hB12 : Below w.heap.size w W2 := Hb1.out.trans (Hb2.out.mono Hb1.out.size)
  have HB12 := Lib.hid hB12
  have HX1 : Hid (W2.heap[w.heap.size]? = some (.cells #[.slice a N.length c, .slice a' E.length c'] 28)) := (Hb2.out.block _ hs1.out).trans Hx1.out
  have H := Lib.hid h
  have HE := Lib.hid hE
  have Hm := Lib.hid hm
  have HP1 := Lib.hid (dnode_any a a' c c' N E x (by omega) W2 (h.below hB12))
  have hl1 : (putI N x).length ≤ 100000 := by have := putI_length N x; omega
  have hl2 := hl1
  have Hl1 := Lib.hid hl1
  obtain ⟨x0, x1⟩ := two_at HX1.out
  clear hB12 h hE hn hl1 hl2
  by_cases hin : (x, y, z) ∈ E
  · have hput : putE E (x, y, z) = E := by unfold putE; rw [if_pos hin]
    rw [hput]
    clear hput
    go_enter Tryz.func9, Tryz.ntmps9
    go_wp2_with (first
      | (go_at_call 8; (with_reducible first | refine HP1.out.mono ?_ | refine HP2.out.mono ?_); first
          | (rintro e w4 ⟨b2, d2, rfl, K4⟩
             have hX4 : w4.heap[w.heap.size]? = some (.cells #[.slice a N.length c, .slice a' E.length c'] 28) := (K4.out.2.1.block _ (by have := K3.out.2.1.size; have := hs1.out; have := hs2.out; omega)).trans ((K3.out.2.1.block _ (by have := hs1.out; have := hs2.out; omega)).trans HX1.out)
             have hY4 : w4.heap[W1.heap.size]? = some (.cells #[.slice none 0 0, .slice none 0 0] 28) := (K4.out.2.1.block _ (by have := K3.out.2.1.size; have := hs2.out; omega)).trans ((K3.out.2.1.block _ hs2.out).trans Hx2.out)
             obtain ⟨x0, x1⟩ := two_at hX4
             have fz := two_thaw (j := 0) hX4
             obtain ⟨W5, hW5⟩ : ∃ W, w4.setCell ⟨w.heap.size, 0, none⟩ (.slice b2 (putI (putI N x) y).length d2) = W := ⟨_, rfl⟩
             have hX5 : W5.heap[w.heap.size]? = some (.cells #[.slice b2 (putI (putI N x) y).length d2, .slice a' E.length c'] 28) := by rw [← hW5]; exact set_first _ hX4
             have fz1 := two_thaw (j := 1) hX5
             have y1 := (two_at hX5).2
             obtain ⟨W6, hW6⟩ : ∃ W, W5.setCell ⟨w.heap.size, 1, none⟩ (.slice a' E.length c') = W := ⟨_, rfl⟩
             have hX6 : W6.heap[w.heap.size]? = some (.cells #[.slice b2 (putI (putI N x) y).length d2, .slice a' E.length c'] 28) := by rw [← hW6]; exact set_second _ hX5
             have hY6 : W6.heap[W1.heap.size]? = some (.cells #[.slice none 0 0, .slice none 0 0] 28) := by rw [← hW6, ← hW5]; exact (setCell_far (by have := hs1.out; omega)).trans ((setCell_far (by have := hs1.out; omega)).trans hY4)
             obtain ⟨z0, z1⟩ := two_at hX6
             have hb4 : Below w.heap.size w w4 := HB12.out.trans ((K3.out.2.1.trans (K4.out.2.1.mono K3.out.2.1.size)).mono HB12.out.size)
             have hb6 : Below w.heap.size w W6 := by rw [← hW6, ← hW5]; exact (hb4.trans (setCell_below (Nat.le_refl _))).trans (setCell_below (Nat.le_refl _))
             have hnew : ∀ g o, b2 = some ⟨g, o, none⟩ → g ≠ w.heap.size ∧ g ≠ W1.heap.size ∧ (b2 = a ∨ W2.heap.size ≤ g) := fun g o e => by
               have h1 := hs1.out
               have h2 := hs2.out
               rcases K4.out.2.2 with q | q
               · rcases K3.out.2.2 with q2 | q2
                 · have := H.out.ltN (q2 ▸ q ▸ e)
                   exact ⟨by omega, by omega, .inl (q.trans q2)⟩
                 · have := q2 g o (q ▸ e)
                   exact ⟨by omega, by omega, .inr this⟩
               · have := q g o e
                 have h3 := K3.out.2.1.size
                 exact ⟨by omega, by omega, .inr (by omega)⟩
             have hD6 : DgAt W6 b2 a' (putI (putI N x) y) E := by
               have h1 : DgAt W6 b2 a' (putI (putI N x) y) E := by
                 rw [← hW6, ← hW5]
                 exact (K4.out.1.set (fun g o e => (hnew g o e).1) (fun g o e => by have := H.out.ltE e; omega)).set (fun g o e => (hnew g o e).1) (fun g o e => by have := H.out.ltE e; omega)
               exact h1
             have HX6 := Lib.hid hX6
             have HY6 := Lib.hid hY6
             have Hb6 := Lib.hid hb6
             have Hnew := Lib.hid hnew
             have HD6 := Lib.hid hD6
             have HH := Lib.hid (dhas_any b2 a' (putI (putI N x) y).length d2 c' E x y z (by have := Hm.out; omega) W6 hD6.edges)
             clear hX4 hY4 hX5 hX6 hY6 hb4 hb6 hnew hD6)
          | (rintro e w3 ⟨b1, d1, rfl, K3⟩
             have HP2 := Lib.hid (dnode_any b1 a' d1 c' (putI N x) E y Hl1.out w3 K3.out.1)))
      | (go_at_call 24; (with_reducible refine HH.out.mono ?_); rintro e w7 ⟨rfl, K7⟩
         rw [decide_eq_true hin]
         obtain ⟨y70, y71⟩ := two_at (show w7.heap[w.heap.size]? = some (.cells #[.slice b2 (putI (putI N x) y).length d2, .slice a' E.length c'] 28) from (K7.out.block _ (Array.getElem?_eq_some_iff.1 HX6.out).1).trans HX6.out)
         have hY7 : w7.heap[W1.heap.size]? = some (.cells #[.slice none 0 0, .slice none 0 0] 28) := (K7.out.block _ (Array.getElem?_eq_some_iff.1 HY6.out).1).trans HY6.out
         obtain ⟨v0, v1⟩ := two_at hY7
         have fz0 := two_thaw (j := 0) hY7
         obtain ⟨W8, hW8⟩ : ∃ W, w7.setCell ⟨W1.heap.size, 0, none⟩ (.slice b2 (putI (putI N x) y).length d2) = W := ⟨_, rfl⟩
         have hY8 : W8.heap[W1.heap.size]? = some (.cells #[.slice b2 (putI (putI N x) y).length d2, .slice none 0 0] 28) := by rw [← hW8]; exact set_first _ hY7
         obtain ⟨t0, t1⟩ := two_at hY8
         have fz1 := two_thaw (j := 1) hY8
         have HY8 := Lib.hid hY8
         clear hY7 hY8)
      | go_in)
    have HY9 : Hid ((W8.setCell ⟨W1.heap.size, 1, none⟩ (.slice a' E.length c')).heap[W1.heap.size]? = some (.cells #[.slice b2 (putI (putI N x) y).length d2, .slice a' E.length c'] 28)) := set_second _ HY8.out
    refine bodyPost_ret (results_row1 rfl _ _ W1.heap.size 28 _ (0, 0) _ rfl HY9.out Tryz.underlying28 rfl (by kernel_rfl)) rfl ?_
    have hD7 := HD6.out.below K7.out
    have hlt := hs1.out
    refine ⟨b2, d2, a', c', rfl, ?_, ?_, ?_, .inl rfl⟩
    · rw [← hW8]
      exact (hD7.set (fun g o e => (Hnew.out g o e).2.1) (fun g o e => by have := H.out.ltE e; omega)).set (fun g o e => (Hnew.out g o e).2.1) (fun g o e => by have := H.out.ltE e; omega)
    · rw [← hW8]
      exact ((Hb6.out.trans (K7.out.mono Hb6.out.size)).trans (setCell_below (Nat.le_of_lt hlt))).trans (setCell_below (Nat.le_of_lt hlt))
    · by_cases e : b2 = a
      · exact .inl e
      · exact .inr fun g o e2 => by
          rcases (Hnew.out g o e2).2.2 with q | q
          · exact absurd q e
          · have := HB12.out.size
            omega
  · obtain ⟨A, hA⟩ : ∃ A, aheadE (x, y, z) E = A := ⟨_, rfl⟩
    have HA := Lib.hid hA
    have hAl : A ≤ E.length := by rw [← hA]; exact aheadE_le _ _
    have HAl := Lib.hid hAl
    have Hin := Lib.hid hin
    obtain ⟨ml, hml⟩ : ∃ ml, E.length = ml := ⟨_, rfl⟩
    have Hml := Lib.hid hml
    clear hA hAl hml
    go_enter Tryz.func9, Tryz.ntmps9
    go_wp2_with (first
      | (go_at_call 8; (with_reducible first | refine HP1.out.mono ?_ | refine HP2.out.mono ?_); first
          | (rintro e w4 ⟨b2, d2, rfl, K4⟩
             have hX4 : w4.heap[w.heap.size]? = some (.cells #[.slice a N.length c, .slice a' E.length c'] 28) := (K4.out.2.1.block _ (by have := K3.out.2.1.size; have := hs1.out; have := hs2.out; omega)).trans ((K3.out.2.1.block _ (by have := hs1.out; have := hs2.out; omega)).trans HX1.out)
             have hY4 : w4.heap[W1.heap.size]? = some (.cells #[.slice none 0 0, .slice none 0 0] 28) := (K4.out.2.1.block _ (by have := K3.out.2.1.size; have := hs2.out; omega)).trans ((K3.out.2.1.block _ hs2.out).trans Hx2.out)
             obtain ⟨x0, x1⟩ := two_at hX4
             have fz := two_thaw (j := 0) hX4
             obtain ⟨W5, hW5⟩ : ∃ W, w4.setCell ⟨w.heap.size, 0, none⟩ (.slice b2 (putI (putI N x) y).length d2) = W := ⟨_, rfl⟩
             have hX5 : W5.heap[w.heap.size]? = some (.cells #[.slice b2 (putI (putI N x) y).length d2, .slice a' E.length c'] 28) := by rw [← hW5]; exact set_first _ hX4
             have fz1 := two_thaw (j := 1) hX5
             have y1 := (two_at hX5).2
             obtain ⟨W6, hW6⟩ : ∃ W, W5.setCell ⟨w.heap.size, 1, none⟩ (.slice a' E.length c') = W := ⟨_, rfl⟩
             have hX6 : W6.heap[w.heap.size]? = some (.cells #[.slice b2 (putI (putI N x) y).length d2, .slice a' E.length c'] 28) := by rw [← hW6]; exact set_second _ hX5
             have hY6 : W6.heap[W1.heap.size]? = some (.cells #[.slice none 0 0, .slice none 0 0] 28) := by rw [← hW6, ← hW5]; exact (setCell_far (by have := hs1.out; omega)).trans ((setCell_far (by have := hs1.out; omega)).trans hY4)
             obtain ⟨z0, z1⟩ := two_at hX6
             have hb4 : Below w.heap.size w w4 := HB12.out.trans ((K3.out.2.1.trans (K4.out.2.1.mono K3.out.2.1.size)).mono HB12.out.size)
             have hb6 : Below w.heap.size w W6 := by rw [← hW6, ← hW5]; exact (hb4.trans (setCell_below (Nat.le_refl _))).trans (setCell_below (Nat.le_refl _))
             have hnew : ∀ g o, b2 = some ⟨g, o, none⟩ → g ≠ w.heap.size ∧ g ≠ W1.heap.size ∧ (b2 = a ∨ W2.heap.size ≤ g) := fun g o e => by
               have h1 := hs1.out
               have h2 := hs2.out
               rcases K4.out.2.2 with q | q
               · rcases K3.out.2.2 with q2 | q2
                 · have := H.out.ltN (q2 ▸ q ▸ e)
                   exact ⟨by omega, by omega, .inl (q.trans q2)⟩
                 · have := q2 g o (q ▸ e)
                   exact ⟨by omega, by omega, .inr this⟩
               · have := q g o e
                 have h3 := K3.out.2.1.size
                 exact ⟨by omega, by omega, .inr (by omega)⟩
             have hD6 : DgAt W6 b2 a' (putI (putI N x) y) E := by
               have h1 : DgAt W6 b2 a' (putI (putI N x) y) E := by
                 rw [← hW6, ← hW5]
                 exact (K4.out.1.set (fun g o e => (hnew g o e).1) (fun g o e => by have := H.out.ltE e; omega)).set (fun g o e => (hnew g o e).1) (fun g o e => by have := H.out.ltE e; omega)
               exact h1
             have HX6 := Lib.hid hX6
             have HY6 := Lib.hid hY6
             have Hb6 := Lib.hid hb6
             have Hnew := Lib.hid hnew
             have HD6 := Lib.hid hD6
             have HH := Lib.hid (dhas_any b2 a' (putI (putI N x) y).length d2 c' E x y z (by have := Hm.out; omega) W6 hD6.edges)
             clear hX4 hY4 hX5 hX6 hY6 hb4 hb6 hnew hD6)
          | (rintro e w3 ⟨b1, d1, rfl, K3⟩
             have HP2 := Lib.hid (dnode_any b1 a' d1 c' (putI N x) E y Hl1.out w3 K3.out.1)))
      | (go_at_call 24; (with_reducible refine HH.out.mono ?_); rintro e w7 ⟨rfl, K7⟩
         rw [decide_eq_false Hin.out]
         obtain ⟨y70, y71⟩ := two_at (show w7.heap[w.heap.size]? = some (.cells #[.slice b2 (putI (putI N x) y).length d2, .slice a' E.length c'] 28) from (K7.out.block _ (Array.getElem?_eq_some_iff.1 HX6.out).1).trans HX6.out)
         have hY7 : w7.heap[W1.heap.size]? = some (.cells #[.slice none 0 0, .slice none 0 0] 28) := (K7.out.block _ (Array.getElem?_eq_some_iff.1 HY6.out).1).trans HY6.out
         have HY7 := Lib.hid hY7
         clear hY7)
      | go_in)
    obtain ⟨W8, hW8⟩ : ∃ W, w7.alloc (.cells #[iv x, iv y, iv z] 36) = W := ⟨_, rfl⟩
    have hc8 := new_3c w7 (iv x) (iv y) (iv z) 36
    rw [hW8] at hc8
    have HXc := Lib.hid hc8
    have Hs8 : Hid (W8.heap.size = w7.heap.size + 1) := by show _ = _; rw [← hW8]; simp
    have Hb8 : Hid (Below w7.heap.size w7 W8) := by rw [← hW8]; exact (Below.refl _ _).alloc (Nat.le_refl _) _
    have HX8 : Hid (W8.heap[w.heap.size]? = some (.cells #[.slice b2 (putI (putI N x) y).length d2, .slice a' ml c'] 28)) := by
      have h1 := (Hb8.out.block w.heap.size (by have := (Array.getElem?_eq_some_iff.1 HX6.out).1; have := K7.out.size; omega)).trans ((K7.out.block _ (Array.getElem?_eq_some_iff.1 HX6.out).1).trans HX6.out)
      rw [Hml.out] at h1
      exact h1
    have HY8 : Hid (W8.heap[W1.heap.size]? = some (.cells #[.slice none 0 0, .slice none 0 0] 28)) := (Hb8.out.block W1.heap.size (Array.getElem?_eq_some_iff.1 HY7.out).1).trans HY7.out
    have HD8 := Lib.hid ((HD6.out.below K7.out).below Hb8.out)
    have hw8 : Below w.heap.size w W8 := (Hb6.out.trans (K7.out.mono Hb6.out.size)).trans (Hb8.out.mono (Nat.le_trans Hb6.out.size K7.out.size))
    have Hw8 := Lib.hid hw8
    have hml5 : ml ≤ 10000 := by rw [← Hml.out]; exact Hm.out
    rw [hW8, Hml.out]
    have H0 : Hid (W8.ownsRow W8.heap.size 36 3 (.slice none 0 0) (outQ E (x, y, z) A 0).length (edRow (outQ E (x, y, z) A 0)) ∧ Below W8.heap.size W8 W8) := by
      have e : outQ E (x, y, z) A 0 = [] := by simp [outQ]
      rw [e]
      exact ⟨World.ownsRow_nil _ _ _ _, Below.refl _ _⟩
    clear hc8 hW8 hw8 y70 y71
    try go_frame
    go_loopw [10, 11, 12] (fun v10 v11 i wr => ∃ q : Nat, q ≤ ml ∧ i = .int .i64 ((q : Nat) : Int) ∧ v11 = .bool (decide (A < q)) ∧ Hid (wr.ownsRow W8.heap.size 36 3 v10 (outQ E (x, y, z) A q).length (edRow (outQ E (x, y, z) A q)) ∧ Below W8.heap.size W8 wr)) (fun _ _ i _ => ml - (intOf i).toNat)
    case atStart => exact ⟨0, Nat.zero_le _, rfl, by first | rfl | simp, H0.out⟩
    case round =>
      obtain ⟨q, hq, rfl, rfl, HR⟩ := hrel
      obtain ⟨wa, hwa⟩ : ∃ wa, wa = wr := ⟨_, rfl⟩
      subst hwa
      have hX := (HR.out.2.block w.heap.size (Array.getElem?_eq_some_iff.1 HX8.out).1).trans HX8.out
      obtain ⟨g0, g1⟩ := two_at hX
      have HXx : Hid (wa.cell? ⟨w7.heap.size, 0, none⟩ = some (iv x) ∧ wa.cell? ⟨w7.heap.size, 1, none⟩ = some (iv y) ∧ wa.cell? ⟨w7.heap.size, 2, none⟩ = some (iv z)) := by
        have hl : w7.heap.size < W8.heap.size := by have := Hs8.out; omega
        exact ⟨(HR.out.2.cell (p := ⟨w7.heap.size, 0, none⟩) hl).trans HXc.out.1, (HR.out.2.cell (p := ⟨w7.heap.size, 1, none⟩) hl).trans HXc.out.2.1, (HR.out.2.cell (p := ⟨w7.heap.size, 2, none⟩) hl).trans HXc.out.2.2⟩
      have HXa := Lib.hid hX
      clear hX
      have hlen := outQ_len (E := E) (p := (x, y, z)) (A := A) (i := q)
      rw [Hml.out] at hlen
      have Hlen := Lib.hid hlen
      clear hlen
      by_cases hlt : q < ml
      · have hqE : q < E.length := by rw [Hml.out]; exact hlt
        obtain ⟨be, oe, rfl, k0, k1, k2⟩ := (HD8.out.edges.below HR.out.2).at hqE
        have HCe : Hid (∀ W, Below W8.heap.size W8 W → W.cell? ⟨be, oe + q * 3, none⟩ = some (iv (E.getD q e0).1) ∧ W.cell? ⟨be, oe + q * 3 + 1, none⟩ = some (iv (E.getD q e0).2.1) ∧ W.cell? ⟨be, oe + q * 3 + 2, none⟩ = some (iv (E.getD q e0).2.2)) := fun W hW => by
          obtain ⟨b', o', e', h1, h2, h3⟩ := (HD8.out.edges.below hW).at hqE
          cases e'
          exact ⟨h1, h2, h3⟩
        have hAq : q < A → LtE (E.getD q e0) (x, y, z) := fun h => by
          have := aheadE_lt (p := (x, y, z)) (l := E) (k := q) (by rw [HA.out]; exact h)
          exact this.2
        have hAe : q = A → LtE (x, y, z) (E.getD q e0) := fun h => by
          have h1 := aheadE_stop (p := (x, y, z)) (l := E) (by rw [HA.out, ← h]; exact hqE)
          rw [HA.out, ← h] at h1
          rcases ltE_tri (x, y, z) (E.getD q e0) with g | g | g
          · exact g
          · exact absurd (g ▸ getD_in hqE) Hin.out
          · exact absurd g h1
        have hnext : q < A ∨ A < q → outQ E (x, y, z) A (q + 1) = outQ E (x, y, z) A q ++ [E.getD q e0] := fun h => h.elim (fun h => outQ_before h hqE) (fun h => outQ_behind h hqE)
        have hnextA : q = A → outQ E (x, y, z) A (q + 1) = (outQ E (x, y, z) A q ++ [(x, y, z)]) ++ [E.getD q e0] := fun h => by
          rw [h] at hqE ⊢
          exact outQ_at hqE
        obtain ⟨⟨f1, f2, f3⟩, hf⟩ : ∃ f, E.getD q e0 = f := ⟨_, rfl⟩
        rw [hf] at k0 k1 k2 HCe hAq hAe hnext hnextA
        simp only at k0 k1 k2 HCe
        have hltI : (q : Int) < (ml : Int) := by omega
        have HSall : Hid (∀ w', Below W8.heap.size W8 w' → w'.cell? ⟨w.heap.size, 1, none⟩ = some (.slice (some ⟨be, oe, none⟩) ml c') ∧ w'.cell? ⟨w7.heap.size, 0, none⟩ = some (iv x) ∧ w'.cell? ⟨w7.heap.size, 1, none⟩ = some (iv y) ∧ w'.cell? ⟨w7.heap.size, 2, none⟩ = some (iv z) ∧ w'.cell? ⟨be, oe + q * 3, none⟩ = some (iv f1) ∧ w'.cell? ⟨be, oe + q * 3 + 1, none⟩ = some (iv f2) ∧ w'.cell? ⟨be, oe + q * 3 + 2, none⟩ = some (iv f3)) := fun w' hb => by
          have hl : w7.heap.size < W8.heap.size := by have := Hs8.out; omega
          obtain ⟨c1, c2, c3⟩ := HCe.out w' hb
          have hX' := (hb.block w.heap.size (Array.getElem?_eq_some_iff.1 HX8.out).1).trans HX8.out
          exact ⟨(two_at hX').2, (hb.cell (p := ⟨w7.heap.size, 0, none⟩) hl).trans HXc.out.1, (hb.cell (p := ⟨w7.heap.size, 1, none⟩) hl).trans HXc.out.2.1, (hb.cell (p := ⟨w7.heap.size, 2, none⟩) hl).trans HXc.out.2.2, c1, c2, c3⟩
        clear hqE hf
        rcases Nat.lt_trichotomy q A with hqA | hqA | hqA
        · have e1 : decide (A < q) = false := decide_eq_false (by omega)
          have e2 : decide (A < q + 1) = false := decide_eq_false (by omega)
          have hl := hAq hqA
          have hnl : decide (LtE (x, y, z) (f1, f2, f3)) = false := decide_eq_false (fun h => LtE.irrefl _ (h.trans hl))
          have HNx := Lib.hid (hnext (.inl hqA))
          have E2 := Lib.hid e2
          have Hnl := Lib.hid hnl
          rw [e1]
          clear hnext hnextA hAq hAe hqA e1 e2 hl hnl
          obtain ⟨xx0, xx1, xx2⟩ := HXx.out
          go_wp2
          go_region_held3 (fun w' => w'.cell? ⟨w.heap.size, 1, none⟩ = some (.slice (some ⟨be, oe, none⟩) ml c') ∧ w'.cell? ⟨w7.heap.size, 0, none⟩ = some (iv x) ∧ w'.cell? ⟨w7.heap.size, 1, none⟩ = some (iv y) ∧ w'.cell? ⟨w7.heap.size, 2, none⟩ = some (iv z) ∧ w'.cell? ⟨be, oe + q * 3, none⟩ = some (iv f1) ∧ w'.cell? ⟨be, oe + q * 3 + 1, none⟩ = some (iv f2) ∧ w'.cell? ⟨be, oe + q * 3 + 2, none⟩ = some (iv f3)) (first | (with_reducible exact HSall.out _ HB9.out) | go_keep)
            (first | (go_at_call 25; refine (less_any (x, y, z) (f1, f2, f3) _).mono ?_; rintro e w9 ⟨rfl, K9⟩; rw [Hnl.out]
                      have HB9 : Hid (Below W8.heap.size W8 w9) := HR.out.2.trans (((Below.refl _ wa).drew.trans K9.out).mono HR.out.2.size)
                      have HR9 : Hid (w9.ownsRow W8.heap.size 36 3 u10 (outQ E (x, y, z) A q).length (edRow (outQ E (x, y, z) A q))) := row_kept HR.out.1 ((Below.refl _ wa).drew.trans K9.out)))
          obtain ⟨s0, -, -, -, s1, s2, s3⟩ := HSall.out w9 HB9.out
          go_wp2_with (first
            | (at_builtin; refine wpList_append_own _ rfl _ _ 26 rfl W8.heap.size 36 i0 (.agg #[.int .i64 0, .int .i64 0, .int .i64 0]) 3 24 Tryz.underlying26 hi hz0 hz1 hz2 rfl (by decide) u10 (outQ E (x, y, z) A q).length (edRow (outQ E (x, y, z) A q)) rfl (HR9.out.alloc _) ⟨w9.heap.size, 0, none⟩ 1 1 [iv f1, iv f2, iv f3] rfl rfl (ed_news _ _ _ _ _) (edRow_one [(f1, f2, f3)]) (by unfold maxLen; have := Hlen.out; omega) (by have := Hlen.out; omega) (by have := HB9.out.size; simp; omega) ?_
               intro v10 w10 hown hgrow hnil
               have HR10 : Hid (w10.ownsRow W8.heap.size 36 3 v10 (outQ E (x, y, z) A q ++ [(f1, f2, f3)]).length (edRow (outQ E (x, y, z) A q ++ [(f1, f2, f3)]))) := by
                 show World.ownsRow _ _ _ _ _ _ _
                 rw [List.length_append, edRow_snoc]
                 exact hown
               have HB10 : Hid (Below W8.heap.size W8 w10) := (HB9.out.alloc (by have := HB9.out.size; omega) _).grown hgrow (by have := HB9.out.size; simp; omega) (fun r e => (World.ownsRow.lt (HR9.out.alloc (.cells #[iv f1, iv f2, iv f3] 36)) r e).1)
               clear hown hgrow hnil)
            | go_in)
          have HA9 : Hid (w10.ownsRow W8.heap.size 36 3 v10 (outQ E (x, y, z) A (q + 1)).length (edRow (outQ E (x, y, z) A (q + 1))) ∧ Below W8.heap.size W8 w10) := by
            refine ⟨?_, HB10.out⟩
            rw [HNx.out]
            exact HR10.out
          go_roundw
          case rel => exact ⟨q + 1, by omega, by go_num, by rw [E2.out], HA9.out⟩
          case measure => simp [intOf]; omega
        · have e1 : decide (A < q) = false := decide_eq_false (by omega)
          have e2 : decide (A < q + 1) = true := decide_eq_true (by omega)
          have hl := hAe hqA
          have hnl : decide (LtE (x, y, z) (f1, f2, f3)) = true := decide_eq_true hl
          have HNx := Lib.hid (hnextA hqA)
          have E2 := Lib.hid e2
          have Hnl := Lib.hid hnl
          rw [e1]
          clear hnext hnextA hAq hAe hqA e1 e2 hl hnl
          obtain ⟨xx0, xx1, xx2⟩ := HXx.out
          go_wp2
          go_region_held3 (fun w' => w'.cell? ⟨w.heap.size, 1, none⟩ = some (.slice (some ⟨be, oe, none⟩) ml c') ∧ w'.cell? ⟨w7.heap.size, 0, none⟩ = some (iv x) ∧ w'.cell? ⟨w7.heap.size, 1, none⟩ = some (iv y) ∧ w'.cell? ⟨w7.heap.size, 2, none⟩ = some (iv z) ∧ w'.cell? ⟨be, oe + q * 3, none⟩ = some (iv f1) ∧ w'.cell? ⟨be, oe + q * 3 + 1, none⟩ = some (iv f2) ∧ w'.cell? ⟨be, oe + q * 3 + 2, none⟩ = some (iv f3)) (first | (with_reducible exact HSall.out _ HB9.out) | go_keep)
            (first | (go_at_call 25; refine (less_any (x, y, z) (f1, f2, f3) _).mono ?_; rintro e w9 ⟨rfl, K9⟩; rw [Hnl.out]
                      have HB9 : Hid (Below W8.heap.size W8 w9) := HR.out.2.trans (((Below.refl _ wa).drew.trans K9.out).mono HR.out.2.size)
                      have HR9 : Hid (w9.ownsRow W8.heap.size 36 3 u10 (outQ E (x, y, z) A q).length (edRow (outQ E (x, y, z) A q))) := row_kept HR.out.1 ((Below.refl _ wa).drew.trans K9.out)))
          obtain ⟨s0, t0, t1, t2, s1, s2, s3⟩ := HSall.out w9 HB9.out
          have Hlen2 : Hid ((outQ E (x, y, z) A q ++ [(x, y, z)]).length ≤ ml + 2) := by
            have := Hlen.out
            show _ ≤ _
            rw [List.length_append, List.length_singleton]
            omega
          go_wp2_with (first
            | (at_builtin; refine wpList_append_own _ rfl _ _ 26 rfl W8.heap.size 36 i0 (.agg #[.int .i64 0, .int .i64 0, .int .i64 0]) 3 24 Tryz.underlying26 hi hz0 hz1 hz2 rfl (by decide) u10 (outQ E (x, y, z) A q).length (edRow (outQ E (x, y, z) A q)) rfl (HR9.out.alloc _) ⟨w9.heap.size, 0, none⟩ 1 1 [iv x, iv y, iv z] rfl rfl (ed_news _ _ _ _ _) (edRow_one [(x, y, z)]) (by unfold maxLen; have := Hlen.out; omega) (by have := Hlen.out; omega) (by have := HB9.out.size; simp; omega) ?_
               intro v10 w10 hown hgrow hnil
               have HR10 : Hid (w10.ownsRow W8.heap.size 36 3 v10 (outQ E (x, y, z) A q ++ [(x, y, z)]).length (edRow (outQ E (x, y, z) A q ++ [(x, y, z)]))) := by
                 show World.ownsRow _ _ _ _ _ _ _
                 rw [List.length_append, edRow_snoc]
                 exact hown
               have HB10 : Hid (Below W8.heap.size W8 w10) := (HB9.out.alloc (by have := HB9.out.size; omega) _).grown hgrow (by have := HB9.out.size; simp; omega) (fun r e => (World.ownsRow.lt (HR9.out.alloc (.cells #[iv x, iv y, iv z] 36)) r e).1)
               clear hown hgrow hnil s0 s1 s2 s3 t0 t1 t2
               obtain ⟨s0, -, -, -, s1, s2, s3⟩ := HSall.out w10 HB10.out)
            | (at_builtin; refine wpList_append_own _ rfl _ _ 26 rfl W8.heap.size 36 i0 (.agg #[.int .i64 0, .int .i64 0, .int .i64 0]) 3 24 Tryz.underlying26 hi hz0 hz1 hz2 rfl (by decide) v10 (outQ E (x, y, z) A q ++ [(x, y, z)]).length (edRow (outQ E (x, y, z) A q ++ [(x, y, z)])) rfl (HR10.out.alloc _) ⟨w10.heap.size, 0, none⟩ 1 1 [iv f1, iv f2, iv f3] rfl rfl (ed_news _ _ _ _ _) (edRow_one [(f1, f2, f3)]) (by unfold maxLen; have := Hlen2.out; omega) (by have := Hlen2.out; omega) (by have := HB10.out.size; simp; omega) ?_
               intro v11 w11 hown hgrow hnil
               have HR11 : Hid (w11.ownsRow W8.heap.size 36 3 v11 (outQ E (x, y, z) A q ++ [(x, y, z)] ++ [(f1, f2, f3)]).length (edRow (outQ E (x, y, z) A q ++ [(x, y, z)] ++ [(f1, f2, f3)]))) := by
                 show World.ownsRow _ _ _ _ _ _ _
                 rw [List.length_append, edRow_snoc]
                 exact hown
               have HB11 : Hid (Below W8.heap.size W8 w11) := (HB10.out.alloc (by have := HB10.out.size; omega) _).grown hgrow (by have := HB10.out.size; simp; omega) (fun r e => (World.ownsRow.lt (HR10.out.alloc (.cells #[iv f1, iv f2, iv f3] 36)) r e).1)
               clear hown hgrow hnil)
            | go_in)
          have HA9 : Hid (w11.ownsRow W8.heap.size 36 3 v11 (outQ E (x, y, z) A (q + 1)).length (edRow (outQ E (x, y, z) A (q + 1))) ∧ Below W8.heap.size W8 w11) := by
            refine ⟨?_, HB11.out⟩
            rw [HNx.out]
            exact HR11.out
          go_roundw
          case rel => exact ⟨q + 1, by omega, by go_num, by rw [E2.out], HA9.out⟩
          case measure => simp [intOf]; omega
        · have e1 : decide (A < q) = true := decide_eq_true (by omega)
          have e2 : decide (A < q + 1) = true := decide_eq_true (by omega)
          have HNx := Lib.hid (hnext (.inr hqA))
          have E2 := Lib.hid e2
          rw [e1]
          clear hnext hnextA hAq hAe hqA e1 e2
          go_wp2
          go_quiet (fail)
          have HB9 : Hid (Below W8.heap.size W8 (wa.drewN nq)) := HR.out.2.trans ((drewN_below wa nq).mono HR.out.2.size)
          have HR9 : Hid ((wa.drewN nq).ownsRow W8.heap.size 36 3 u10 (outQ E (x, y, z) A q).length (edRow (outQ E (x, y, z) A q))) := row_kept HR.out.1 (drewN_below wa nq)
          obtain ⟨s0, -, -, -, s1, s2, s3⟩ := HSall.out _ HB9.out
          generalize wa.drewN nq = w9 at *
          go_wp2_with (first
            | (at_builtin; refine wpList_append_own _ rfl _ _ 26 rfl W8.heap.size 36 i0 (.agg #[.int .i64 0, .int .i64 0, .int .i64 0]) 3 24 Tryz.underlying26 hi hz0 hz1 hz2 rfl (by decide) u10 (outQ E (x, y, z) A q).length (edRow (outQ E (x, y, z) A q)) rfl (HR9.out.alloc _) ⟨w9.heap.size, 0, none⟩ 1 1 [iv f1, iv f2, iv f3] rfl rfl (ed_news _ _ _ _ _) (edRow_one [(f1, f2, f3)]) (by unfold maxLen; have := Hlen.out; omega) (by have := Hlen.out; omega) (by have := HB9.out.size; simp; omega) ?_
               intro v10 w10 hown hgrow hnil
               have HR10 : Hid (w10.ownsRow W8.heap.size 36 3 v10 (outQ E (x, y, z) A q ++ [(f1, f2, f3)]).length (edRow (outQ E (x, y, z) A q ++ [(f1, f2, f3)]))) := by
                 show World.ownsRow _ _ _ _ _ _ _
                 rw [List.length_append, edRow_snoc]
                 exact hown
               have HB10 : Hid (Below W8.heap.size W8 w10) := (HB9.out.alloc (by have := HB9.out.size; omega) _).grown hgrow (by have := HB9.out.size; simp; omega) (fun r e => (World.ownsRow.lt (HR9.out.alloc (.cells #[iv f1, iv f2, iv f3] 36)) r e).1)
               clear hown hgrow hnil)
            | go_in)
          have HA9 : Hid (w10.ownsRow W8.heap.size 36 3 v10 (outQ E (x, y, z) A (q + 1)).length (edRow (outQ E (x, y, z) A (q + 1))) ∧ Below W8.heap.size W8 w10) := by
            refine ⟨?_, HB10.out⟩
            rw [HNx.out]
            exact HR10.out
          go_roundw
          case rel => exact ⟨q + 1, by omega, by go_num, by rw [E2.out], HA9.out⟩
          case measure => simp [intOf]; omega
      · have hqm : q = ml := by omega
        subst hqm
        rcases Nat.lt_or_eq_of_le (show A ≤ q from by have := HAl.out; have := Hml.out; omega) with hA2 | hA2
        · have e1 : decide (A < q) = true := decide_eq_true hA2
          have hout : outQ E (x, y, z) A q = putE E (x, y, z) := by
            have h1 := outQ_all (p := (x, y, z)) Hin.out (by rw [HA.out, Hml.out]; exact hA2)
            rw [HA.out, Hml.out] at h1
            exact h1
          have hrow := HR.out.1
          rw [hout] at hrow
          obtain ⟨a3, c3, rfl, h3s, h3b, -⟩ := row_slE2 hrow
          obtain ⟨nl, hnl⟩ : ∃ nl, (putE E (x, y, z)).length = nl := ⟨_, rfl⟩
          have Hnl2 : Hid (nl = (putE E (x, y, z)).length) := hnl.symm
          have H3s := Lib.hid h3s
          have HB9 : Hid (Below W8.heap.size W8 wa) := HR.out.2
          rw [e1, hnl]
          clear hout hrow e1 hnl h3s HR hlt hA2
          have HX9 : wa.heap[w.heap.size]? = some (.cells #[.slice b2 (putI (putI N x) y).length d2, .slice a' q c'] 28) := (HB9.out.block w.heap.size (Array.getElem?_eq_some_iff.1 HX8.out).1).trans HX8.out
          have HY9 : wa.heap[W1.heap.size]? = some (.cells #[.slice none 0 0, .slice none 0 0] 28) := (HB9.out.block W1.heap.size (Array.getElem?_eq_some_iff.1 HY8.out).1).trans HY8.out
          have fy := two_thaw (j := 1) HX9
          have cy := (two_at HX9).2
          obtain ⟨Wp, hWp⟩ : ∃ W, wa.setCell ⟨w.heap.size, 1, none⟩ (.slice a3 nl c3) = W := ⟨_, rfl⟩
          have HXp : Wp.heap[w.heap.size]? = some (.cells #[.slice b2 (putI (putI N x) y).length d2, .slice a3 nl c3] 28) := by rw [← hWp]; exact set_second _ HX9
          have HYp : Wp.heap[W1.heap.size]? = some (.cells #[.slice none 0 0, .slice none 0 0] 28) := by rw [← hWp]; exact (setCell_far (by have := hs1.out; omega)).trans HY9
          obtain ⟨p0, p1⟩ := two_at HXp
          obtain ⟨q0, q1⟩ := two_at HYp
          have fq0 := two_thaw (j := 0) HYp
          obtain ⟨Wq, hWq⟩ : ∃ W, Wp.setCell ⟨W1.heap.size, 0, none⟩ (.slice b2 (putI (putI N x) y).length d2) = W := ⟨_, rfl⟩
          have HYq : Wq.heap[W1.heap.size]? = some (.cells #[.slice b2 (putI (putI N x) y).length d2, .slice none 0 0] 28) := by rw [← hWq]; exact set_first _ HYp
          obtain ⟨r0, r1⟩ := two_at HYq
          have fq1 := two_thaw (j := 1) HYq
          have HYQ := Lib.hid HYq
          clear HX9 HY9 HXp HYp HYq
          go_wp2
          have HYr : Hid ((Wq.setCell ⟨W1.heap.size, 1, none⟩ (.slice a3 nl c3)).heap[W1.heap.size]? = some (.cells #[.slice b2 (putI (putI N x) y).length d2, .slice a3 nl c3] 28)) := set_second _ HYQ.out
          refine bodyPost_ret (results_row1 rfl _ _ W1.heap.size 28 _ (0, 0) _ rfl HYr.out Tryz.underlying28 rfl (by kernel_rfl)) rfl ?_
          have hlt := hs1.out
          have hlt2 := hs2.out
          have hWl : W2.heap.size ≤ W8.heap.size := by
            have h1 := K3.out.2.1.size
            have h2 := K4.out.2.1.size
            have h3 := K7.out.size
            have h4 := Hs8.out
            have h5 : W6.heap.size = w4.heap.size := by rw [← hW6, ← hW5, setCell_size, setCell_size]
            omega
          have hD9 := HD8.out.below HB9.out
          have hna : ∀ g o, a3 = some ⟨g, o, none⟩ → g ≠ w.heap.size ∧ g ≠ W1.heap.size := fun g o e => by
            have := h3b g o e
            omega
          have hpn : putE E (x, y, z) ≠ [] := fun e => by
            have : (x, y, z) ∈ putE E (x, y, z) := mem_putE.2 (.inl rfl)
            rw [e] at this
            simp at this
          have hb9 : Below w.heap.size w wa := Hw8.out.trans (HB9.out.mono Hw8.out.size)
          have hn0 : nl = (putE E (x, y, z)).length := Hnl2.out
          refine ⟨b2, d2, a3, c3, by rw [hn0], ⟨?_, ?_, fun e => absurd e (putI_ne _ y), fun e => absurd e hpn⟩, ?_, ?_, .inr fun g o e => by have := h3b g o e; have := Hw8.out.size; omega⟩
          · rw [← hWq, ← hWp]
            exact ((hD9.nodes.set (fun g o e _ => (Hnew.out g o e).1)).set (fun g o e _ => (Hnew.out g o e).2.1)).set (fun g o e _ => (Hnew.out g o e).2.1)
          · rw [← hWq, ← hWp]
            exact ((H3s.out.set (fun g o e _ => (hna g o e).1)).set (fun g o e _ => (hna g o e).2)).set (fun g o e _ => (hna g o e).2)
          · rw [← hWq, ← hWp]
            exact ((hb9.trans (setCell_below (Nat.le_refl _))).trans (setCell_below (Nat.le_of_lt hlt))).trans (setCell_below (Nat.le_of_lt hlt))
          · by_cases e : b2 = a
            · exact .inl e
            · exact .inr fun g o e2 => by
                rcases (Hnew.out g o e2).2.2 with q | q
                · exact absurd q e
                · have := HB12.out.size
                  omega
        · have e1 : decide (A < q) = false := decide_eq_false (by omega)
          have hout : outQ E (x, y, z) A q ++ [(x, y, z)] = putE E (x, y, z) := by
            have h1 := outQ_end (p := (x, y, z)) Hin.out (by rw [HA.out, Hml.out]; exact hA2)
            rw [HA.out, Hml.out] at h1
            exact h1
          have Hout := Lib.hid hout
          have HB9 : Hid (Below W8.heap.size W8 wa) := HR.out.2
          have HR9 : Hid (wa.ownsRow W8.heap.size 36 3 u10 (outQ E (x, y, z) A q).length (edRow (outQ E (x, y, z) A q))) := HR.out.1
          obtain ⟨t0, t1, t2⟩ := HXx.out
          rw [e1]
          clear hout e1 hlt hA2
          go_wp2_with (first
            | (at_builtin; refine wpList_append_own _ rfl _ _ 26 rfl W8.heap.size 36 i0 (.agg #[.int .i64 0, .int .i64 0, .int .i64 0]) 3 24 Tryz.underlying26 hi hz0 hz1 hz2 rfl (by decide) u10 (outQ E (x, y, z) A q).length (edRow (outQ E (x, y, z) A q)) rfl (HR9.out.alloc _) ⟨wa.heap.size, 0, none⟩ 1 1 [iv x, iv y, iv z] rfl rfl (ed_news _ _ _ _ _) (edRow_one [(x, y, z)]) (by unfold maxLen; have := Hlen.out; omega) (by have := Hlen.out; omega) (by have := HB9.out.size; simp; omega) ?_
               intro v10 w10 hown hgrow hnil
               have HR10 : Hid (w10.ownsRow W8.heap.size 36 3 v10 (outQ E (x, y, z) A q ++ [(x, y, z)]).length (edRow (outQ E (x, y, z) A q ++ [(x, y, z)]))) := by
                 show World.ownsRow _ _ _ _ _ _ _
                 rw [List.length_append, edRow_snoc]
                 exact hown
               have HB10 : Hid (Below W8.heap.size W8 w10) := (HB9.out.alloc (by have := HB9.out.size; omega) _).grown hgrow (by have := HB9.out.size; simp; omega) (fun r e => (World.ownsRow.lt (HR9.out.alloc (.cells #[iv x, iv y, iv z] 36)) r e).1)
               clear hown hgrow hnil
               have hrow := HR10.out
               rw [Hout.out] at hrow
               obtain ⟨a3, c3, rfl, h3s, h3b, -⟩ := row_slE2 hrow
               obtain ⟨nl, hnl⟩ : ∃ nl, (putE E (x, y, z)).length = nl := ⟨_, rfl⟩
               have Hnl2 : Hid (nl = (putE E (x, y, z)).length) := hnl.symm
               have H3s := Lib.hid h3s
               have hnn : (outQ E (x, y, z) A q).length + 1 = nl := by rw [← hnl, ← Hout.out, List.length_append]; rfl
               rw [hnl]
               clear hrow hnl h3s
               have HX9 : w10.heap[w.heap.size]? = some (.cells #[.slice b2 (putI (putI N x) y).length d2, .slice a' q c'] 28) := (HB10.out.block w.heap.size (Array.getElem?_eq_some_iff.1 HX8.out).1).trans HX8.out
               have HY9 : w10.heap[W1.heap.size]? = some (.cells #[.slice none 0 0, .slice none 0 0] 28) := (HB10.out.block W1.heap.size (Array.getElem?_eq_some_iff.1 HY8.out).1).trans HY8.out
               have fy := two_thaw (j := 1) HX9
               have cy := (two_at HX9).2
               obtain ⟨Wp, hWp⟩ : ∃ W, w10.setCell ⟨w.heap.size, 1, none⟩ (.slice a3 nl c3) = W := ⟨_, rfl⟩
               have HXp : Wp.heap[w.heap.size]? = some (.cells #[.slice b2 (putI (putI N x) y).length d2, .slice a3 nl c3] 28) := by rw [← hWp]; exact set_second _ HX9
               have HYp : Wp.heap[W1.heap.size]? = some (.cells #[.slice none 0 0, .slice none 0 0] 28) := by rw [← hWp]; exact (setCell_far (by have := hs1.out; omega)).trans HY9
               obtain ⟨p0, p1⟩ := two_at HXp
               obtain ⟨q0, q1⟩ := two_at HYp
               have fq0 := two_thaw (j := 0) HYp
               obtain ⟨Wq, hWq⟩ : ∃ W, Wp.setCell ⟨W1.heap.size, 0, none⟩ (.slice b2 (putI (putI N x) y).length d2) = W := ⟨_, rfl⟩
               have HYq : Wq.heap[W1.heap.size]? = some (.cells #[.slice b2 (putI (putI N x) y).length d2, .slice none 0 0] 28) := by rw [← hWq]; exact set_first _ HYp
               obtain ⟨r0, r1⟩ := two_at HYq
               have fq1 := two_thaw (j := 1) HYq
               have HYQ := Lib.hid HYq
               clear HX9 HY9 HXp HYp HYq)
            | go_in)
          have HYr : Hid ((Wq.setCell ⟨W1.heap.size, 1, none⟩ (.slice a3 nl c3)).heap[W1.heap.size]? = some (.cells #[.slice b2 (putI (putI N x) y).length d2, .slice a3 nl c3] 28)) := set_second _ HYQ.out
          refine bodyPost_ret (results_row1 rfl _ _ W1.heap.size 28 _ (0, 0) _ rfl HYr.out Tryz.underlying28 rfl (by kernel_rfl)) rfl ?_
          have hlt := hs1.out
          have hlt2 := hs2.out
          have hWl : W2.heap.size ≤ W8.heap.size := by
            have h1 := K3.out.2.1.size
            have h2 := K4.out.2.1.size
            have h3 := K7.out.size
            have h4 := Hs8.out
            have h5 : W6.heap.size = w4.heap.size := by rw [← hW6, ← hW5, setCell_size, setCell_size]
            omega
          have hD9 := HD8.out.below HB10.out
          have hna : ∀ g o, a3 = some ⟨g, o, none⟩ → g ≠ w.heap.size ∧ g ≠ W1.heap.size := fun g o e => by
            have := h3b g o e
            omega
          have hpn : putE E (x, y, z) ≠ [] := fun e => by
            have : (x, y, z) ∈ putE E (x, y, z) := mem_putE.2 (.inl rfl)
            rw [e] at this
            simp at this
          have hb9 : Below w.heap.size w w10 := Hw8.out.trans (HB10.out.mono Hw8.out.size)
          have hn0 : nl = (putE E (x, y, z)).length := Hnl2.out
          refine ⟨b2, d2, a3, c3, by rw [hn0], ⟨?_, ?_, fun e => absurd e (putI_ne _ y), fun e => absurd e hpn⟩, ?_, ?_, .inr fun g o e => by have := h3b g o e; have := Hw8.out.size; omega⟩
          · rw [← hWq, ← hWp]
            exact ((hD9.nodes.set (fun g o e _ => (Hnew.out g o e).1)).set (fun g o e _ => (Hnew.out g o e).2.1)).set (fun g o e _ => (Hnew.out g o e).2.1)
          · rw [← hWq, ← hWp]
            exact ((H3s.out.set (fun g o e _ => (hna g o e).1)).set (fun g o e _ => (hna g o e).2)).set (fun g o e _ => (hna g o e).2)
          · rw [← hWq, ← hWp]
            exact ((hb9.trans (setCell_below (Nat.le_refl _))).trans (setCell_below (Nat.le_of_lt hlt))).trans (setCell_below (Nat.le_of_lt hlt))
          · by_cases e : b2 = a
            · exact .inl e
            · exact .inr fun g o e2 => by
                rcases (Hnew.out g o e2).2.2 with q | q
                · exact absurd q e
                · have := HB12.out.size
                  omega
end Go.Proofs.YthgkloapnihpaaaGreat

/- Both graphs, made of the same edges and nodes: what is kept while they are made. -/
namespace Go.Proofs.YthgkloapnihpaaaGreat
open Go.RowKit Go.Maps Go.WideMaps Go.WideElems Go.ChangeShapes Go.WideShapes

/-- The nodes and the edges of a list of edges. -/
def nodesUp (es : List Ed) : List Int := es.foldl (fun N x => putI (putI N x.1) x.2.1) []
def edgesUp (es : List Ed) : List Ed := es.foldl putE []
def nodesOf (es : List Ed) (ns : List Int) : List Int := ns.foldl putI (nodesUp es)
theorem nodesUp_next {es : List Ed} {q : Nat} (h : q < es.length) : nodesUp (es.take (q + 1)) = putI (putI (nodesUp (es.take q)) (es.getD q e0).1) (es.getD q e0).2.1 := by
  unfold nodesUp
  rw [List.take_add_one, List.getElem?_eq_getElem h, List.getD_eq_getElem?_getD, List.getElem?_eq_getElem h, List.foldl_append]
  rfl
theorem edgesUp_next {es : List Ed} {q : Nat} (h : q < es.length) : edgesUp (es.take (q + 1)) = putE (edgesUp (es.take q)) (es.getD q e0) := by
  unfold edgesUp
  rw [List.take_add_one, List.getElem?_eq_getElem h, List.getD_eq_getElem?_getD, List.getElem?_eq_getElem h, List.foldl_append]
  rfl
theorem nodesOf_next {es : List Ed} {ns : List Int} {q : Nat} (h : q < ns.length) : nodesOf es (ns.take (q + 1)) = putI (nodesOf es (ns.take q)) (ns.getD q 0) := by
  unfold nodesOf
  rw [List.take_add_one, List.getElem?_eq_getElem h, List.getD_eq_getElem?_getD, List.getElem?_eq_getElem h, List.foldl_append]
  rfl
theorem foldl_edges_len : ∀ (es : List Ed) (N : List Int), (es.foldl (fun N x => putI (putI N x.1) x.2.1) N).length ≤ N.length + 2 * es.length
  | [], N => by simp
  | x :: es, N => by
    have h1 := foldl_edges_len es (putI (putI N x.1) x.2.1)
    have h2 := putI_length N x.1
    have h3 := putI_length (putI N x.1) x.2.1
    simp only [List.foldl_cons, List.length_cons]
    omega
theorem foldl_putE_len : ∀ (es : List Ed) (E : List Ed), (es.foldl putE E).length ≤ E.length + es.length
  | [], N => by simp
  | x :: es, N => by
    have h1 := foldl_putE_len es (putE N x)
    have h2 := putE_length N x
    simp only [List.foldl_cons, List.length_cons]
    omega
theorem foldl_putI_len : ∀ (ns : List Int) (N : List Int), (ns.foldl putI N).length ≤ N.length + ns.length
  | [], N => by simp
  | x :: es, N => by
    have h1 := foldl_putI_len es (putI N x)
    have h2 := putI_length N x
    simp only [List.foldl_cons, List.length_cons]
    omega
theorem nodesUp_len (es : List Ed) : (nodesUp es).length ≤ 2 * es.length := by have := foldl_edges_len es []; simpa [nodesUp] using this
theorem edgesUp_len (es : List Ed) : (edgesUp es).length ≤ es.length := by have := foldl_putE_len es []; simpa [edgesUp] using this
theorem nodesOf_len (es : List Ed) (ns : List Int) : (nodesOf es ns).length ≤ 2 * es.length + ns.length := by
  have h1 := foldl_putI_len ns (nodesUp es)
  have h2 := nodesUp_len es
  show (ns.foldl putI (nodesUp es)).length ≤ _
  omega
theorem foldl_putE_rise : ∀ (es : List Ed) (E : List Ed), RiseE E → RiseE (es.foldl putE E)
  | [], _, h => h
  | _ :: es, _, h => foldl_putE_rise es _ (rise_putE h _)
theorem edgesUp_rise (es : List Ed) : RiseE (edgesUp es) := foldl_putE_rise es [] List.Pairwise.nil

/-- Both, while they are made: the program's, and the document's in its box. -/
structure Twin (V : World) (b g c : Nat) (N : List Int) (E : List Ed) (M : List Int) (D : List Ed) (a : Option Addr) (k : Nat) (a' : Option Addr) (k' : Nat) (W : World) : Prop where
  gr : ∃ Z B, B ≤ W.heap.size ∧ GrAt Z B g c N E W ∧ (∀ q, Z q → V.heap.size ≤ q ∧ q < W.heap.size ∧ q ≠ b) ∧ (∀ q o, a = some ⟨q, o, none⟩ → ¬ Z q) ∧ ∀ q o, a' = some ⟨q, o, none⟩ → ¬ Z q
  dg : DgAt W a a' M D
  apN : ∀ q o, a = some ⟨q, o, none⟩ → q ≠ b ∧ V.heap.size ≤ q
  apE : ∀ q o, a' = some ⟨q, o, none⟩ → q ≠ b ∧ V.heap.size ≤ q
  box : W.heap[b]? = some (.cells #[.slice a M.length k, .slice a' D.length k'] 28)
  at0 : V.heap.size ≤ b
  ng : b ≠ g
  lg : V.heap.size ≤ g
  gro : Below V.heap.size V W
/-- What is off a list leaves it. -/
theorem SlI.off {Z : Nat → Prop} {W W' : World} {a : Option Addr} {l : List Int} (h : SlI W a l) (g : Off Z W W') (ha : ∀ q o, a = some ⟨q, o, none⟩ → ¬ Z q) : SlI W' a l := by
  rcases h with h | ⟨b, off, e, hl, h⟩
  · exact .inl h
  · by_cases hz : l = []
    · exact .inl hz
    · exact .inr ⟨b, off, e, fun hx => Nat.lt_of_lt_of_le (hl hx) g.size, fun k x hk => (World.cell?_of_block (g.block b (hl hz) (ha b off e))).trans (h k x hk)⟩
theorem SlE.off {Z : Nat → Prop} {W W' : World} {a : Option Addr} {l : List Ed} (h : SlE W a l) (g : Off Z W W') (ha : ∀ q o, a = some ⟨q, o, none⟩ → ¬ Z q) : SlE W' a l := by
  rcases h with h | ⟨b, off, e, hl, h⟩
  · exact .inl h
  · by_cases hz : l = []
    · exact .inl hz
    · refine .inr ⟨b, off, e, fun hx => Nat.lt_of_lt_of_le (hl hx) g.size, fun k x hk => ?_⟩
      obtain ⟨h1, h2, h3⟩ := h k x hk
      have hb := g.block b (hl hz) (ha b off e)
      exact ⟨(World.cell?_of_block hb).trans h1, (World.cell?_of_block hb).trans h2, (World.cell?_of_block hb).trans h3⟩
theorem DgAt.off {Z : Nat → Prop} {W W' : World} {a a' : Option Addr} {N : List Int} {E : List Ed} (h : DgAt W a a' N E) (g : Off Z W W') (ha : ∀ q o, a = some ⟨q, o, none⟩ → ¬ Z q) (he : ∀ q o, a' = some ⟨q, o, none⟩ → ¬ Z q) : DgAt W' a a' N E :=
  ⟨h.nodes.off g ha, h.edges.off g he, h.n0, h.e0⟩
section
variable {V W : World} {b g c : Nat} {N : List Int} {E : List Ed} {M : List Int} {D : List Ed} {a : Option Addr} {k : Nat} {a' : Option Addr} {k' : Nat}
theorem Twin.bw (h : Twin V b g c N E M D a k a' k' W) : b < W.heap.size := (Array.getElem?_eq_some_iff.1 h.box).1
/-- A writer of the program's graph. -/
theorem Twin.grow {W' : World} {Z : Nat → Prop} {B c2 : Nat} {N2 : List Int} {E2 : List Ed} (h : Twin V b g c N E M D a k a' k' W)
    (hB : B ≤ W.heap.size) (hz : ∀ q, Z q → V.heap.size ≤ q ∧ q < W.heap.size ∧ q ≠ b) (hza : ∀ q o, a = some ⟨q, o, none⟩ → ¬ Z q) (hze : ∀ q o, a' = some ⟨q, o, none⟩ → ¬ Z q)
    (hg : GrAt (More Z W W') B g c2 N2 E2 W') (ho : Off Z W W') : Twin V b g c2 N2 E2 M D a k a' k' W' := by
  have hV := h.gro.size
  have hb := h.bw
  refine ⟨⟨_, B, Nat.le_trans hB ho.size, hg, fun q hq => ?_, fun q o e hq => ?_, fun q o e hq => ?_⟩, h.dg.off ho hza hze, h.apN, h.apE, (ho.block b hb fun hx => (hz b hx).2.2 rfl).trans h.box, h.at0, h.ng, h.lg, ⟨ho.os.trans h.gro.os, ho.tape.trans h.gro.tape, ho.output.trans h.gro.output, Nat.le_trans hV ho.size, fun q hq => ?_⟩⟩
  · rcases hq with hq | ⟨h1, h2⟩
    · obtain ⟨h3, h4, h5⟩ := hz q hq
      exact ⟨h3, Nat.lt_of_lt_of_le h4 ho.size, h5⟩
    · exact ⟨Nat.le_trans hV h1, h2, by omega⟩
  · rcases hq with hq | ⟨h1, h2⟩
    · exact hza q o e hq
    · have := h.dg.ltN e
      omega
  · rcases hq with hq | ⟨h1, h2⟩
    · exact hze q o e hq
    · have := h.dg.ltE e
      omega
  · exact (ho.block q (Nat.lt_of_lt_of_le hq hV) fun hx => by have := (hz q hx).1; omega).trans (h.gro.block q hq)
set_option maxRecDepth 100000 in
theorem Twin.edge (h : Twin V b g c N E M D a k a' k' W) (x y z : Int) (hx : fit64 x) (hy : fit64 y) (hzf : fit64 z) (hc : c ≤ 100000) (hE : E.length ≤ 100000) :
    Calls Tryz.prog 19 #[.pointer (some ⟨g, 0, none⟩), iv x, iv y, iv z] W fun e w' => e = .returned (.bool (decide ((x, y, z) ∉ E))) ∧ Hid (Twin V b g (c + 3) (putI (putI N x) y) (putE E (x, y, z)) M D a k a' k' w') := by
  obtain ⟨Z, B, hB, hg, hz, ha, he⟩ := h.gr
  refine (edge_any x y z hx hy hzf hc hE W hB hg).mono ?_
  rintro e w' ⟨rfl, K⟩
  exact ⟨rfl, h.grow hB hz ha he K.out.1 K.out.2⟩
set_option maxRecDepth 100000 in
theorem Twin.node (h : Twin V b g c N E M D a k a' k' W) (x : Int) (hx : fit64 x) (hc : c < maxLen) :
    Calls Tryz.prog 20 #[.pointer (some ⟨g, 0, none⟩), iv x] W fun e w' => e = .returned (.bool (decide (x ∉ N))) ∧ Hid (Twin V b g (c + 1) (putI N x) E M D a k a' k' w') := by
  obtain ⟨Z, B, hB, hg, hz, ha, he⟩ := h.gr
  refine (node_any x hx hc W hg).mono ?_
  rintro e w' ⟨rfl, K⟩
  exact ⟨rfl, h.grow hB hz ha he K.out.1 K.out.2⟩
theorem Twin.below {W' : World} (h : Twin V b g c N E M D a k a' k' W) (hb : Below W.heap.size W W') : Twin V b g c N E M D a k a' k' W' := by
  obtain ⟨Z, B, hB, hg, hz, ha, he⟩ := h.gr
  exact h.grow hB hz ha he ((hg.below hb).mono fun q hq => .inl hq) (Off.below hb)
/-- A new graph of the document's is put into the box. -/
theorem Twin.put {W' : World} {M2 : List Int} {D2 : List Ed} {a2 a3 : Option Addr} {k2 k3 : Nat} (h : Twin V b g c N E M D a k a' k' W) (hb : Below W.heap.size W W') (hd : DgAt W' a2 a3 M2 D2) (h2 : NewAt W.heap.size a a2) (h3 : NewAt W.heap.size a' a3) :
    Twin V b g c N E M2 D2 a2 k2 a3 k3 ((W'.setCell ⟨b, 0, none⟩ (.slice a2 M2.length k2)).setCell ⟨b, 1, none⟩ (.slice a3 D2.length k3)) := by
  obtain ⟨Z, B, hB, hg, hz, ha, he⟩ := h.gr
  have hV := h.gro.size
  have hbw := h.bw
  have hX := (hb.block b hbw).trans h.box
  have hN : ∀ q o, a2 = some ⟨q, o, none⟩ → (q ≠ b ∧ V.heap.size ≤ q) ∧ ¬ Z q := fun q o e => by
    rcases h2 with h2 | h2
    · rw [h2] at e
      exact ⟨h.apN q o e, ha q o e⟩
    · have := h2 q o e
      exact ⟨⟨by omega, by omega⟩, fun hx => by have := (hz q hx).2.1; omega⟩
  have hE : ∀ q o, a3 = some ⟨q, o, none⟩ → (q ≠ b ∧ V.heap.size ≤ q) ∧ ¬ Z q := fun q o e => by
    rcases h3 with h3 | h3
    · rw [h3] at e
      exact ⟨h.apE q o e, he q o e⟩
    · have := h3 q o e
      exact ⟨⟨by omega, by omega⟩, fun hx => by have := (hz q hx).2.1; omega⟩
  have hsz : ((W'.setCell ⟨b, 0, none⟩ (.slice a2 M2.length k2)).setCell ⟨b, 1, none⟩ (.slice a3 D2.length k3)).heap.size = W'.heap.size := by rw [setCell_size, setCell_size]
  have hbl : ∀ q, q ≠ b → ((W'.setCell ⟨b, 0, none⟩ (.slice a2 M2.length k2)).setCell ⟨b, 1, none⟩ (.slice a3 D2.length k3)).heap[q]? = W'.heap[q]? := fun q hq => (setCell_far hq).trans (setCell_far hq)
  have hof : Off (fun q => q = b) W ((W'.setCell ⟨b, 0, none⟩ (.slice a2 M2.length k2)).setCell ⟨b, 1, none⟩ (.slice a3 D2.length k3)) :=
    ⟨hb.os, hb.tape, hb.output, by rw [hsz]; exact hb.size, fun q hq hne => (hbl q hne).trans (hb.block q hq)⟩
  have hgr : GrAt Z B g c N E ((W'.setCell ⟨b, 0, none⟩ (.slice a2 M2.length k2)).setCell ⟨b, 1, none⟩ (.slice a3 D2.length k3)) := by
    obtain ⟨ob, DO, F, DI, f, hG, hF⟩ := hg
    exact ⟨ob, DO, F, DI, f, hG.off hof fun q hq => by subst hq; exact ⟨h.ng, fun hx => (hz _ (hF _ hx)).2.2 rfl⟩, hF⟩
  refine ⟨⟨Z, B, by rw [hsz]; exact Nat.le_trans hB hb.size, hgr, fun q hq => ?_, fun q o e => (hN q o e).2, fun q o e => (hE q o e).2⟩, ?_, fun q o e => (hN q o e).1, fun q o e => (hE q o e).1, set_second _ (set_first _ hX), h.at0, h.ng, h.lg, ?_⟩
  · rw [hsz]
    obtain ⟨h4, h5, h6⟩ := hz q hq
    exact ⟨h4, Nat.lt_of_lt_of_le h5 hb.size, h6⟩
  · exact (hd.set (fun q o e => (hN q o e).1.1) (fun q o e => (hE q o e).1.1)).set (fun q o e => (hN q o e).1.1) (fun q o e => (hE q o e).1.1)
  · exact ((h.gro.trans (hb.mono hV)).trans (setCell_below h.at0)).trans (setCell_below h.at0)
end
end Go.Proofs.YthgkloapnihpaaaGreat

/- The program's graph and the document's, made of edges and nodes: a contract. -/
namespace Go.Proofs.YthgkloapnihpaaaGreat
open Go.RowKit Go.Maps Go.WideMaps Go.WideElems Go.ChangeShapes Go.WideShapes

theorem results_tmp_row {P : Program} {fn : Func} {p u : Tmp} {ty : TypeId} (h : fn.results = #[.tmp u, .cell p ty]) (tmps : Array Value) (w : World) (g : Nat) (t : TypeId) (cs : Array Value) (fr : Nat × Nat) (d : TypeDesc)
    (hp : tmps.getD p undef = .pointer (some ⟨g, 0, none⟩)) (hg : w.heap[g]? = some (.cells cs t fr))
    (hu : P.underlying ty = some d) (hd : (match d with | .struct _ | .array _ _ => true | _ => false) = true) (hi : (P.info? ty).map (·.size) = some cs.size) :
    (results fn tmps).run P w = .ok (.tuple #[tmps.getD u undef, .agg cs]) w := by
  have hp' : tmps[p]?.getD undef = .pointer (some ⟨g, 0, none⟩) := by simpa using hp
  simp only [results, h]
  simp [hp', asAddr, run_loadVar_row w g t ty cs fr d hg hu hd hi, Result.andThen]
theorem SlI.gro {V W : World} {a : Option Addr} {l : List Int} {B : Nat} (h : SlI V a l) (hb : Below B V W) (hB : V.heap.size ≤ B) : SlI W a l := h.below (grown_below (hb.mono hB))
theorem SlE.gro {V W : World} {a : Option Addr} {l : List Ed} {B : Nat} (h : SlE V a l) (hb : Below B V W) (hB : V.heap.size ≤ B) : SlE W a l := h.below (hb.mono hB)
/-- Both graphs. -/
structure TwoGr (B0 : Nat) (g c : Nat) (N : List Int) (E : List Ed) (a a' : Option Addr) (W : World) : Prop where
  gr : ∃ Z B, B ≤ W.heap.size ∧ GrAt Z B g c N E W ∧ (∀ q, Z q → B0 ≤ q ∧ q < W.heap.size) ∧ (∀ q o, a = some ⟨q, o, none⟩ → ¬ Z q) ∧ ∀ q o, a' = some ⟨q, o, none⟩ → ¬ Z q
  dg : DgAt W a a' N E
  apN : ∀ q o, a = some ⟨q, o, none⟩ → B0 ≤ q
  apE : ∀ q o, a' = some ⟨q, o, none⟩ → B0 ≤ q
theorem TwoGr.below {B0 g c : Nat} {N : List Int} {E : List Ed} {a a' : Option Addr} {W W' : World} (h : TwoGr B0 g c N E a a' W) (hb : Below W.heap.size W W') : TwoGr B0 g c N E a a' W' := by
  obtain ⟨Z, B, hB, hg, hz, ha, he⟩ := h.gr
  exact ⟨⟨Z, B, Nat.le_trans hB hb.size, hg.below hb, fun q hq => ⟨(hz q hq).1, Nat.lt_of_lt_of_le (hz q hq).2 hb.size⟩, ha, he⟩, h.dg.below hb, h.apN, h.apE⟩
theorem SlE.cells {W : World} {b off : Nat} {l : List Ed} (h : SlE W (some ⟨b, off, none⟩) l) {k : Nat} (hk : k < l.length) {x y z : Int} (hp : l.getD k e0 = (x, y, z)) : W.cell? ⟨b, off + k * 3, none⟩ = some (iv x) ∧ W.cell? ⟨b, off + k * 3 + 1, none⟩ = some (iv y) ∧ W.cell? ⟨b, off + k * 3 + 2, none⟩ = some (iv z) := by
  obtain ⟨b2, o2, e, h1, h2, h3⟩ := h.at hk
  rw [hp] at h1 h2 h3
  cases e
  exact ⟨h1, h2, h3⟩
theorem SlI.cell1 {W : World} {b off : Nat} {l : List Int} (h : SlI W (some ⟨b, off, none⟩) l) {k : Nat} (hk : k < l.length) {x : Int} (hp : l.getD k 0 = x) : W.cell? ⟨b, off + k, none⟩ = some (iv x) := by
  obtain ⟨b2, o2, e, h1⟩ := h.at hk
  rw [hp] at h1
  cases e
  exact h1
set_option maxHeartbeats 128000000 in
set_option maxRecDepth 100000 in
theorem made_any (ea : Option Addr) (ce : Nat) (es : List Ed) (na : Option Addr) (cn : Nat) (ns : List Int) (hes : es.length ≤ 100) (hns : ns.length ≤ 100) (hef : ∀ e ∈ es, fit64 e.1 ∧ fit64 e.2.1 ∧ fit64 e.2.2) (hnf : ∀ x ∈ ns, fit64 x) (w : World) (hE : SlE w ea es) (hN : SlI w na ns) :
    Calls Tryz.prog 5 #[.slice ea es.length ce, .slice na ns.length cn] w fun e w' => ∃ g c a k a' k', e = .returned (.tuple #[.pointer (some ⟨g, 0, none⟩), gval a (nodesOf es ns).length k a' (edgesUp es).length k']) ∧ Hid (c ≤ 400 ∧ TwoGr w.heap.size g c (nodesOf es ns) (edgesUp es) a a' w' ∧ Below w.heap.size w w') := by
  obtain ⟨W0, hW0, Hb0, hs0, Hx0⟩ := two_any w (.slice none 0 0) (.slice none 0 0) 28
  have HNew := Lib.hid (new_any W0)
  have HE := Lib.hid (hE.gro Hb0.out (Nat.le_refl _))
  have HN := Lib.hid (hN.gro Hb0.out (Nat.le_refl _))
  have Hef := Lib.hid hef
  have Hnf := Lib.hid hnf
  have Hes := Lib.hid hes
  have Hns := Lib.hid hns
  obtain ⟨n, hn⟩ : ∃ n, es.length = n := ⟨_, rfl⟩
  obtain ⟨m, hm⟩ : ∃ m, ns.length = m := ⟨_, rfl⟩
  have Hn := Lib.hid hn
  have Hm := Lib.hid hm
  rw [hn, hm]
  have hn1 : n ≤ 100 := by omega
  have hm1 : m ≤ 100 := by omega
  clear hE hN hef hnf hes hns hn hm
  go_enter Tryz.func5, Tryz.ntmps5
  go_wp2_with (first
    | (go_at_call 18; (with_reducible refine HNew.out.mono ?_); rintro e w1 ⟨g, rfl, K1⟩
       obtain ⟨W2, hW2, Hb2, hs2, Hx2⟩ := two_any w1 (.slice none 0 0) (.slice none 0 0) 28)
    | go_in)
  have H0 : Hid (Twin W0 w1.heap.size g 0 [] [] [] [] none 0 none 0 W2) := by
    obtain ⟨h1, h2, h3⟩ := K1.out
    have hgl : g < w1.heap.size := by
      obtain ⟨ob, DO, F, DI, f, hG, -⟩ := h1
      exact (Array.getElem?_eq_some_iff.1 hG.box).1
    refine ⟨⟨_, _, Nat.le_trans h2.size Hb2.out.size, h1.below Hb2.out, fun q hq => ⟨hq.1, Nat.lt_of_lt_of_le hq.2 Hb2.out.size, by omega⟩, fun _ _ e => (nomatch e), fun _ _ e => (nomatch e)⟩, ⟨.inl rfl, .inl rfl, fun _ => rfl, fun _ => rfl⟩, fun _ _ e => (nomatch e), fun _ _ e => (nomatch e), Hx2.out, h2.size, by omega, h3, h2.trans (Hb2.out.mono h2.size)⟩
  try go_frame
  go_loopw [8] (fun i wr => ∃ (q : Nat) (a : Option Addr) (k : Nat) (a' : Option Addr) (k' : Nat), q ≤ n ∧ i = .int .i64 ((q : Nat) : Int) ∧ Hid (Twin W0 w1.heap.size g (3 * q) (nodesUp (es.take q)) (edgesUp (es.take q)) (nodesUp (es.take q)) (edgesUp (es.take q)) a k a' k' wr)) (fun i _ => n - (intOf i).toNat)
  case atStart => exact ⟨0, none, 0, none, 0, Nat.zero_le _, rfl, H0.out⟩
  case round =>
    obtain ⟨q, a, k, a', k', hq, rfl, HT⟩ := hrel
    obtain ⟨wa, hwa⟩ : ∃ wa, wa = wr := ⟨_, rfl⟩
    subst hwa
    by_cases hlt : q < n
    · have hqo : q < es.length := by rw [Hn.out]; exact hlt
      obtain ⟨p3, off3, rfl, hc0, hc1, hc2⟩ := (HE.out.below HT.out.gro).at hqo
      have hfx := Hef.out _ (getD_in (d := e0) hqo)
      have hnx := nodesUp_next hqo
      have hex := edgesUp_next hqo
      generalize hp : es.getD q e0 = p at *
      obtain ⟨x, y, z⟩ := p
      obtain ⟨hfa, hfb, hfz⟩ := hfx
      have hl1 : (nodesUp (es.take q)).length ≤ 2 * q := Nat.le_trans (nodesUp_len _) (by rw [List.length_take]; omega)
      have hl2 : (edgesUp (es.take q)).length ≤ q := Nat.le_trans (edgesUp_len _) (by rw [List.length_take]; omega)
      have HR := Lib.hid (edgesUp_rise (es.take q))
      have Hnx := Lib.hid hnx
      have Hex := Lib.hid hex
      have Hlt := Lib.hid hlt
      have Hqo := Lib.hid hqo
      have Hp := Lib.hid hp
      have HTd := Lib.hid (HT.out.below (Below.refl _ wa).drew)
      have HEd := Lib.hid (HTd.out.edge x y z hfa hfb hfz (by omega) (by omega))
      generalize nodesUp (es.take q) = N at *
      generalize edgesUp (es.take q) = E at *
      have Hl1 := Lib.hid hl1
      have Hl2 := Lib.hid hl2
      have hlI : (q : Int) < (n : Int) := by omega
      have Hc := Lib.hid (show _ ∧ _ ∧ _ from ⟨hc0, hc1, hc2⟩)
      clear hnx hex hfa hfb hfz hl1 hl2 hp hqo
      go_wp2
      go_still_tail 16, (by kernel_rfl)
      change wpList _ _ _ _ _ wa.drew
      generalize wa.drew = wd at *
      go_wp2_with (first
        | (go_at_call 19; (with_reducible refine HEd.out.mono ?_); rintro e w2 ⟨rfl, K2⟩
           obtain ⟨u0, u1, u2⟩ : w2.cell? ⟨p3, off3 + q * 3, none⟩ = some (iv x) ∧ w2.cell? ⟨p3, off3 + q * 3 + 1, none⟩ = some (iv y) ∧ w2.cell? ⟨p3, off3 + q * 3 + 2, none⟩ = some (iv z) := (HE.out.gro K2.out.gro (Nat.le_refl _)).cells Hqo.out Hp.out
           obtain ⟨b0, b1⟩ := two_at K2.out.box
           have K4 := Lib.hid (K2.out.below (Below.refl _ w2).drew)
           have HDe := Lib.hid (dedge_any a a' k k' N E x y z HR.out (by have := Hl1.out; omega) (by have := Hl2.out; omega) w2.drew K4.out.dg))
        | go_in)
      go_still_tail 16, (by kernel_rfl)
      change wpList _ _ _ _ _ w2.drew
      generalize w2.drew = we at *
      go_wp2_with (first
        | (go_at_call 9; (with_reducible refine HDe.out.mono ?_); rintro e w3 ⟨a2, k2, a3, k3, rfl, K3⟩
           obtain ⟨KD, KB, KN, KE⟩ := K3.out
           have hX3 := (KB.block _ (Array.getElem?_eq_some_iff.1 K4.out.box).1).trans K4.out.box
           have fz0 := two_thaw (j := 0) hX3
           obtain ⟨v0, v1⟩ := two_at hX3
           obtain ⟨W4, hW4⟩ : ∃ W, w3.setCell ⟨w1.heap.size, 0, none⟩ (.slice a2 (putI (putI N x) y).length k2) = W := ⟨_, rfl⟩
           have hX4 : W4.heap[w1.heap.size]? = some (.cells #[.slice a2 (putI (putI N x) y).length k2, .slice a' E.length k'] 28) := by rw [← hW4]; exact set_first _ hX3
           have fz1 := two_thaw (j := 1) hX4
           obtain ⟨v2, v3⟩ := two_at hX4
           have HT4 := Lib.hid (K4.out.put (k2 := k2) (k3 := k3) KB KD KN KE)
           rw [hW4] at HT4
           clear hX3 hX4 KD KB KN KE)
        | go_in)
      go_roundw
      case rel => exact ⟨q + 1, a2, k2, a3, k3, Hlt.out, by go_num, by rw [Hnx.out, Hex.out]; exact HT4.out⟩
      case measure => simp [intOf]; omega
    · have hqn : q = n := by omega
      subst hqn
      have e1 : nodesUp (es.take q) = nodesOf es (ns.take 0) := by rw [List.take_of_length_le (by rw [Hn.out]; exact Nat.le_refl _)]; rfl
      have e2 : es.take q = es := List.take_of_length_le (by rw [Hn.out]; exact Nat.le_refl _)
      have hd : (edgesUp es).length ≤ 100 := Nat.le_trans (edgesUp_len _) Hes.out
      have Hd := Lib.hid hd
      have HT1 : Hid (Twin W0 w1.heap.size g (3 * q + 0) (nodesOf es (ns.take 0)) (edgesUp es) (nodesOf es (ns.take 0)) (edgesUp es) a k a' k' wa) := by
        have h1 := HT.out
        rw [e1, e2] at h1
        exact h1
      clear e1 e2 hd
      go_wp2
      try go_frame
      go_loopw [9] (fun i wr => ∃ (j : Nat) (a : Option Addr) (k : Nat) (a' : Option Addr) (k' : Nat), j ≤ m ∧ i = .int .i64 ((j : Nat) : Int) ∧ Hid (Twin W0 w1.heap.size g (3 * q + j) (nodesOf es (ns.take j)) (edgesUp es) (nodesOf es (ns.take j)) (edgesUp es) a k a' k' wr)) (fun i _ => m - (intOf i).toNat)
      case atStart => exact ⟨0, a, k, a', k', Nat.zero_le _, rfl, HT1.out⟩
      case round =>
        obtain ⟨j, a, k, a', k', hj, rfl, HU⟩ := hrel
        obtain ⟨wb, hwb⟩ : ∃ wb, wb = wr := ⟨_, rfl⟩
        subst hwb
        by_cases hjt : j < m
        · have hjo : j < ns.length := by rw [Hm.out]; exact hjt
          obtain ⟨p4, off4, rfl, hc4⟩ := (HN.out.gro HU.out.gro (Nat.le_refl _)).at hjo
          have hfx := Hnf.out _ (getD_in (d := 0) hjo)
          have hnx := nodesOf_next (es := es) hjo
          generalize hp : ns.getD j 0 = x at *
          have hl1 : (nodesOf es (ns.take j)).length ≤ 1000 := Nat.le_trans (nodesOf_len _ _) (by have := Hes.out; rw [List.length_take]; omega)
          have Hnx := Lib.hid hnx
          have Hjt := Lib.hid hjt
          have Hjo := Lib.hid hjo
          have Hp := Lib.hid hp
          have HNd := Lib.hid (HU.out.node x hfx (by unfold maxLen; omega))
          generalize nodesOf es (ns.take j) = N at *
          generalize edgesUp es = E at *
          have Hl1 := Lib.hid hl1
          have hlI : (j : Int) < (m : Int) := by omega
          clear hnx hfx hl1 hp hjo
          go_wp2_with (first
            | (go_at_call 20; (with_reducible refine HNd.out.mono ?_); rintro e w2 ⟨rfl, K2⟩
               have u0 : w2.cell? ⟨p4, off4 + j, none⟩ = some (iv x) := (HN.out.gro K2.out.gro (Nat.le_refl _)).cell1 Hjo.out Hp.out
               obtain ⟨b0, b1⟩ := two_at K2.out.box
               have K4 := Lib.hid (K2.out.below (Below.refl _ w2).drew)
               have HDe := Lib.hid (dnode_any a a' k k' N E x (by have := Hl1.out; omega) w2.drew K4.out.dg))
            | go_in)
          go_still_tail 5, (by kernel_rfl)
          change wpList _ _ _ _ _ w2.drew
          generalize w2.drew = we at *
          go_wp2_with (first
            | (go_at_call 8; (with_reducible refine HDe.out.mono ?_); rintro e w3 ⟨a2, k2, rfl, K3⟩
               obtain ⟨KD, KB, KN⟩ := K3.out
               have hX3 := (KB.block _ (Array.getElem?_eq_some_iff.1 K4.out.box).1).trans K4.out.box
               have fz0 := two_thaw (j := 0) hX3
               obtain ⟨v0, v1⟩ := two_at hX3
               obtain ⟨W4, hW4⟩ : ∃ W, w3.setCell ⟨w1.heap.size, 0, none⟩ (.slice a2 (putI N x).length k2) = W := ⟨_, rfl⟩
               have hX4 : W4.heap[w1.heap.size]? = some (.cells #[.slice a2 (putI N x).length k2, .slice a' E.length k'] 28) := by rw [← hW4]; exact set_first _ hX3
               have fz1 := two_thaw (j := 1) hX4
               obtain ⟨v2, v3⟩ := two_at hX4
               have HT4 := Lib.hid (K4.out.put (k2 := k2) (k3 := k') KB KD KN (.inl rfl))
               rw [hW4] at HT4
               clear hX3 hX4 KD KB KN)
            | go_in)
          go_roundw
          case rel => exact ⟨j + 1, a2, k2, a', k', Hjt.out, by go_num, by rw [Hnx.out]; exact HT4.out⟩
          case measure => simp [intOf]; omega
        · have hjm : j = m := by omega
          subst hjm
          have e1 : ns.take j = ns := List.take_of_length_le (by rw [Hm.out]; exact Nat.le_refl _)
          have HU1 : Hid (Twin W0 w1.heap.size g (3 * q + j) (nodesOf es ns) (edgesUp es) (nodesOf es ns) (edgesUp es) a k a' k' wb) := by
            have h1 := HU.out
            rw [e1] at h1
            exact h1
          have hX := HU1.out.box
          obtain ⟨b0, b1⟩ := two_at hX
          have HU2 := Lib.hid (HU1.out.below (Below.refl _ wb).drew)
          have Hlt0 : Hid (w.heap.size < W0.heap.size) := hs0.out
          clear hX e1
          go_wp2
          go_still_tail 3, (by kernel_rfl)
          change wpList _ _ _ _ _ wb.drew
          generalize wb.drew = wd at *
          have hR : wd.heap[w.heap.size]? = some (.cells #[.slice none 0 0, .slice none 0 0] 28) := (HU2.out.gro.block _ Hlt0.out).trans Hx0.out
          obtain ⟨r0, r1⟩ := two_at hR
          have fz0 := two_thaw (j := 0) hR
          obtain ⟨W4, hW4⟩ : ∃ W, wd.setCell ⟨w.heap.size, 0, none⟩ (.slice a (nodesOf es ns).length k) = W := ⟨_, rfl⟩
          have hR4 : W4.heap[w.heap.size]? = some (.cells #[.slice a (nodesOf es ns).length k, .slice none 0 0] 28) := by rw [← hW4]; exact set_first _ hR
          have fz1 := two_thaw (j := 1) hR4
          obtain ⟨v2, v3⟩ := two_at hR4
          have HR4 := Lib.hid hR4
          clear hR hR4
          go_wp2
          have HR5 : Hid ((W4.setCell ⟨w.heap.size, 1, none⟩ (.slice a' (edgesUp es).length k')).heap[w.heap.size]? = some (.cells #[.slice a (nodesOf es ns).length k, .slice a' (edgesUp es).length k'] 28)) := set_second _ HR4.out
          refine bodyPost_ret (results_tmp_row rfl _ _ w.heap.size 28 _ (0, 0) _ rfl HR5.out Tryz.underlying28 rfl (by kernel_rfl)) rfl ?_
          refine ⟨g, 3 * q + j, a, k, a', k', rfl, by omega, ?_, ?_⟩
          · obtain ⟨Z, B, hB, hg, hz, hza, hze⟩ := HU2.out.gr
            have hl := Hlt0.out
            have hsz : (W4.setCell ⟨w.heap.size, 1, none⟩ (.slice a' (edgesUp es).length k')).heap.size = wd.heap.size := by rw [← hW4, setCell_size, setCell_size]
            have hbl : ∀ q, q ≠ w.heap.size → (W4.setCell ⟨w.heap.size, 1, none⟩ (.slice a' (edgesUp es).length k')).heap[q]? = wd.heap[q]? := fun q hq => by rw [← hW4]; exact (setCell_far hq).trans (setCell_far hq)
            have hof : Off (fun q => q = w.heap.size) wd (W4.setCell ⟨w.heap.size, 1, none⟩ (.slice a' (edgesUp es).length k')) :=
              ⟨by rw [← hW4]; rfl, by rw [← hW4]; rfl, by rw [← hW4]; rfl, by rw [hsz]; exact Nat.le_refl _, fun q _ hne => hbl q hne⟩
            have hgr : GrAt Z B g (3 * q + j) (nodesOf es ns) (edgesUp es) (W4.setCell ⟨w.heap.size, 1, none⟩ (.slice a' (edgesUp es).length k')) := by
              obtain ⟨ob, DO, F, DI, f, hG, hF⟩ := hg
              refine ⟨ob, DO, F, DI, f, hG.off hof fun q hq => ?_, hF⟩
              subst hq
              exact ⟨fun e => by have := HU2.out.lg; omega, fun hx => by have := (hz _ (hF _ hx)).1; omega⟩
            refine ⟨⟨Z, B, by rw [hsz]; exact hB, hgr, fun q hq => ?_, hza, hze⟩, ?_, fun q o e => by have := (HU2.out.apN q o e).2; omega, fun q o e => by have := (HU2.out.apE q o e).2; omega⟩
            · rw [hsz]
              obtain ⟨h1, h2, -⟩ := hz q hq
              exact ⟨by omega, h2⟩
            · rw [← hW4]
              have h1 : ∀ q o, a = some ⟨q, o, none⟩ → q ≠ w.heap.size := fun q o e => by have := (HU2.out.apN q o e).2; omega
              have h2 : ∀ q o, a' = some ⟨q, o, none⟩ → q ≠ w.heap.size := fun q o e => by have := (HU2.out.apE q o e).2; omega
              exact (HU2.out.dg.set h1 h2).set h1 h2
          · rw [← hW4]
            have hl := Hlt0.out
            exact (((Hb0.out.trans (HU2.out.gro.mono (Nat.le_of_lt hl))).trans (setCell_below (Nat.le_refl _))).trans (setCell_below (Nat.le_refl _)))
end Go.Proofs.YthgkloapnihpaaaGreat
