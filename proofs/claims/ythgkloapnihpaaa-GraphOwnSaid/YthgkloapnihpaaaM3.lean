/- Helpers, joined: Pf, Go, Gp, Gq, Da, Db. -/
import Derived.Test.YthgkloapnihpaaaM2
import Derived.Deep.AppendLies

/- Graphs, plainly: all edges, by nodes, by those they lead to, by kinds. -/
namespace Go.Proofs.Ythgkloapnihpaaa

/-- The edges from a to b. -/
def edAB (E : List Ed) (a b : Int) : List Ed := (kindsE E a b).map fun k => (a, b, k)
/-- The edges from a. -/
def edA (N : List Int) (E : List Ed) (a : Int) : List Ed := (outsE N E a).flatMap fun b => edAB E a b
/-- All edges. -/
def edAll (N : List Int) (E : List Ed) : List Ed := N.flatMap fun a => edA N E a
theorem mem_edAB {E : List Ed} {a b : Int} {e : Ed} : e ∈ edAB E a b ↔ e ∈ E ∧ e.1 = a ∧ e.2.1 = b := by
  unfold edAB
  rw [List.mem_map]
  constructor
  · rintro ⟨k, hk, rfl⟩
    exact ⟨mem_kindsE.1 hk, rfl, rfl⟩
  · obtain ⟨x, y, k⟩ := e
    rintro ⟨h, h2, h3⟩
    simp only at h2 h3
    subst h2 h3
    exact ⟨k, mem_kindsE.2 h, rfl⟩
theorem rise_flat {f : Int → List Ed} {p : Ed → Int} (hp : ∀ a, ∀ e ∈ f a, p e = a) (hlt : ∀ a b, a < b → ∀ x ∈ f a, ∀ y ∈ f b, LtE x y) : ∀ {l : List Int}, RiseI l → (∀ a ∈ l, RiseE (f a)) → RiseE (l.flatMap f)
  | [], _, _ => List.Pairwise.nil
  | a :: l, hl, hf => by
    have hl' := List.pairwise_cons.1 hl
    rw [List.flatMap_cons]
    refine List.pairwise_append.2 ⟨hf a (List.mem_cons_self ..), rise_flat hp hlt hl'.2 (fun b hb => hf b (List.mem_cons_of_mem _ hb)), fun x hx y hy => ?_⟩
    obtain ⟨b, hb, hy⟩ := List.mem_flatMap.1 hy
    exact hlt a b (hl'.1 b hb) x hx y hy
theorem edAll_eq {N : List Int} {E : List Ed} (hN : RiseI N) (hE : RiseE E) (hin : EndsIn N E) : edAll N E = E := by
  have hA : ∀ a, RiseE (edA N E a) := fun a => by
    refine rise_flat (p := fun e => e.2.1) (fun b e he => (mem_edAB.1 he).2.2) (fun b b' hbb x hx y hy => ?_) (hN.filter _) fun b _ => ?_
    · have h1 := mem_edAB.1 hx
      have h2 := mem_edAB.1 hy
      unfold LtE
      omega
    · unfold edAB
      show List.Pairwise LtE _
      rw [List.pairwise_map]
      refine (rise_kindsE hE a b).imp fun {x y} h => ?_
      unfold LtE
      simp
      exact h
  have hmA : ∀ a e, e ∈ edA N E a ↔ e ∈ E ∧ e.1 = a := fun a e => by
    unfold edA
    rw [List.mem_flatMap]
    constructor
    · rintro ⟨b, _, h⟩
      have := mem_edAB.1 h
      exact ⟨this.1, this.2.1⟩
    · rintro ⟨h1, h2⟩
      refine ⟨e.2.1, (mem_outsE hin).2 ⟨e.2.2, ?_⟩, mem_edAB.2 ⟨h1, h2, rfl⟩⟩
      rw [← h2]
      exact h1
  refine riseE_ext ?_ hE fun e => ?_
  · refine rise_flat (p := fun e => e.1) (fun a e he => ((hmA a e).1 he).2) (fun a a' haa x hx y hy => ?_) hN fun a _ => hA a
    have h1 := (hmA a x).1 hx
    have h2 := (hmA a' y).1 hy
    unfold LtE
    omega
  · unfold edAll
    rw [List.mem_flatMap]
    constructor
    · rintro ⟨a, _, h⟩
      exact ((hmA a e).1 h).1
    · intro h
      exact ⟨e.1, (hin e.1 e.2.1 ⟨e.2.2, h⟩).1, (hmA e.1 e).2 ⟨h, rfl⟩⟩
end Go.Proofs.Ythgkloapnihpaaa

/- Graphs: Edges, by a contract. -/
namespace Go.Proofs.Ythgkloapnihpaaa
open Go.RowKit Go.Maps Go.WideMaps Go.WideElems Go.ChangeShapes Go.WideShapes

/-- The cells of edges. -/
def edRow (E : List Ed) : List Value := E.flatMap fun e => [iv e.1, iv e.2.1, iv e.2.2]
theorem edRow_snoc (E : List Ed) (e : Ed) : edRow (E ++ [e]) = edRow E ++ [iv e.1, iv e.2.1, iv e.2.2] := by simp [edRow]
theorem elem57 : (Try.prog.info? 57).map (fun i => (i.zero, i.size, i.bytes)) = some (some (.agg #[.int .i64 0, .int .i64 0, .int .i64 0]), 3, 24) := by kernel_rfl
theorem row_form {W : World} {B e : Nat} {v : Value} {l : List Int} (h : W.ownsRow B e 1 v l.length (l.map (Value.int .i64))) : ∃ a c, v = .slice a l.length c ∧ ∀ k, k < l.length → ∃ q, a = some ⟨q, 0, none⟩ ∧ W.cell? ⟨q, k, none⟩ = some (iv (l.getD k 0)) := by
  rcases h.2 with ⟨rfl, h0⟩ | ⟨g, cap, cur, rfl, hb, hg, r⟩
  · exact ⟨none, 0, by rw [h0], fun k hk => by omega⟩
  · refine ⟨_, cap, rfl, fun k hk => ⟨g, rfl, ?_⟩⟩
    rw [h.cellAt k (by omega)]
    simp [hk]
/-- A row of numbers beside a row of edges that grows. -/
theorem ints_other {W U : World} {B B' n : Nat} {v v' : Value} {xs ys : List Value} {m : Nat} (h : W.ownsRow B 3 1 v n xs) (h' : W.ownsRow B' 57 3 v' m ys) (hg : W.grownBy U v'.ownBlock) : U.ownsRow B 3 1 v n xs := by
  refine h.kept hg ?_
  cases hv : v.ownBlock with
  | none => exact .inl rfl
  | some q =>
    right
    intro e
    rcases h.2 with ⟨rfl, _⟩ | ⟨g, cap, cur, rfl, _, hg1, _⟩
    · simp [Value.ownBlock] at hv
    · rcases h'.2 with ⟨rfl, _⟩ | ⟨g', cap', cur', rfl, _, hg2, _⟩
      · simp [Value.ownBlock] at e
      · have e1 : g = q := by simpa [Value.ownBlock] using hv
        have e2 : q = g' := by simpa [Value.ownBlock] using e
        rw [e1, e2, hg2] at hg1
        cases hg1
theorem take_getD {l : List Int} {k : Nat} (h : k < l.length) : l.take (k + 1) = l.take k ++ [l.getD k 0] := by
  rw [List.take_add_one, List.getElem?_eq_getElem h, List.getD_eq_getElem?_getD, List.getElem?_eq_getElem h]
  rfl
theorem row_at {W : World} {B e n c : Nat} {a : Option Addr} {l : List Int} (h : W.ownsRow B e 1 (.slice a n c) l.length (l.map (Value.int .i64))) {k : Nat} (hk : k < l.length) : ∃ q, a = some ⟨q, 0, none⟩ ∧ W.cell? ⟨q, k, none⟩ = some (iv (l.getD k 0)) := by
  obtain ⟨a', c', e1, r⟩ := row_form h
  injection e1 with e1 e2 e3
  rw [e1]
  exact r k hk
/-- The edges so far: of the first nodes, of the first that the next one leads to, of the first kinds. -/
def edUp (N : List Int) (E : List Ed) (i j k : Nat) : List Ed := (N.take i).flatMap (edA N E) ++ ((outsE N E (N.getD i 0)).take j).flatMap (edAB E (N.getD i 0)) ++ ((kindsE E (N.getD i 0) ((outsE N E (N.getD i 0)).getD j 0)).take k).map fun q => (N.getD i 0, (outsE N E (N.getD i 0)).getD j 0, q)
theorem edUp_kind {N : List Int} {E : List Ed} {i j k : Nat} (h : k < (kindsE E (N.getD i 0) ((outsE N E (N.getD i 0)).getD j 0)).length) : edUp N E i j (k + 1) = edUp N E i j k ++ [(N.getD i 0, (outsE N E (N.getD i 0)).getD j 0, (kindsE E (N.getD i 0) ((outsE N E (N.getD i 0)).getD j 0)).getD k 0)] := by
  unfold edUp
  rw [take_getD h, List.map_append, ← List.append_assoc]
  rfl
theorem edUp_out {N : List Int} {E : List Ed} {i j : Nat} (h : j < (outsE N E (N.getD i 0)).length) : edUp N E i (j + 1) 0 = edUp N E i j (kindsE E (N.getD i 0) ((outsE N E (N.getD i 0)).getD j 0)).length := by
  unfold edUp
  rw [take_getD h, List.flatMap_append, List.take_length, List.take_zero, List.map_nil, List.append_nil, List.append_assoc]
  simp [edAB]
theorem edUp_node {N : List Int} {E : List Ed} {i : Nat} (h : i < N.length) : edUp N E (i + 1) 0 0 = edUp N E i (outsE N E (N.getD i 0)).length 0 := by
  unfold edUp
  rw [take_getD h, List.flatMap_append]
  simp [edA]
theorem edUp_zero (N : List Int) (E : List Ed) : edUp N E 0 0 0 = [] := by simp [edUp]
theorem edUp_all {N : List Int} {E : List Ed} : edUp N E N.length 0 0 = edAll N E := by simp [edUp, edAll]
end Go.Proofs.Ythgkloapnihpaaa

/- Graphs: the walk of Edges. -/
namespace Go.Proofs.Ythgkloapnihpaaa
open Go.RowKit Go.Maps Go.WideMaps Go.WideElems Go.ChangeShapes Go.WideShapes

theorem ed_news (w : World) (p0 p1 p2 : Value) (t : TypeId) : ∀ j u, [p0, p1, p2][j]? = some u → (w.alloc (.cells #[p0, p1, p2] t)).cell? ((⟨w.heap.size, 0, none⟩ : Addr).add j) = some u := World.news_of_block (World.alloc_heap_new w _)
theorem row_kept {W V : World} {B e s n : Nat} {v : Value} {xs : List Value} (h : W.ownsRow B e s v n xs) (hb : Below W.heap.size W V) : V.ownsRow B e s v n xs := h.kept (grown_below hb) (by cases v.ownBlock <;> simp)
theorem row_sl {W : World} {B e s n : Nat} {v : Value} {xs : List Value} (h : W.ownsRow B e s v n xs) : ∃ a c, v = .slice a n c := by
  rcases h.2 with ⟨rfl, rfl⟩ | ⟨g, cap, cur, rfl, r⟩
  · exact ⟨_, _, rfl⟩
  · exact ⟨_, _, rfl⟩
set_option maxHeartbeats 8000000 in
set_option maxRecDepth 100000 in
theorem edges_any {Z : Nat → Prop} {B g c : Nat} {N : List Int} {E : List Ed} (hc : c ≤ 100000) (hE : E.length ≤ 1000) (hNl : N.length ≤ 1000) (hfit : ∀ a ∈ N, fit64 a) (hup : ∀ i j k, (edUp N E i j k).length ≤ 100000) (w : World) (h : GrAt Z B g c N E w) :
    Calls Try.prog 37 #[.pointer (some ⟨g, 0, none⟩)] w fun e w' => ∃ v, e = .returned v ∧ Hid (w'.ownsRow w.heap.size 57 3 v (edAll N E).length (edRow (edAll N E)) ∧ Below w.heap.size w w') := by
  obtain ⟨i0, hi, hz0, hz1, hz2⟩ := info_parts elem57
  have HN := Lib.hid (nodes_any hc w h)
  have HG := Lib.hid h
  have Hfit := Lib.hid hfit
  have Hup := Lib.hid hup
  have Hc : Hid (c ≤ 100000) := hc
  have HE : Hid (E.length ≤ 1000) := hE
  have hNI : (N.length : Int) ≤ 1000 := by omega
  have Hmem : Hid (∀ i, i < N.length → N.getD i 0 ∈ N) := fun i hi => by
    rw [List.getD_eq_getElem?_getD, List.getElem?_eq_getElem hi]
    exact List.getElem_mem hi
  have HmemO : Hid (∀ a j, j < (outsE N E a).length → (outsE N E a).getD j 0 ∈ N) := fun a j hj => by
    rw [List.getD_eq_getElem?_getD, List.getElem?_eq_getElem hj]
    exact (List.mem_filter.1 (List.getElem_mem hj)).1
  have HOl : Hid (∀ a, (outsE N E a).length ≤ N.length) := fun a => List.length_filter_le _ _
  obtain ⟨n, hn⟩ : ∃ n, N.length = n := ⟨_, rfl⟩
  have Hn := Lib.hid hn
  clear h hc hE hNl hfit hup
  rw [hn] at hNI
  clear hn
  go_enter Try.func37, Try.ntmps37
  go_wp2_with (first
    | (go_at_call 32; (with_reducible refine HN.out.mono ?_); rintro e w1 ⟨v1, rfl, K1⟩
       obtain ⟨a1, c1, rfl, r1⟩ := row_form K1.out.1
       rw [Hn.out]))
  have HR1 := Lib.hid K1.out.1
  have HB1 := Lib.hid K1.out.2
  have HG1 := Lib.hid (HG.out.below K1.out.2)
  obtain ⟨ob, DO, F, DI, f, hgi, -⟩ := HG1.out
  have HGi := Lib.hid hgi
  clear hgi
  have H0 : Hid (w1.ownsRow w1.heap.size 57 3 (.slice none 0 0) (edUp N E 0 0 0).length (edRow (edUp N E 0 0 0)) ∧ Below w1.heap.size w1 w1) := ⟨by rw [edUp_zero]; exact World.ownsRow_nil _ _ _ _, Below.refl _ _⟩
  clear K1 r1
  go_loopw [3, 13] (fun lv i wr => ∃ q : Nat, q ≤ n ∧ i = .int .i64 ((q : Nat) : Int) ∧ Hid (wr.ownsRow w1.heap.size 57 3 lv (edUp N E q 0 0).length (edRow (edUp N E q 0 0)) ∧ Below w1.heap.size w1 wr)) (fun _ i _ => n - (intOf i).toNat)
  case atStart => exact ⟨0, Nat.zero_le _, rfl, H0.out⟩
  case round =>
    obtain ⟨q, hq, rfl, HL⟩ := hrel
    obtain ⟨wa, hwa⟩ : ∃ wa, wa = wr := ⟨_, rfl⟩
    subst hwa
    by_cases hlt : q < n
    · have HRw := Lib.hid (row_kept HR1.out HL.out.2)
      obtain ⟨b1, rfl, x1⟩ := row_at HRw.out (k := q) (by rw [Hn.out]; exact hlt)
      have hAN := Hmem.out q (by rw [Hn.out]; exact hlt)
      obtain ⟨A, hA⟩ : ∃ A, N.getD q 0 = A := ⟨_, rfl⟩
      rw [hA] at x1 hAN
      have HA := Lib.hid hA
      have HAN := Lib.hid hAN
      have HfA := Lib.hid (Hfit.out A hAN)
      have HOut := Lib.hid (out_any A HfA.out Hc.out wa (HG1.out.below HL.out.2))
      have hltI : (q : Int) < (n : Int) := by omega
      obtain ⟨m, hm⟩ : ∃ m, (outsE N E A).length = m := ⟨_, rfl⟩
      have Hm := Lib.hid hm
      have hmI : (m : Int) ≤ 1000 := by have h1 := HOl.out A; have h2 := Hn.out; omega
      clear hA hAN hm
      go_wp2_with (first
        | (go_at_call 20; (with_reducible refine HOut.out.mono ?_); rintro e w2 ⟨v2, rfl, K2⟩
           obtain ⟨a2, c2, rfl⟩ := row_sl K2.out.1
           rw [Hm.out]))
      have HI0 : Hid (w2.ownsRow w1.heap.size 57 3 u3 (edUp N E q 0 0).length (edRow (edUp N E q 0 0)) ∧ w2.ownsRow wa.heap.size 3 1 (.slice a2 m c2) (outsE N E A).length ((outsE N E A).map (Value.int .i64)) ∧ Below w1.heap.size w1 w2) := ⟨row_kept HL.out.1 K2.out.2, by have := K2.out.1; rw [Hm.out] at this ⊢; exact this, stepB HL.out.2 K2.out.2⟩
      clear K2 x1
      go_loopw [3, 21] (fun lv i wr2 => ∃ j : Nat, j ≤ m ∧ i = .int .i64 ((j : Nat) : Int) ∧ Hid (wr2.ownsRow w1.heap.size 57 3 lv (edUp N E q j 0).length (edRow (edUp N E q j 0)) ∧ wr2.ownsRow wa.heap.size 3 1 (.slice a2 m c2) (outsE N E A).length ((outsE N E A).map (Value.int .i64)) ∧ Below w1.heap.size w1 wr2)) (fun _ i _ => m - (intOf i).toNat)
      case atStart => exact ⟨0, Nat.zero_le _, rfl, HI0.out⟩
      case round =>
        obtain ⟨j, hj, rfl, HJ⟩ := hrel
        obtain ⟨wb, hwb⟩ : ∃ wb, wb = wr := ⟨_, rfl⟩
        subst hwb
        by_cases hlt2 : j < m
        · obtain ⟨b2, rfl, x2⟩ := row_at HJ.out.2.1 (k := j) (by rw [Hm.out]; exact hlt2)
          have hBN := HmemO.out A j (by rw [Hm.out]; exact hlt2)
          obtain ⟨D, hD⟩ : ∃ D, (outsE N E A).getD j 0 = D := ⟨_, rfl⟩
          rw [hD] at x2 hBN
          have HDe := Lib.hid hD
          have HfD := Lib.hid (Hfit.out D hBN)
          have hG := HGi.out.kept (grown_below HJ.out.2.2) (fun k e => by cases e)
          have c0 := hG.box.cell
          have l1 := look_as hG.dom Try.underlying59 (zero65 wb) HfA.out ((hG.atO A HfA.out).trans (by rw [if_pos HAN.out]))
          have l2 := look_as (hG.domI A HAN.out) Try.underlying65 (zero23 wb) HfD.out (hG.atI A HAN.out D HfD.out)
          have ho := (hG.row A HAN.out D HfD.out).1
          obtain ⟨kn, hkn⟩ : ∃ kn, (kindsE E A D).length = kn := ⟨_, rfl⟩
          rw [hkn] at ho
          have Hkn := Lib.hid hkn
          obtain ⟨a3, c3, hv3⟩ := row_sl ho
          rw [hv3] at l2
          have Hv3 := Lib.hid hv3
          have hltI2 : (j : Int) < (m : Int) := by omega
          have hkI : (kn : Int) ≤ 1000 := by have h1 := kinds_len E A D; have h2 := HE.out; omega
          have HK0 : Hid (wb.ownsRow w1.heap.size 57 3 u3 (edUp N E q j 0).length (edRow (edUp N E q j 0)) ∧ wb.ownsRow wa.heap.size 3 1 (.slice (some ⟨b2, 0, none⟩) m c2) (outsE N E A).length ((outsE N E A).map (Value.int .i64)) ∧ Below w1.heap.size w1 wb) := HJ.out
          clear hG ho hkn hv3 hD hBN
          go_wp2_with fail
          clear c0 l1 l2 x2
          go_loopw [3, 34] (fun lv i wr3 => ∃ k : Nat, k ≤ kn ∧ i = .int .i64 ((k : Nat) : Int) ∧ Hid (wr3.ownsRow w1.heap.size 57 3 lv (edUp N E q j k).length (edRow (edUp N E q j k)) ∧ wr3.ownsRow wa.heap.size 3 1 (.slice (some ⟨b2, 0, none⟩) m c2) (outsE N E A).length ((outsE N E A).map (Value.int .i64)) ∧ Below w1.heap.size w1 wr3)) (fun _ i _ => kn - (intOf i).toNat)
          case atStart => exact ⟨0, Nat.zero_le _, rfl, HK0.out⟩
          case round =>
            obtain ⟨k, hk, rfl, HK⟩ := hrel
            obtain ⟨wc, hwc⟩ : ∃ wc, wc = wr := ⟨_, rfl⟩
            subst hwc
            by_cases hlt3 : k < kn
            · have hG := HGi.out.kept (grown_below HK.out.2.2) (fun k e => by cases e)
              have ho := (hG.row A HAN.out D HfD.out).1
              rw [Hv3.out] at ho
              obtain ⟨b3, rfl, x3⟩ := row_at ho (k := k) (by rw [Hkn.out]; exact hlt3)
              have hltI3 : (k : Int) < (kn : Int) := by omega
              have Hk2 := Lib.hid (edUp_kind (N := N) (E := E) (i := q) (j := j) (k := k) (by rw [HA.out, HDe.out, Hkn.out]; exact hlt3))
              rw [HA.out, HDe.out] at Hk2
              generalize (kindsE E A D).getD k 0 = y at *
              have Hlen := Lib.hid (Hup.out q j k)
              clear hG ho
              go_wp2_with (first
                | (at_builtin; refine wpList_append_own _ rfl _ _ 54 rfl w1.heap.size 57 i0 (.agg #[.int .i64 0, .int .i64 0, .int .i64 0]) 3 24 Try.underlying54 hi hz0 hz1 hz2 rfl (by decide) _ _ _ rfl (HK.out.1.alloc _) ⟨wc.heap.size, 0, none⟩ 1 1 [iv A, iv D, iv y] rfl rfl (ed_news _ _ _ _ _) (by intro u hu; simp only [List.mem_cons, List.not_mem_nil, or_false] at hu; rcases hu with rfl | rfl | rfl <;> rfl) (by unfold maxLen; have := Hlen.out; omega) (by have := Hlen.out; omega) (by show _ ≤ _; simp; exact Nat.le_trans HK.out.2.2.size (Nat.le_succ _)) ?_))
              intro v' w9 hown hgrow hnil
              have HO9 := Lib.hid (ints_other (HK.out.2.1.alloc (.cells #[iv A, iv D, iv y] 57)) (HK.out.1.alloc (.cells #[iv A, iv D, iv y] 57)) hgrow)
              have HB9 : Hid (Below w1.heap.size w1 w9) := (HK.out.2.2.alloc HK.out.2.2.size _).grown hgrow (by simp; exact Nat.le_trans HK.out.2.2.size (Nat.le_succ _)) (fun r e => (World.ownsRow.lt (HK.out.1.alloc (.cells #[iv A, iv D, iv y] 57)) r e).1)
              have HW9 : Hid (w9.ownsRow w1.heap.size 57 3 v' (edUp N E q j (k + 1)).length (edRow (edUp N E q j (k + 1)))) := by
                show World.ownsRow _ _ _ _ _ _ _
                rw [Hk2.out, List.length_append, edRow_snoc]
                exact hown
              clear hown hgrow hnil
              go_wp2_with fail
              go_roundw
              case rel => exact ⟨k + 1, by omega, by go_num, HW9.out, HO9.out, HB9.out⟩
              case measure => simp [intOf]; omega
            · have hkk : k = kn := by omega
              have Hk2 := Lib.hid (edUp_out (N := N) (E := E) (i := q) (j := j) (by rw [HA.out, Hm.out]; exact hlt2))
              rw [HA.out, HDe.out, Hkn.out] at Hk2
              subst hkk
              have HN2 : Hid (wc.ownsRow w1.heap.size 57 3 u3 (edUp N E q (j + 1) 0).length (edRow (edUp N E q (j + 1) 0))) := by
                show World.ownsRow _ _ _ _ _ _ _
                rw [Hk2.out]
                exact HK.out.1
              go_wp2_with fail
              go_roundw
              case rel => exact ⟨j + 1, by omega, by go_num, HN2.out, HK.out.2⟩
              case measure => simp [intOf]; omega
        · have hjm : j = m := by omega
          have Hj2 := Lib.hid (edUp_node (N := N) (E := E) (i := q) (by rw [Hn.out]; exact hlt))
          rw [HA.out, Hm.out] at Hj2
          subst hjm
          have HN2 : Hid (wb.ownsRow w1.heap.size 57 3 u3 (edUp N E (q + 1) 0 0).length (edRow (edUp N E (q + 1) 0 0))) := by
            show World.ownsRow _ _ _ _ _ _ _
            rw [Hj2.out]
            exact HJ.out.1
          go_wp2_with fail
          go_roundw
          case rel => exact ⟨q + 1, by omega, by go_num, HN2.out, HJ.out.2.2⟩
          case measure => simp [intOf]; omega
    · have hqn : q = N.length := by have := Hn.out; omega
      subst hqn
      go_wp2_with fail
      go_ret
      have h1 := HL.out.1
      rw [edUp_all] at h1
      exact ⟨_, rfl, ⟨h1.1, h1.2.imp id fun ⟨r, cap, cur, e, hr, x⟩ => ⟨r, cap, cur, e, Nat.le_trans HB1.out.size hr, x⟩⟩, stepB HB1.out HL.out.2⟩
end Go.Proofs.Ythgkloapnihpaaa

/- Graphs, plainly: how many edges so far. -/
namespace Go.Proofs.Ythgkloapnihpaaa

theorem flat_take_len {f : Int → List Ed} (l : List Int) (i : Nat) : ((l.take i).flatMap f).length ≤ (l.flatMap f).length := by
  conv => rhs; rw [← List.take_append_drop i l, List.flatMap_append, List.length_append]
  omega
theorem edA_len {N : List Int} {E : List Ed} (hN : RiseI N) (hE : RiseE E) (hin : EndsIn N E) (a : Int) : (edA N E a).length ≤ E.length := by
  by_cases ha : a ∈ N
  · obtain ⟨l1, l2, rfl⟩ := List.append_of_mem ha
    have h := congrArg List.length (edAll_eq hN hE hin)
    unfold edAll at h
    rw [List.flatMap_append, List.flatMap_cons, List.length_append, List.length_append] at h
    omega
  · unfold edA
    rw [outsE_none hin ha]
    simp
theorem edUp_bound {N : List Int} {E : List Ed} (hN : RiseI N) (hE : RiseE E) (hin : EndsIn N E) (i j k : Nat) : (edUp N E i j k).length ≤ 3 * E.length := by
  unfold edUp
  rw [List.length_append, List.length_append, List.length_map]
  have h1 := flat_take_len (f := edA N E) N i
  have h2 := congrArg List.length (edAll_eq hN hE hin)
  replace h2 : (N.flatMap (edA N E)).length = E.length := h2
  have h3 := flat_take_len (f := edAB E (N.getD i 0)) (outsE N E (N.getD i 0)) j
  have h4 := edA_len hN hE hin (N.getD i 0)
  replace h4 : ((outsE N E (N.getD i 0)).flatMap (edAB E (N.getD i 0))).length ≤ E.length := h4
  have h5 := kinds_len E (N.getD i 0) ((outsE N E (N.getD i 0)).getD j 0)
  have h7 : ((kindsE E (N.getD i 0) ((outsE N E (N.getD i 0)).getD j 0)).take k).length ≤ (kindsE E (N.getD i 0) ((outsE N E (N.getD i 0)).getD j 0)).length := by rw [List.length_take]; omega
  omega
/-- Edges. -/
theorem edges_at {Z : Nat → Prop} {B g c : Nat} {N : List Int} {E : List Ed} (hc : c ≤ 100000) (hE : E.length ≤ 1000) (hNl : N.length ≤ 1000) (w : World) (h : GrAt Z B g c N E w) :
    Calls Try.prog 37 #[.pointer (some ⟨g, 0, none⟩)] w fun e w' => ∃ v, e = .returned v ∧ Go.RowKit.Hid (w'.ownsRow w.heap.size 57 3 v E.length (edRow E) ∧ Go.RowKit.Below w.heap.size w w') := by
  obtain ⟨ob, DO, F, DI, f, hg, hz⟩ := h
  have he := edAll_eq hg.nodes hg.edges hg.ends
  have := edges_any hc hE hNl (fun a ha => hg.dom.fit a ha) (fun i j k => by have := edUp_bound hg.nodes hg.edges hg.ends i j k; omega) w ⟨ob, DO, F, DI, f, hg, hz⟩
  rw [he] at this
  exact this
end Go.Proofs.Ythgkloapnihpaaa

/- The document's lists of numbers: a number laid in, the same list; by contracts. -/
namespace Go.Proofs.Ythgkloapnihpaaa
open Go.RowKit Go.Maps Go.WideMaps Go.WideElems Go.ChangeShapes Go.WideShapes
theorem news_new (w : World) (cs : Array Value) (t : TypeId) : ∀ j u, cs.toList[j]? = some u → (w.alloc (.cells cs t)).cell? ((⟨w.heap.size, 0, none⟩ : Addr).add j) = some u := World.news_of_block (World.alloc_heap_new w _)

/-- A slice of numbers that can be read. -/
def SlI (W : World) (a : Option Addr) (l : List Int) : Prop := l = [] ∨ ∃ b off, a = some ⟨b, off, none⟩ ∧ (l ≠ [] → b < W.heap.size) ∧ ∀ (k : Nat) (x : Int), l[k]? = some x → W.cell? ⟨b, off + k, none⟩ = some (.int .i64 x)

theorem SlI.below {W W' : World} {a : Option Addr} {l : List Int} (h : SlI W a l) (hb : W.grownBy W' none) : SlI W' a l := by
  rcases h with h | ⟨b, off, e, hl, h⟩
  · exact .inl h
  · refine .inr ⟨b, off, e, fun hx => Nat.lt_of_lt_of_le (hl hx) hb.size, fun k x hk => ?_⟩
    exact hb.cell (h k x hk) (by simp)

theorem SlI.at {W : World} {a : Option Addr} {l : List Int} (h : SlI W a l) {k : Nat} (hk : k < l.length) : ∃ b off, a = some ⟨b, off, none⟩ ∧ W.cell? ⟨b, off + k, none⟩ = some (.int .i64 (l.getD k 0)) := by
  rcases h with rfl | ⟨b, off, e, _, h⟩
  · simp at hk
  · exact ⟨b, off, e, h k _ (by simp [hk])⟩

/-- Numbers, as cells. -/
def intsC (l : List Int) : List Value := l.map (Value.int .i64)

theorem intsC_len (l : List Int) : (intsC l).length = l.length := by simp [intsC]

theorem intsC_snoc (l : List Int) (x : Int) : intsC (l ++ [x]) = intsC l ++ [.int .i64 x] := by simp [intsC]

theorem intsC_get (l : List Int) (k : Nat) (h : k < l.length) : (intsC l)[k]? = some (.int .i64 l[k]) := by simp [intsC, h]

theorem intsC_one (l : List Int) : ∀ u ∈ intsC l, u.oneCell' = true := by
  intro u hu
  obtain ⟨p, _, rfl⟩ := List.mem_map.1 hu
  rfl

/-- A slice of numbers out of a row. -/
theorem row_slI {W : World} {B : Nat} {e : TypeId} {n : Nat} {v : Value} {l : List Int} (h : W.ownsRow B e 1 v n (intsC l)) : ∃ a c, v = .slice a n c ∧ l.length = n ∧ SlI W a l := by
  have hln : l.length = n := by
    have := h.1
    rw [intsC_len] at this
    omega
  rcases h.2 with ⟨rfl, h0⟩ | ⟨g, cap, cur, rfl, hb, hg, hn, hm, hs, ht⟩
  · subst h0
    exact ⟨none, 0, rfl, hln, .inl (List.eq_nil_of_length_eq_zero hln)⟩
  · refine ⟨_, cap, rfl, hln, .inr ⟨g, 0, rfl, fun _ => (Array.getElem?_eq_some_iff.1 hg).1, fun k x hk => ?_⟩⟩
    obtain ⟨hk1, rfl⟩ := List.getElem?_eq_some_iff.1 hk
    have h1 := h.cellAt k (by omega)
    rw [intsC_get l k hk1] at h1
    rw [Nat.zero_add]
    exact h1

set_option maxHeartbeats 4000000 in
set_option maxRecDepth 100000 in
theorem puti_any (a : Option Addr) (c : Nat) (l : List Int) (x : Int) (hn : l.length ≤ 100000) (w : World) (h : SlI w a l) :
    Calls Try.prog 42 #[.slice a l.length c, .int .i64 x] w fun e w' => ∃ a' c', e = .returned (.slice a' (putI l x).length c') ∧ Hid (SlI w' a' (putI l x) ∧ Below w.heap.size w w') := by
  obtain ⟨i0, hi, hz0, hz1, hz2⟩ := info_parts elem3
  obtain ⟨n, hnn⟩ : ∃ n, l.length = n := ⟨_, rfl⟩
  obtain ⟨m, hm⟩ : ∃ m, lessN x l = m := ⟨_, rfl⟩
  have Hmn : Hid (m ≤ n) := by show _ ≤ _; rw [← hm, ← hnn]; exact lessN_le _ _
  obtain ⟨R, hR⟩ : ∃ R, putI l x = R := ⟨_, rfl⟩
  have He : Hid (R = if m < n ∧ l.getD m 0 = x then l else l.take m ++ x :: l.drop m) := by
    show _ = _
    rw [← hR, ← hm, ← hnn]; rfl
  rw [hnn] at hn
  rw [hR, hnn]
  have H := Lib.hid h
  have Hn := Lib.hid hnn
  have Hm := Lib.hid hm
  clear h hnn hR hm
  go_enter Try.func42, Try.ntmps42
  go_wp2
  go_loop [5] (fun i => ∃ k : Nat, k ≤ m ∧ i = .int .i64 k) (fun i => n - (intOf i).toNat)
  case atStart => exact ⟨0, Nat.zero_le _, rfl⟩
  case round =>
    obtain ⟨k, hk, rfl⟩ := hrel
    have hmn := Hmn.out
    by_cases hlt : k < m
    · obtain ⟨hkl, hlp⟩ := lessN_lt (x := x) (l := l) (k := k) (by rw [Hm.out]; exact hlt)
      obtain ⟨b, off, rfl, hc0⟩ := H.out.at hkl
      rw [Hn.out] at hkl
      obtain ⟨q, hq⟩ : ∃ q, l.getD k 0 = q := ⟨_, rfl⟩
      rw [hq] at hc0 hlp
      have e1 : decide (q < x) = true := by simpa using hlp
      clear hq hlp
      go_wp2
      go_round
      case rel => exact ⟨k + 1, by omega, by go_num⟩
      case measure => simp [intOf]; omega
    · have hkm : k = m := by omega
      subst hkm
      by_cases hkl : k < n
      · have hlp := lessN_stop (x := x) (l := l) (by rw [Hm.out, Hn.out]; exact hkl)
        rw [Hm.out] at hlp
        obtain ⟨b, off, rfl, hc0⟩ := H.out.at (k := k) (by rw [Hn.out]; exact hkl)
        obtain ⟨q, hq⟩ : ∃ q, l.getD k 0 = q := ⟨_, rfl⟩
        have he := He.out
        rw [hq] at hc0 hlp he
        have e1 : decide (q < x) = false := by simp; omega
        by_cases hqx : q = x
        · rw [if_pos ⟨hkl, hqx⟩] at he
          have HE := Lib.hid he
          have e2 : (q == x) = true := by simpa using hqx
          clear hq hlp he hqx
          go_wp2
          go_ret
          rw [HE.out, Hn.out]
          exact ⟨some ⟨b, off, none⟩, ⟨c, rfl⟩, H.out, Below.refl _ _⟩
        · rw [if_neg (fun e => hqx e.2)] at he
          have HE := Lib.hid he
          have e2 : (q == x) = false := by simpa using hqx
          clear hq hlp he hqx
          go_wp2
          clear hc0 e1 e2
          go_loopw [6, 7] (fun v i wr => ∃ j : Nat, i = .int .i64 j ∧ j ≤ k ∧ Hid (wr.ownsRow w.heap.size 3 1 v j (intsC (l.take j)) ∧ Below w.heap.size w wr)) (fun _ i _ => k - (intOf i).toNat)
          case atStart => exact ⟨0, rfl, Nat.zero_le _, World.ownsRow_nil _ _ _ _, Below.refl _ _⟩
          case round =>
            obtain ⟨j, rfl, hj, HJ⟩ := hrel
            by_cases hjk : j < k
            · have hjl : j < l.length := by rw [Hn.out]; omega
              obtain ⟨b', off', e, hc0⟩ := (H.out.below (grown_below HJ.out.2)).at hjl
              try cases e
              have htk : l.take (j + 1) = l.take j ++ [l.getD j 0] := by
                rw [List.take_add_one, List.getElem?_eq_getElem hjl, List.getD_eq_getElem?_getD, List.getElem?_eq_getElem hjl]
                rfl
              obtain ⟨q, hq⟩ : ∃ q, l.getD j 0 = q := ⟨_, rfl⟩
              rw [hq] at hc0 htk
              have Htk := Lib.hid htk
              have hjn : j < n := by omega
              have HA : Hid (w.heap.size ≤ (wr.alloc (.cells #[.int .i64 q] 3)).heap.size) := by
                have h1 := HJ.out.2.size
                show _ ≤ (World.alloc _ _).heap.size
                simp
                omega
              clear htk hq hjl
              go_wp2_with (first
                | (at_builtin; refine wpList_append_own _ rfl _ _ 23 rfl w.heap.size 3 i0 (.int .i64 0) 1 8 Try.underlying23 hi hz0 hz1 hz2 rfl (by decide) u6 j (intsC (l.take j)) rfl (HJ.out.1.alloc _) ⟨wr.heap.size, 0, none⟩ 1 1 [.int .i64 q] rfl rfl (news_new wr #[.int .i64 q] 3) (intsC_one [q]) (by unfold maxLen; omega) (by omega) HA.out ?_)
                | go_in)
              intro v5 w5 hown5 hgrow5 hnil5
              have HJ5 : Hid (w5.ownsRow w.heap.size 3 1 v5 (j + 1) (intsC (l.take (j + 1))) ∧ Below w.heap.size w w5) := by
                refine ⟨?_, (HJ.out.2.alloc HJ.out.2.size _).grown hgrow5 HA.out (fun k hk => (HJ.out.1.lt k hk).1)⟩
                rw [Htk.out, intsC_snoc]
                exact hown5
              clear hown5 hgrow5 hnil5
              go_wp2
              go_roundw
              case rel => exact ⟨j + 1, by go_num, by omega, HJ5.out⟩
              case measure => simp [intOf]; omega
            · have hjk' : j = k := by omega
              subst hjk'
              have HA : Hid (w.heap.size ≤ (wr.alloc (.cells #[.int .i64 x] 3)).heap.size) := by
                have h1 := HJ.out.2.size
                show _ ≤ (World.alloc _ _).heap.size
                simp
                omega
              clear hj hjk
              go_wp2_with (first
                | (at_builtin; refine wpList_append_own _ rfl _ _ 23 rfl w.heap.size 3 i0 (.int .i64 0) 1 8 Try.underlying23 hi hz0 hz1 hz2 rfl (by decide) u6 j (intsC (l.take j)) rfl (HJ.out.1.alloc _) ⟨wr.heap.size, 0, none⟩ 1 1 [.int .i64 x] rfl rfl (news_new wr #[.int .i64 x] 3) (intsC_one [x]) (by unfold maxLen; omega) (by omega) HA.out ?_)
                | go_in)
              intro v5 w5 hown5 hgrow5 hnil5
              have HJ5 : Hid (w5.ownsRow w.heap.size 3 1 v5 (j + 1) (intsC (l.take j ++ x :: (l.drop j).take 0)) ∧ Below w.heap.size w w5) := by
                refine ⟨?_, (HJ.out.2.alloc HJ.out.2.size _).grown hgrow5 HA.out (fun k hk => (HJ.out.1.lt k hk).1)⟩
                rw [List.take_zero, intsC_snoc]
                exact hown5
              clear hown5 hgrow5 hnil5 HA
              go_wp2
              try go_frame
              go_loopw [6, 8] (fun v i wr => ∃ d : Nat, i = .int .i64 ((j + d : Nat) : Int) ∧ j + d ≤ n ∧ Hid (wr.ownsRow w.heap.size 3 1 v (j + d + 1) (intsC (l.take j ++ x :: (l.drop j).take d)) ∧ Below w.heap.size w wr)) (fun _ i _ => n - (intOf i).toNat)
              case atStart => exact ⟨0, rfl, by omega, HJ5.out⟩
              case round =>
                obtain ⟨d, rfl, hd, HD⟩ := hrel
                obtain ⟨i, hi'⟩ : ∃ i, j + d = i := ⟨_, rfl⟩
                rw [hi'] at HD hd ⊢
                have Hi := Lib.hid hi'
                clear hi'
                by_cases hin : i < n
                · have hjl : i < l.length := by rw [Hn.out]; omega
                  obtain ⟨b', off', e, hc0⟩ := (H.out.below (grown_below HD.out.2)).at hjl
                  try cases e
                  have htk : (l.drop j).take (d + 1) = (l.drop j).take d ++ [l.getD i 0] := by
                    rw [List.take_add_one, List.getElem?_drop, Hi.out, List.getElem?_eq_getElem hjl, List.getD_eq_getElem?_getD, List.getElem?_eq_getElem hjl]
                    rfl
                  obtain ⟨q, hq⟩ : ∃ q, l.getD i 0 = q := ⟨_, rfl⟩
                  rw [hq] at hc0 htk
                  have Htk := Lib.hid htk
                  have HA : Hid (w.heap.size ≤ (wr.alloc (.cells #[.int .i64 q] 3)).heap.size) := by
                    have h1 := HD.out.2.size
                    show _ ≤ (World.alloc _ _).heap.size
                    simp
                    omega
                  clear htk hq hjl
                  go_wp2_with (first
                    | (at_builtin; refine wpList_append_own _ rfl _ _ 23 rfl w.heap.size 3 i0 (.int .i64 0) 1 8 Try.underlying23 hi hz0 hz1 hz2 rfl (by decide) u6 (i + 1) (intsC (l.take j ++ x :: (l.drop j).take d)) rfl (HD.out.1.alloc _) ⟨wr.heap.size, 0, none⟩ 1 1 [.int .i64 q] rfl rfl (news_new wr #[.int .i64 q] 3) (intsC_one [q]) (by unfold maxLen; omega) (by omega) HA.out ?_)
                    | go_in)
                  intro v5 w5 hown5 hgrow5 hnil5
                  have HJ6 : Hid (w5.ownsRow w.heap.size 3 1 v5 (j + (d + 1) + 1) (intsC (l.take j ++ x :: (l.drop j).take (d + 1))) ∧ Below w.heap.size w w5) := by
                    refine ⟨?_, (HD.out.2.alloc HD.out.2.size _).grown hgrow5 HA.out (fun k hk => (HD.out.1.lt k hk).1)⟩
                    have e3 : l.take j ++ x :: ((l.drop j).take d ++ [q]) = (l.take j ++ x :: (l.drop j).take d) ++ [q] := by simp
                    rw [Htk.out, e3, intsC_snoc, ← Nat.add_assoc, Hi.out]
                    exact hown5
                  clear hown5 hgrow5 hnil5
                  go_wp2
                  go_roundw
                  case rel => exact ⟨d + 1, by rw [← Nat.add_assoc, Hi.out]; go_num, by have := Hi.out; omega, HJ6.out⟩
                  case measure => simp [intOf]; omega
                · have hin' : i = n := by omega
                  have HR : Hid (wr.ownsRow w.heap.size 3 1 u6 (n + 1) (intsC R)) := by
                    have h1 := HD.out.1
                    have h2 : (l.drop j).take d = l.drop j := List.take_of_length_le (by have := Hi.out; have := Hn.out; simp; omega)
                    rw [h2, hin'] at h1
                    show World.ownsRow _ _ _ _ _ _ _
                    rw [HE.out]
                    exact h1
                  obtain ⟨a', c', rfl, hRl, hsl⟩ := row_slI HR.out
                  have Hsl := Lib.hid hsl
                  have HRl := Lib.hid hRl
                  clear hsl hRl hin hd
                  go_wp2
                  go_ret
                  exact ⟨a', c', by rw [HRl.out]; rfl, Hsl.out, HD.out.2⟩
      · have he := He.out
        rw [if_neg (fun e => hkl e.1)] at he
        have HE := Lib.hid he
        clear he
        go_wp2
        go_loopw [6, 7] (fun v i wr => ∃ j : Nat, i = .int .i64 j ∧ j ≤ k ∧ Hid (wr.ownsRow w.heap.size 3 1 v j (intsC (l.take j)) ∧ Below w.heap.size w wr)) (fun _ i _ => k - (intOf i).toNat)
        case atStart => exact ⟨0, rfl, Nat.zero_le _, World.ownsRow_nil _ _ _ _, Below.refl _ _⟩
        case round =>
          obtain ⟨j, rfl, hj, HJ⟩ := hrel
          by_cases hjk : j < k
          · have hjl : j < l.length := by rw [Hn.out]; omega
            obtain ⟨b', off', e, hc0⟩ := (H.out.below (grown_below HJ.out.2)).at hjl
            try cases e
            have htk : l.take (j + 1) = l.take j ++ [l.getD j 0] := by
              rw [List.take_add_one, List.getElem?_eq_getElem hjl, List.getD_eq_getElem?_getD, List.getElem?_eq_getElem hjl]
              rfl
            obtain ⟨q, hq⟩ : ∃ q, l.getD j 0 = q := ⟨_, rfl⟩
            rw [hq] at hc0 htk
            have Htk := Lib.hid htk
            have hjn : j < n := by omega
            have HA : Hid (w.heap.size ≤ (wr.alloc (.cells #[.int .i64 q] 3)).heap.size) := by
              have h1 := HJ.out.2.size
              show _ ≤ (World.alloc _ _).heap.size
              simp
              omega
            clear htk hq hjl
            go_wp2_with (first
              | (at_builtin; refine wpList_append_own _ rfl _ _ 23 rfl w.heap.size 3 i0 (.int .i64 0) 1 8 Try.underlying23 hi hz0 hz1 hz2 rfl (by decide) u6 j (intsC (l.take j)) rfl (HJ.out.1.alloc _) ⟨wr.heap.size, 0, none⟩ 1 1 [.int .i64 q] rfl rfl (news_new wr #[.int .i64 q] 3) (intsC_one [q]) (by unfold maxLen; omega) (by omega) HA.out ?_)
              | go_in)
            intro v5 w5 hown5 hgrow5 hnil5
            have HJ5 : Hid (w5.ownsRow w.heap.size 3 1 v5 (j + 1) (intsC (l.take (j + 1))) ∧ Below w.heap.size w w5) := by
              refine ⟨?_, (HJ.out.2.alloc HJ.out.2.size _).grown hgrow5 HA.out (fun k hk => (HJ.out.1.lt k hk).1)⟩
              rw [Htk.out, intsC_snoc]
              exact hown5
            clear hown5 hgrow5 hnil5
            go_wp2
            go_roundw
            case rel => exact ⟨j + 1, by go_num, by omega, HJ5.out⟩
            case measure => simp [intOf]; omega
          · have hjk' : j = k := by omega
            subst hjk'
            have HA : Hid (w.heap.size ≤ (wr.alloc (.cells #[.int .i64 x] 3)).heap.size) := by
              have h1 := HJ.out.2.size
              show _ ≤ (World.alloc _ _).heap.size
              simp
              omega
            clear hj hjk
            go_wp2_with (first
              | (at_builtin; refine wpList_append_own _ rfl _ _ 23 rfl w.heap.size 3 i0 (.int .i64 0) 1 8 Try.underlying23 hi hz0 hz1 hz2 rfl (by decide) u6 j (intsC (l.take j)) rfl (HJ.out.1.alloc _) ⟨wr.heap.size, 0, none⟩ 1 1 [.int .i64 x] rfl rfl (news_new wr #[.int .i64 x] 3) (intsC_one [x]) (by unfold maxLen; omega) (by omega) HA.out ?_)
              | go_in)
            intro v5 w5 hown5 hgrow5 hnil5
            have HJ5 : Hid (w5.ownsRow w.heap.size 3 1 v5 (j + 1) (intsC (l.take j ++ x :: (l.drop j).take 0)) ∧ Below w.heap.size w w5) := by
              refine ⟨?_, (HJ.out.2.alloc HJ.out.2.size _).grown hgrow5 HA.out (fun k hk => (HJ.out.1.lt k hk).1)⟩
              rw [List.take_zero, intsC_snoc]
              exact hown5
            clear hown5 hgrow5 hnil5 HA
            go_wp2
            try go_frame
            go_loopw [6, 8] (fun v i wr => ∃ d : Nat, i = .int .i64 ((j + d : Nat) : Int) ∧ j + d ≤ n ∧ Hid (wr.ownsRow w.heap.size 3 1 v (j + d + 1) (intsC (l.take j ++ x :: (l.drop j).take d)) ∧ Below w.heap.size w wr)) (fun _ i _ => n - (intOf i).toNat)
            case atStart => exact ⟨0, rfl, by omega, HJ5.out⟩
            case round =>
              obtain ⟨d, rfl, hd, HD⟩ := hrel
              obtain ⟨i, hi'⟩ : ∃ i, j + d = i := ⟨_, rfl⟩
              rw [hi'] at HD hd ⊢
              have Hi := Lib.hid hi'
              clear hi'
              by_cases hin : i < n
              · have hjl : i < l.length := by rw [Hn.out]; omega
                obtain ⟨b', off', e, hc0⟩ := (H.out.below (grown_below HD.out.2)).at hjl
                try cases e
                have htk : (l.drop j).take (d + 1) = (l.drop j).take d ++ [l.getD i 0] := by
                  rw [List.take_add_one, List.getElem?_drop, Hi.out, List.getElem?_eq_getElem hjl, List.getD_eq_getElem?_getD, List.getElem?_eq_getElem hjl]
                  rfl
                obtain ⟨q, hq⟩ : ∃ q, l.getD i 0 = q := ⟨_, rfl⟩
                rw [hq] at hc0 htk
                have Htk := Lib.hid htk
                have HA : Hid (w.heap.size ≤ (wr.alloc (.cells #[.int .i64 q] 3)).heap.size) := by
                  have h1 := HD.out.2.size
                  show _ ≤ (World.alloc _ _).heap.size
                  simp
                  omega
                clear htk hq hjl
                go_wp2_with (first
                  | (at_builtin; refine wpList_append_own _ rfl _ _ 23 rfl w.heap.size 3 i0 (.int .i64 0) 1 8 Try.underlying23 hi hz0 hz1 hz2 rfl (by decide) u6 (i + 1) (intsC (l.take j ++ x :: (l.drop j).take d)) rfl (HD.out.1.alloc _) ⟨wr.heap.size, 0, none⟩ 1 1 [.int .i64 q] rfl rfl (news_new wr #[.int .i64 q] 3) (intsC_one [q]) (by unfold maxLen; omega) (by omega) HA.out ?_)
                  | go_in)
                intro v5 w5 hown5 hgrow5 hnil5
                have HJ6 : Hid (w5.ownsRow w.heap.size 3 1 v5 (j + (d + 1) + 1) (intsC (l.take j ++ x :: (l.drop j).take (d + 1))) ∧ Below w.heap.size w w5) := by
                  refine ⟨?_, (HD.out.2.alloc HD.out.2.size _).grown hgrow5 HA.out (fun k hk => (HD.out.1.lt k hk).1)⟩
                  have e3 : l.take j ++ x :: ((l.drop j).take d ++ [q]) = (l.take j ++ x :: (l.drop j).take d) ++ [q] := by simp
                  rw [Htk.out, e3, intsC_snoc, ← Nat.add_assoc, Hi.out]
                  exact hown5
                clear hown5 hgrow5 hnil5
                go_wp2
                go_roundw
                case rel => exact ⟨d + 1, by rw [← Nat.add_assoc, Hi.out]; go_num, by have := Hi.out; omega, HJ6.out⟩
                case measure => simp [intOf]; omega
              · have hin' : i = n := by omega
                have HR : Hid (wr.ownsRow w.heap.size 3 1 u6 (n + 1) (intsC R)) := by
                  have h1 := HD.out.1
                  have h2 : (l.drop j).take d = l.drop j := List.take_of_length_le (by have := Hi.out; have := Hn.out; simp; omega)
                  rw [h2, hin'] at h1
                  show World.ownsRow _ _ _ _ _ _ _
                  rw [HE.out]
                  exact h1
                obtain ⟨a', c', rfl, hRl, hsl⟩ := row_slI HR.out
                have Hsl := Lib.hid hsl
                have HRl := Lib.hid hRl
                clear hsl hRl hin hd
                go_wp2
                go_ret
                exact ⟨a', c', by rw [HRl.out]; rfl, Hsl.out, HD.out.2⟩

set_option maxHeartbeats 1000000 in
theorem same_ints (a1 a2 : Option Addr) (c1 c2 : Nat) (l : List Int) (hn : l.length ≤ 100000) (w : World) (h1 : SlI w a1 l) (h2 : SlI w a2 l) :
    Calls Try.prog 17 #[.slice a1 l.length c1, .slice a2 l.length c2] w fun e w' => e = .returned (.bool true) ∧ Hid (Below w.heap.size w w') := by
  obtain ⟨n, hnn⟩ : ∃ n, l.length = n := ⟨_, rfl⟩
  rw [hnn] at hn ⊢
  have H1 := Lib.hid h1
  have H2 := Lib.hid h2
  have Hn := Lib.hid hnn
  clear h1 h2 hnn
  go_enter Try.func17, Try.ntmps17
  go_wp2
  go_loopw [5] (fun i wr => ∃ k : Nat, i = .int .i64 k ∧ k ≤ n ∧ Hid (SlI wr a1 l ∧ SlI wr a2 l ∧ Below w.heap.size w wr)) (fun i _ => n - (intOf i).toNat)
  case atStart => exact ⟨0, rfl, Nat.zero_le _, H1.out, H2.out, Below.refl _ _⟩
  case round =>
    obtain ⟨k, rfl, hk, HR⟩ := hrel
    by_cases hlt : k < n
    · obtain ⟨b1, off1, e1, p0⟩ := HR.out.1.at (k := k) (by rw [Hn.out]; exact hlt)
      obtain ⟨b2, off2, e2, r0⟩ := HR.out.2.1.at (k := k) (by rw [Hn.out]; exact hlt)
      cases e1
      cases e2
      obtain ⟨q, hq⟩ : ∃ q, l.getD k 0 = q := ⟨_, rfl⟩
      rw [hq] at p0 r0
      clear hq
      go_wp2
      go_region_held3 (fun w' => w'.cell? ⟨b1, off1 + k, none⟩ = some (.int .i64 q) ∧ w'.cell? ⟨b2, off2 + k, none⟩ = some (.int .i64 q)) (go_keep) (fail)
      try clear hHeld
      go_wp2
      go_roundw
      case rel => exact ⟨k + 1, by go_num, by omega, HR.out.1, HR.out.2.1, HR.out.2.2.drew⟩
      case measure => simp [intOf]; omega
    · have hkn : k = n := by omega
      subst hkn
      clear hlt hk
      go_wp2
      go_ret
      exact ⟨rfl, HR.out.2.2⟩

end Go.Proofs.Ythgkloapnihpaaa

/- The document's pairs: Has, Put, what stands behind; by contracts. -/
namespace Go.Proofs.Ythgkloapnihpaaa
open Go.RowKit Go.Maps Go.WideMaps Go.WideElems Go.ChangeShapes Go.WideShapes
def enc2 (p : Pr) : List Value := [.int .i64 p.1, .int .i64 p.2]

/-- Pairs, as cells. -/
def flat (l : List Pr) : List Value := l.flatMap enc2

theorem flat_len (l : List Pr) : (flat l).length = l.length * 2 := by
  induction l with
  | nil => rfl
  | cons p l ih => show (_ :: _ :: flat l).length = _; simp [ih]; omega

theorem flat_snoc (l : List Pr) (p : Pr) : flat (l ++ [p]) = flat l ++ enc2 p := by simp [flat]

theorem flat_get : ∀ (l : List Pr) (k : Nat) (h : k < l.length), (flat l)[k * 2]? = some (.int .i64 l[k].1) ∧ (flat l)[k * 2 + 1]? = some (.int .i64 l[k].2)
  | p :: l, 0, _ => ⟨rfl, rfl⟩
  | p :: l, k + 1, h => by
    obtain ⟨h0, h1⟩ := flat_get l k (by simpa using h)
    have e : ∀ j, (flat (p :: l))[(k + 1) * 2 + j]? = (flat l)[k * 2 + j]? := fun j => by
      show (_ :: _ :: flat l)[_]? = _
      rw [show (k + 1) * 2 + j = (k * 2 + j) + 1 + 1 by omega, List.getElem?_cons_succ, List.getElem?_cons_succ]
    exact ⟨(e 0).trans h0, (e 1).trans h1⟩

theorem flat_one (l : List Pr) : ∀ u ∈ flat l, u.oneCell' = true := by
  intro u hu
  obtain ⟨p, _, hp⟩ := List.mem_flatMap.1 hu
  simp [enc2] at hp
  rcases hp with rfl | rfl <;> rfl

/-- A slice of pairs that can be read. -/
def SlP (W : World) (a : Option Addr) (l : List Pr) : Prop := l = [] ∨ ∃ b off, a = some ⟨b, off, none⟩ ∧ (l ≠ [] → b < W.heap.size) ∧ ∀ k p, l[k]? = some p → W.cell? ⟨b, off + k * 2, none⟩ = some (.int .i64 p.1) ∧ W.cell? ⟨b, off + k * 2 + 1, none⟩ = some (.int .i64 p.2)

theorem SlP.below {W W' : World} {a : Option Addr} {l : List Pr} (h : SlP W a l) (hb : Below W.heap.size W W') : SlP W' a l := by
  rcases h with h | ⟨b, off, e, hl, h⟩
  · exact .inl h
  · refine .inr ⟨b, off, e, fun hx => Nat.lt_of_lt_of_le (hl hx) hb.size, fun k p hk => ?_⟩
    have hne : l ≠ [] := by intro e'; rw [e'] at hk; simp at hk
    exact ⟨(hb.cell (p := ⟨b, off + k * 2, none⟩) (hl hne)).trans (h k p hk).1, (hb.cell (p := ⟨b, off + k * 2 + 1, none⟩) (hl hne)).trans (h k p hk).2⟩

theorem SlP.at {W : World} {a : Option Addr} {l : List Pr} (h : SlP W a l) {k : Nat} (hk : k < l.length) : ∃ b off, a = some ⟨b, off, none⟩ ∧ W.cell? ⟨b, off + k * 2, none⟩ = some (.int .i64 (l.getD k (0, 0)).1) ∧ W.cell? ⟨b, off + k * 2 + 1, none⟩ = some (.int .i64 (l.getD k (0, 0)).2) := by
  rcases h with rfl | ⟨b, off, e, _, h⟩
  · simp at hk
  · exact ⟨b, off, e, h k _ (by simp [hk])⟩

theorem row_slP {W : World} {B : Nat} {e : TypeId} {n : Nat} {v : Value} {l : List Pr} (h : W.ownsRow B e 2 v n (flat l)) : ∃ a c, v = .slice a n c ∧ l.length = n ∧ SlP W a l := by
  have hln : l.length = n := by
    have := h.1
    rw [flat_len] at this
    omega
  rcases h.2 with ⟨rfl, h0⟩ | ⟨g, cap, cur, rfl, hb, hg, hn, hm, hs, ht⟩
  · subst h0
    exact ⟨none, 0, rfl, hln, .inl (List.eq_nil_of_length_eq_zero hln)⟩
  · refine ⟨_, cap, rfl, hln, .inr ⟨g, 0, rfl, fun _ => (Array.getElem?_eq_some_iff.1 hg).1, fun k p hk => ?_⟩⟩
    obtain ⟨hk1, rfl⟩ := List.getElem?_eq_some_iff.1 hk
    obtain ⟨g0, g1⟩ := flat_get l k hk1
    have h1 := h.cellAt (k * 2) (by omega)
    have h2 := h.cellAt (k * 2 + 1) (by omega)
    rw [g0] at h1
    rw [g1] at h2
    rw [Nat.zero_add]
    exact ⟨h1, h2⟩

theorem has9_any (a : Option Addr) (c : Nat) (l : List Pr) (x y : Int) (hn : l.length ≤ 100000) (w : World) (h : SlP w a l) :
    Calls Try.prog 80 #[.slice a l.length c, .int .i64 x, .int .i64 y] w fun e w' => e = .returned (.bool (decide ((x, y) ∈ l))) ∧ w = w' := by
  obtain ⟨n, hnn⟩ : ∃ n, l.length = n := ⟨_, rfl⟩
  rw [hnn] at hn ⊢
  have H := Lib.hid h
  have Hn := Lib.hid hnn
  obtain ⟨res, hres⟩ : ∃ b, decide ((x, y) ∈ l) = b := ⟨_, rfl⟩
  rw [hres]
  have Hres := Lib.hid hres
  clear h hnn hres
  go_enter Try.func80, Try.ntmps80
  go_wp2
  go_loop [7] (fun i => ∃ k : Nat, k ≤ n ∧ i = .int .i64 k ∧ Hid (∀ j, j < k → l.getD j (0, 0) ≠ (x, y))) (fun i => n - (intOf i).toNat)
  case atStart => exact ⟨0, Nat.zero_le _, rfl, fun j hj => absurd hj (by omega)⟩
  case round =>
    obtain ⟨k, hk, rfl, HK⟩ := hrel
    by_cases hlt : k < n
    · obtain ⟨b, off, rfl, hc0, hc1⟩ := H.out.at (k := k) (by rw [Hn.out]; exact hlt)
      have hmem : l.getD k (0, 0) ∈ l := by
        have h1 : k < l.length := by rw [Hn.out]; exact hlt
        rw [List.getD_eq_getElem?_getD, List.getElem?_eq_getElem h1]
        exact List.getElem_mem h1
      obtain ⟨q, hq⟩ : ∃ q, l.getD k (0, 0) = q := ⟨_, rfl⟩
      obtain ⟨q1, q2⟩ := q
      rw [hq] at hc0 hc1 hmem
      simp only at hc0 hc1
      by_cases hx : (q1, q2) = (x, y)
      · have hr : Hid (res = true) := by show _ = _; rw [← Hres.out, ← hx]; simpa using hmem
        have e1 : q1 = x := by cases hx; rfl
        have e2 : q2 = y := by cases hx; rfl
        subst e1 e2
        clear hx hq hmem
        go_wp2
        go_ret
        exact ⟨by rw [hr.out]; rfl, rfl⟩
      · have HK' : Hid (∀ j, j < k + 1 → l.getD j (0, 0) ≠ (x, y)) := by
          intro j hj
          by_cases e : j = k
          · subst e; rw [hq]; exact hx
          · exact HK.out j (by omega)
        by_cases e1 : q1 = x
        · subst e1
          have hne : (q2 == y) = false := by
            have : q2 ≠ y := fun e => hx (by rw [e])
            simpa using this
          clear hx hq hmem
          go_wp2
          go_round
          case rel => exact ⟨k + 1, by omega, by go_num, HK'.out⟩
          case measure => simp [intOf]; omega
        · have hne : (q1 == x) = false := by simpa using e1
          clear hx hq hmem e1
          go_wp2
          go_round
          case rel => exact ⟨k + 1, by omega, by go_num, HK'.out⟩
          case measure => simp [intOf]; omega
    · have hkn : k = n := by omega
      have hr : Hid (res = false) := by
        show _ = _
        rw [← Hres.out, decide_eq_false_iff_not]
        intro hm
        obtain ⟨j, hj, e⟩ := List.getElem_of_mem hm
        refine HK.out j (by rw [hkn, ← Hn.out]; exact hj) ?_
        simp [hj, e]
      clear hkn
      go_wp2
      go_ret
      exact ⟨by rw [hr.out]; rfl, rfl⟩

theorem ltP_of_lt {p : Pr} : ∀ {l : List Pr} {k : Nat}, k < aheadN p l → k < l.length ∧ LtP (l.getD k (0, 0)) p
  | [], k, h => by simp [aheadN] at h
  | q :: l, k, h => by
    unfold aheadN at h
    split at h
    · rename_i hq
      cases k with
      | zero => exact ⟨by simp, by simpa using hq⟩
      | succ k =>
        obtain ⟨h1, h2⟩ := ltP_of_lt (p := p) (l := l) (k := k) (by omega)
        exact ⟨by simp; omega, by simpa using h2⟩
    · omega

theorem ltP_stop {p : Pr} : ∀ {l : List Pr}, aheadN p l < l.length → ¬ LtP (l.getD (aheadN p l) (0, 0)) p
  | [], h => by simp at h
  | q :: l, h => by
    by_cases hq : LtP q p
    · have e : aheadN p (q :: l) = aheadN p l + 1 := by simp [aheadN, hq]
      rw [e] at h ⊢
      have := ltP_stop (p := p) (l := l) (by simp at h; omega)
      simpa using this
    · have e : aheadN p (q :: l) = 0 := by simp [aheadN, hq]
      rw [e]
      simpa using hq

theorem ltP_ways {q1 q2 x y : Int} (h : LtP (q1, q2) (x, y)) : decide (q1 < x) = true ∨ (decide (q1 < x) = false ∧ (q1 == x) = true ∧ decide (q2 < y) = true) := by
  unfold LtP at h
  simp at h
  rcases h with h | ⟨h1, h2⟩
  · exact .inl (by simpa using h)
  · exact .inr ⟨by simp; omega, by simpa using h1, by simpa using h2⟩

theorem ltP_no {q1 q2 x y : Int} (h : ¬ LtP (q1, q2) (x, y)) : decide (q1 < x) = false ∧ ((q1 == x) = false ∨ ((q1 == x) = true ∧ decide (q2 < y) = false)) := by
  unfold LtP at h
  simp at h
  refine ⟨by simp; omega, ?_⟩
  by_cases e : q1 = x
  · exact .inr ⟨by simpa using e, by simp; exact h.2 e⟩
  · exact .inl (by simpa using e)

theorem elem53 : (Try.prog.info? 99).map (fun i => (i.zero, i.size, i.bytes)) = some (some (.agg #[.int .i64 0, .int .i64 0]), 2, 16) := by kernel_rfl

set_option maxHeartbeats 4000000 in
set_option maxRecDepth 100000 in
theorem put9_any (a : Option Addr) (c : Nat) (l : List Pr) (x y : Int) (hn : l.length ≤ 100000) (w : World) (h : SlP w a l) :
    Calls Try.prog 70 #[.slice a l.length c, .int .i64 x, .int .i64 y] w fun e w' => ∃ a' c', e = .returned (.slice a' (putP l (x, y)).length c') ∧ Hid (SlP w' a' (putP l (x, y)) ∧ Below w.heap.size w w') := by
  obtain ⟨i0, hi, hz0, hz1, hz2⟩ := info_parts elem53
  have HH := Lib.hid (has9_any a c l x y hn w h)
  by_cases hp : (x, y) ∈ l
  · have e1 : putP l (x, y) = l := by simp [putP, hp]
    have e2 : decide ((x, y) ∈ l) = true := by simpa using hp
    rw [e1]
    rw [e2] at HH
    have H := Lib.hid h
    clear hp e1 e2 h hn
    go_enter Try.func70, Try.ntmps70
    go_wp2_with (first | (go_at_call 80; refine HH.out.mono ?_; rintro e w2 ⟨rfl, rfl⟩) | go_in)
    go_ret
    exact ⟨a, c, rfl, H.out, Below.refl _ _⟩
  · have e1 : putP l (x, y) = l.take (aheadN (x, y) l) ++ (x, y) :: l.drop (aheadN (x, y) l) := by simp [putP, hp]
    have e2 : decide ((x, y) ∈ l) = false := by simpa using hp
    rw [e2] at HH
    obtain ⟨R, hR⟩ : ∃ R, putP l (x, y) = R := ⟨_, rfl⟩
    rw [hR]
    rw [hR] at e1
    have He1 := Lib.hid e1
    obtain ⟨n, hnn⟩ : ∃ n, l.length = n := ⟨_, rfl⟩
    rw [hnn] at HH hn ⊢
    have H := Lib.hid h
    have Hn := Lib.hid hnn
    obtain ⟨m, hm⟩ : ∃ m, aheadN (x, y) l = m := ⟨_, rfl⟩
    have Hm := Lib.hid hm
    have Hmn : Hid (m ≤ n) := by show _ ≤ _; rw [← hm, ← hnn]; exact aheadN_le _ _
    clear hp e1 e2 h hnn hR hm
    go_enter Try.func70, Try.ntmps70
    go_wp2_with (first | (go_at_call 80; refine HH.out.mono ?_; rintro e w2 ⟨rfl, rfl⟩) | go_in)
    go_loop [7] (fun i => ∃ k : Nat, k ≤ m ∧ i = .int .i64 k) (fun i => n - (intOf i).toNat)
    case atStart => exact ⟨0, Nat.zero_le _, rfl⟩
    case round =>
      obtain ⟨k, hk, rfl⟩ := hrel
      have hmn := Hmn.out
      by_cases hlt : k < m
      · obtain ⟨hkl, hlp⟩ := ltP_of_lt (p := (x, y)) (l := l) (k := k) (by rw [Hm.out]; exact hlt)
        obtain ⟨b, off, rfl, hc0, hc1⟩ := H.out.at hkl
        rw [Hn.out] at hkl
        obtain ⟨q, hq⟩ : ∃ q, l.getD k (0, 0) = q := ⟨_, rfl⟩
        obtain ⟨q1, q2⟩ := q
        rw [hq] at hc0 hc1 hlp
        simp only at hc0 hc1
        rcases ltP_ways hlp with e1 | ⟨e1, e2, e3⟩
        · clear hq hlp
          go_wp2
          go_round
          case rel => exact ⟨k + 1, by omega, by go_num⟩
          case measure => simp [intOf]; omega
        · clear hq hlp
          go_wp2
          go_round
          case rel => exact ⟨k + 1, by omega, by go_num⟩
          case measure => simp [intOf]; omega
      · have hkm : k = m := by omega
        subst hkm
        by_cases hkl : k < n
        · have hlp := ltP_stop (p := (x, y)) (l := l) (by rw [Hm.out, Hn.out]; exact hkl)
          rw [Hm.out] at hlp
          obtain ⟨b, off, rfl, hc0, hc1⟩ := H.out.at (k := k) (by rw [Hn.out]; exact hkl)
          obtain ⟨q, hq⟩ : ∃ q, l.getD k (0, 0) = q := ⟨_, rfl⟩
          obtain ⟨q1, q2⟩ := q
          rw [hq] at hc0 hc1 hlp
          simp only at hc0 hc1
          obtain ⟨e1, e2 | ⟨e2, e3⟩⟩ := ltP_no hlp
          · clear hq hlp
            go_wp2
            clear hc0 hc1 e1 e2
            go_loopw [8, 9] (fun v i wr => ∃ j : Nat, i = .int .i64 j ∧ j ≤ k ∧ Hid (wr.ownsRow w.heap.size 99 2 v j (flat (l.take j)) ∧ Below w.heap.size w wr)) (fun _ i _ => k - (intOf i).toNat)
            case atStart => exact ⟨0, rfl, Nat.zero_le _, World.ownsRow_nil _ _ _ _, Below.refl _ _⟩
            case round =>
              obtain ⟨j, rfl, hj, HJ⟩ := hrel
              by_cases hjk : j < k
              · have hjl : j < l.length := by rw [Hn.out]; omega
                obtain ⟨b', off', e, hc0, hc1⟩ := (H.out.below HJ.out.2).at hjl
                cases e
                have htk : l.take (j + 1) = l.take j ++ [l.getD j (0, 0)] := by
                  rw [List.take_add_one, List.getElem?_eq_getElem hjl, List.getD_eq_getElem?_getD, List.getElem?_eq_getElem hjl]
                  rfl
                obtain ⟨q, hq⟩ : ∃ q, l.getD j (0, 0) = q := ⟨_, rfl⟩
                obtain ⟨q1, q2⟩ := q
                rw [hq] at hc0 hc1 htk
                simp only at hc0 hc1
                have Htk := Lib.hid htk
                have hjn : j < n := by omega
                have HA : Hid (w.heap.size ≤ (wr.alloc (.cells #[.int .i64 q1, .int .i64 q2] 99)).heap.size) := by
                  have h1 := HJ.out.2.size
                  show _ ≤ (World.alloc _ _).heap.size
                  simp
                  omega
                clear htk hq hjl
                go_wp2_with (first
                  | (at_builtin; refine wpList_append_own _ rfl _ _ 76 rfl w.heap.size 99 i0 (.agg #[.int .i64 0, .int .i64 0]) 2 16 Try.underlying76 hi hz0 hz1 hz2 rfl (by decide) u8 j (flat (l.take j)) rfl (HJ.out.1.alloc _) ⟨wr.heap.size, 0, none⟩ 1 1 [.int .i64 q1, .int .i64 q2] rfl rfl (news_new wr #[.int .i64 q1, .int .i64 q2] 99) (flat_one [(q1, q2)]) (by unfold maxLen; omega) (by omega) HA.out ?_)
                  | go_in)
                intro v5 w5 hown5 hgrow5 hnil5
                have HJ5 : Hid (w5.ownsRow w.heap.size 99 2 v5 (j + 1) (flat (l.take (j + 1))) ∧ Below w.heap.size w w5) := by
                  refine ⟨?_, (HJ.out.2.alloc HJ.out.2.size _).grown hgrow5 HA.out (fun k hk => (HJ.out.1.lt k hk).1)⟩
                  rw [Htk.out, flat_snoc]
                  exact hown5
                clear hown5 hgrow5 hnil5
                go_wp2
                go_roundw
                case rel => exact ⟨j + 1, by go_num, by omega, HJ5.out⟩
                case measure => simp [intOf]; omega
              · have hjk' : j = k := by omega
                subst hjk'
                have HA : Hid (w.heap.size ≤ (wr.alloc (.cells #[.int .i64 x, .int .i64 y] 99)).heap.size) := by
                  have h1 := HJ.out.2.size
                  show _ ≤ (World.alloc _ _).heap.size
                  simp
                  omega
                clear hj hjk
                go_wp2_with (first
                  | (at_builtin; refine wpList_append_own _ rfl _ _ 76 rfl w.heap.size 99 i0 (.agg #[.int .i64 0, .int .i64 0]) 2 16 Try.underlying76 hi hz0 hz1 hz2 rfl (by decide) u8 j (flat (l.take j)) rfl (HJ.out.1.alloc _) ⟨wr.heap.size, 0, none⟩ 1 1 [.int .i64 x, .int .i64 y] rfl rfl (news_new wr #[.int .i64 x, .int .i64 y] 99) (flat_one [(x, y)]) (by unfold maxLen; omega) (by omega) HA.out ?_)
                  | go_in)
                intro v5 w5 hown5 hgrow5 hnil5
                have HJ5 : Hid (w5.ownsRow w.heap.size 99 2 v5 (j + 1) (flat (l.take j ++ (x, y) :: (l.drop j).take 0)) ∧ Below w.heap.size w w5) := by
                  refine ⟨?_, (HJ.out.2.alloc HJ.out.2.size _).grown hgrow5 HA.out (fun k hk => (HJ.out.1.lt k hk).1)⟩
                  rw [List.take_zero, flat_snoc]
                  exact hown5
                clear hown5 hgrow5 hnil5 HA
                go_wp2
                try go_frame
                go_loopw [8, 10] (fun v i wr => ∃ d : Nat, i = .int .i64 ((j + d : Nat) : Int) ∧ j + d ≤ n ∧ Hid (wr.ownsRow w.heap.size 99 2 v (j + d + 1) (flat (l.take j ++ (x, y) :: (l.drop j).take d)) ∧ Below w.heap.size w wr)) (fun _ i _ => n - (intOf i).toNat)
                case atStart => exact ⟨0, rfl, by omega, HJ5.out⟩
                case round =>
                  obtain ⟨d, rfl, hd, HD⟩ := hrel
                  obtain ⟨i, hi'⟩ : ∃ i, j + d = i := ⟨_, rfl⟩
                  rw [hi'] at HD hd ⊢
                  have Hi := Lib.hid hi'
                  clear hi'
                  by_cases hin : i < n
                  · have hjl : i < l.length := by rw [Hn.out]; omega
                    obtain ⟨b', off', e, hc0, hc1⟩ := (H.out.below HD.out.2).at hjl
                    cases e
                    have htk : (l.drop j).take (d + 1) = (l.drop j).take d ++ [l.getD i (0, 0)] := by
                      rw [List.take_add_one, List.getElem?_drop, Hi.out, List.getElem?_eq_getElem hjl, List.getD_eq_getElem?_getD, List.getElem?_eq_getElem hjl]
                      rfl
                    obtain ⟨q, hq⟩ : ∃ q, l.getD i (0, 0) = q := ⟨_, rfl⟩
                    obtain ⟨q1, q2⟩ := q
                    rw [hq] at hc0 hc1 htk
                    simp only at hc0 hc1
                    have Htk := Lib.hid htk
                    have HA : Hid (w.heap.size ≤ (wr.alloc (.cells #[.int .i64 q1, .int .i64 q2] 99)).heap.size) := by
                      have h1 := HD.out.2.size
                      show _ ≤ (World.alloc _ _).heap.size
                      simp
                      omega
                    clear htk hq hjl
                    go_wp2_with (first
                      | (at_builtin; refine wpList_append_own _ rfl _ _ 76 rfl w.heap.size 99 i0 (.agg #[.int .i64 0, .int .i64 0]) 2 16 Try.underlying76 hi hz0 hz1 hz2 rfl (by decide) u8 (i + 1) (flat (l.take j ++ (x, y) :: (l.drop j).take d)) rfl (HD.out.1.alloc _) ⟨wr.heap.size, 0, none⟩ 1 1 [.int .i64 q1, .int .i64 q2] rfl rfl (news_new wr #[.int .i64 q1, .int .i64 q2] 99) (flat_one [(q1, q2)]) (by unfold maxLen; omega) (by omega) HA.out ?_)
                      | go_in)
                    intro v5 w5 hown5 hgrow5 hnil5
                    have HJ6 : Hid (w5.ownsRow w.heap.size 99 2 v5 (j + (d + 1) + 1) (flat (l.take j ++ (x, y) :: (l.drop j).take (d + 1))) ∧ Below w.heap.size w w5) := by
                      refine ⟨?_, (HD.out.2.alloc HD.out.2.size _).grown hgrow5 HA.out (fun k hk => (HD.out.1.lt k hk).1)⟩
                      have e3 : l.take j ++ (x, y) :: ((l.drop j).take d ++ [(q1, q2)]) = (l.take j ++ (x, y) :: (l.drop j).take d) ++ [(q1, q2)] := by simp
                      rw [Htk.out, e3, flat_snoc, ← Nat.add_assoc, Hi.out]
                      exact hown5
                    clear hown5 hgrow5 hnil5
                    go_wp2
                    go_roundw
                    case rel => exact ⟨d + 1, by rw [← Nat.add_assoc, Hi.out]; go_num, by have := Hi.out; omega, HJ6.out⟩
                    case measure => simp [intOf]; omega
                  · have hin' : i = n := by omega
                    have HR : Hid (wr.ownsRow w.heap.size 99 2 u8 (n + 1) (flat R)) := by
                      have h1 := HD.out.1
                      have h2 : (l.drop j).take d = l.drop j := List.take_of_length_le (by have := Hi.out; have := Hn.out; simp; omega)
                      rw [h2, hin'] at h1
                      have h3 := He1.out
                      rw [Hm.out] at h3
                      show World.ownsRow _ _ _ _ _ _ _
                      rw [h3]
                      exact h1
                    obtain ⟨a', c', rfl, hRl, hsl⟩ := row_slP HR.out
                    have Hsl := Lib.hid hsl
                    have HRl := Lib.hid hRl
                    clear hsl hRl hin hd
                    go_wp2
                    go_ret
                    exact ⟨a', c', by rw [HRl.out]; rfl, Hsl.out, HD.out.2⟩
          · clear hq hlp
            go_wp2
            clear hc0 hc1 e1 e2 e3
            go_loopw [8, 9] (fun v i wr => ∃ j : Nat, i = .int .i64 j ∧ j ≤ k ∧ Hid (wr.ownsRow w.heap.size 99 2 v j (flat (l.take j)) ∧ Below w.heap.size w wr)) (fun _ i _ => k - (intOf i).toNat)
            case atStart => exact ⟨0, rfl, Nat.zero_le _, World.ownsRow_nil _ _ _ _, Below.refl _ _⟩
            case round =>
              obtain ⟨j, rfl, hj, HJ⟩ := hrel
              by_cases hjk : j < k
              · have hjl : j < l.length := by rw [Hn.out]; omega
                obtain ⟨b', off', e, hc0, hc1⟩ := (H.out.below HJ.out.2).at hjl
                cases e
                have htk : l.take (j + 1) = l.take j ++ [l.getD j (0, 0)] := by
                  rw [List.take_add_one, List.getElem?_eq_getElem hjl, List.getD_eq_getElem?_getD, List.getElem?_eq_getElem hjl]
                  rfl
                obtain ⟨q, hq⟩ : ∃ q, l.getD j (0, 0) = q := ⟨_, rfl⟩
                obtain ⟨q1, q2⟩ := q
                rw [hq] at hc0 hc1 htk
                simp only at hc0 hc1
                have Htk := Lib.hid htk
                have hjn : j < n := by omega
                have HA : Hid (w.heap.size ≤ (wr.alloc (.cells #[.int .i64 q1, .int .i64 q2] 99)).heap.size) := by
                  have h1 := HJ.out.2.size
                  show _ ≤ (World.alloc _ _).heap.size
                  simp
                  omega
                clear htk hq hjl
                go_wp2_with (first
                  | (at_builtin; refine wpList_append_own _ rfl _ _ 76 rfl w.heap.size 99 i0 (.agg #[.int .i64 0, .int .i64 0]) 2 16 Try.underlying76 hi hz0 hz1 hz2 rfl (by decide) u8 j (flat (l.take j)) rfl (HJ.out.1.alloc _) ⟨wr.heap.size, 0, none⟩ 1 1 [.int .i64 q1, .int .i64 q2] rfl rfl (news_new wr #[.int .i64 q1, .int .i64 q2] 99) (flat_one [(q1, q2)]) (by unfold maxLen; omega) (by omega) HA.out ?_)
                  | go_in)
                intro v5 w5 hown5 hgrow5 hnil5
                have HJ5 : Hid (w5.ownsRow w.heap.size 99 2 v5 (j + 1) (flat (l.take (j + 1))) ∧ Below w.heap.size w w5) := by
                  refine ⟨?_, (HJ.out.2.alloc HJ.out.2.size _).grown hgrow5 HA.out (fun k hk => (HJ.out.1.lt k hk).1)⟩
                  rw [Htk.out, flat_snoc]
                  exact hown5
                clear hown5 hgrow5 hnil5
                go_wp2
                go_roundw
                case rel => exact ⟨j + 1, by go_num, by omega, HJ5.out⟩
                case measure => simp [intOf]; omega
              · have hjk' : j = k := by omega
                subst hjk'
                have HA : Hid (w.heap.size ≤ (wr.alloc (.cells #[.int .i64 x, .int .i64 y] 99)).heap.size) := by
                  have h1 := HJ.out.2.size
                  show _ ≤ (World.alloc _ _).heap.size
                  simp
                  omega
                clear hj hjk
                go_wp2_with (first
                  | (at_builtin; refine wpList_append_own _ rfl _ _ 76 rfl w.heap.size 99 i0 (.agg #[.int .i64 0, .int .i64 0]) 2 16 Try.underlying76 hi hz0 hz1 hz2 rfl (by decide) u8 j (flat (l.take j)) rfl (HJ.out.1.alloc _) ⟨wr.heap.size, 0, none⟩ 1 1 [.int .i64 x, .int .i64 y] rfl rfl (news_new wr #[.int .i64 x, .int .i64 y] 99) (flat_one [(x, y)]) (by unfold maxLen; omega) (by omega) HA.out ?_)
                  | go_in)
                intro v5 w5 hown5 hgrow5 hnil5
                have HJ5 : Hid (w5.ownsRow w.heap.size 99 2 v5 (j + 1) (flat (l.take j ++ (x, y) :: (l.drop j).take 0)) ∧ Below w.heap.size w w5) := by
                  refine ⟨?_, (HJ.out.2.alloc HJ.out.2.size _).grown hgrow5 HA.out (fun k hk => (HJ.out.1.lt k hk).1)⟩
                  rw [List.take_zero, flat_snoc]
                  exact hown5
                clear hown5 hgrow5 hnil5 HA
                go_wp2
                try go_frame
                go_loopw [8, 10] (fun v i wr => ∃ d : Nat, i = .int .i64 ((j + d : Nat) : Int) ∧ j + d ≤ n ∧ Hid (wr.ownsRow w.heap.size 99 2 v (j + d + 1) (flat (l.take j ++ (x, y) :: (l.drop j).take d)) ∧ Below w.heap.size w wr)) (fun _ i _ => n - (intOf i).toNat)
                case atStart => exact ⟨0, rfl, by omega, HJ5.out⟩
                case round =>
                  obtain ⟨d, rfl, hd, HD⟩ := hrel
                  obtain ⟨i, hi'⟩ : ∃ i, j + d = i := ⟨_, rfl⟩
                  rw [hi'] at HD hd ⊢
                  have Hi := Lib.hid hi'
                  clear hi'
                  by_cases hin : i < n
                  · have hjl : i < l.length := by rw [Hn.out]; omega
                    obtain ⟨b', off', e, hc0, hc1⟩ := (H.out.below HD.out.2).at hjl
                    cases e
                    have htk : (l.drop j).take (d + 1) = (l.drop j).take d ++ [l.getD i (0, 0)] := by
                      rw [List.take_add_one, List.getElem?_drop, Hi.out, List.getElem?_eq_getElem hjl, List.getD_eq_getElem?_getD, List.getElem?_eq_getElem hjl]
                      rfl
                    obtain ⟨q, hq⟩ : ∃ q, l.getD i (0, 0) = q := ⟨_, rfl⟩
                    obtain ⟨q1, q2⟩ := q
                    rw [hq] at hc0 hc1 htk
                    simp only at hc0 hc1
                    have Htk := Lib.hid htk
                    have HA : Hid (w.heap.size ≤ (wr.alloc (.cells #[.int .i64 q1, .int .i64 q2] 99)).heap.size) := by
                      have h1 := HD.out.2.size
                      show _ ≤ (World.alloc _ _).heap.size
                      simp
                      omega
                    clear htk hq hjl
                    go_wp2_with (first
                      | (at_builtin; refine wpList_append_own _ rfl _ _ 76 rfl w.heap.size 99 i0 (.agg #[.int .i64 0, .int .i64 0]) 2 16 Try.underlying76 hi hz0 hz1 hz2 rfl (by decide) u8 (i + 1) (flat (l.take j ++ (x, y) :: (l.drop j).take d)) rfl (HD.out.1.alloc _) ⟨wr.heap.size, 0, none⟩ 1 1 [.int .i64 q1, .int .i64 q2] rfl rfl (news_new wr #[.int .i64 q1, .int .i64 q2] 99) (flat_one [(q1, q2)]) (by unfold maxLen; omega) (by omega) HA.out ?_)
                      | go_in)
                    intro v5 w5 hown5 hgrow5 hnil5
                    have HJ6 : Hid (w5.ownsRow w.heap.size 99 2 v5 (j + (d + 1) + 1) (flat (l.take j ++ (x, y) :: (l.drop j).take (d + 1))) ∧ Below w.heap.size w w5) := by
                      refine ⟨?_, (HD.out.2.alloc HD.out.2.size _).grown hgrow5 HA.out (fun k hk => (HD.out.1.lt k hk).1)⟩
                      have e3 : l.take j ++ (x, y) :: ((l.drop j).take d ++ [(q1, q2)]) = (l.take j ++ (x, y) :: (l.drop j).take d) ++ [(q1, q2)] := by simp
                      rw [Htk.out, e3, flat_snoc, ← Nat.add_assoc, Hi.out]
                      exact hown5
                    clear hown5 hgrow5 hnil5
                    go_wp2
                    go_roundw
                    case rel => exact ⟨d + 1, by rw [← Nat.add_assoc, Hi.out]; go_num, by have := Hi.out; omega, HJ6.out⟩
                    case measure => simp [intOf]; omega
                  · have hin' : i = n := by omega
                    have HR : Hid (wr.ownsRow w.heap.size 99 2 u8 (n + 1) (flat R)) := by
                      have h1 := HD.out.1
                      have h2 : (l.drop j).take d = l.drop j := List.take_of_length_le (by have := Hi.out; have := Hn.out; simp; omega)
                      rw [h2, hin'] at h1
                      have h3 := He1.out
                      rw [Hm.out] at h3
                      show World.ownsRow _ _ _ _ _ _ _
                      rw [h3]
                      exact h1
                    obtain ⟨a', c', rfl, hRl, hsl⟩ := row_slP HR.out
                    have Hsl := Lib.hid hsl
                    have HRl := Lib.hid hRl
                    clear hsl hRl hin hd
                    go_wp2
                    go_ret
                    exact ⟨a', c', by rw [HRl.out]; rfl, Hsl.out, HD.out.2⟩
        · go_wp2
          go_loopw [8, 9] (fun v i wr => ∃ j : Nat, i = .int .i64 j ∧ j ≤ k ∧ Hid (wr.ownsRow w.heap.size 99 2 v j (flat (l.take j)) ∧ Below w.heap.size w wr)) (fun _ i _ => k - (intOf i).toNat)
          case atStart => exact ⟨0, rfl, Nat.zero_le _, World.ownsRow_nil _ _ _ _, Below.refl _ _⟩
          case round =>
            obtain ⟨j, rfl, hj, HJ⟩ := hrel
            by_cases hjk : j < k
            · have hjl : j < l.length := by rw [Hn.out]; omega
              obtain ⟨b', off', e, hc0, hc1⟩ := (H.out.below HJ.out.2).at hjl
              cases e
              have htk : l.take (j + 1) = l.take j ++ [l.getD j (0, 0)] := by
                rw [List.take_add_one, List.getElem?_eq_getElem hjl, List.getD_eq_getElem?_getD, List.getElem?_eq_getElem hjl]
                rfl
              obtain ⟨q, hq⟩ : ∃ q, l.getD j (0, 0) = q := ⟨_, rfl⟩
              obtain ⟨q1, q2⟩ := q
              rw [hq] at hc0 hc1 htk
              simp only at hc0 hc1
              have Htk := Lib.hid htk
              have hjn : j < n := by omega
              have HA : Hid (w.heap.size ≤ (wr.alloc (.cells #[.int .i64 q1, .int .i64 q2] 99)).heap.size) := by
                have h1 := HJ.out.2.size
                show _ ≤ (World.alloc _ _).heap.size
                simp
                omega
              clear htk hq hjl
              go_wp2_with (first
                | (at_builtin; refine wpList_append_own _ rfl _ _ 76 rfl w.heap.size 99 i0 (.agg #[.int .i64 0, .int .i64 0]) 2 16 Try.underlying76 hi hz0 hz1 hz2 rfl (by decide) u8 j (flat (l.take j)) rfl (HJ.out.1.alloc _) ⟨wr.heap.size, 0, none⟩ 1 1 [.int .i64 q1, .int .i64 q2] rfl rfl (news_new wr #[.int .i64 q1, .int .i64 q2] 99) (flat_one [(q1, q2)]) (by unfold maxLen; omega) (by omega) HA.out ?_)
                | go_in)
              intro v5 w5 hown5 hgrow5 hnil5
              have HJ5 : Hid (w5.ownsRow w.heap.size 99 2 v5 (j + 1) (flat (l.take (j + 1))) ∧ Below w.heap.size w w5) := by
                refine ⟨?_, (HJ.out.2.alloc HJ.out.2.size _).grown hgrow5 HA.out (fun k hk => (HJ.out.1.lt k hk).1)⟩
                rw [Htk.out, flat_snoc]
                exact hown5
              clear hown5 hgrow5 hnil5
              go_wp2
              go_roundw
              case rel => exact ⟨j + 1, by go_num, by omega, HJ5.out⟩
              case measure => simp [intOf]; omega
            · have hjk' : j = k := by omega
              subst hjk'
              have HA : Hid (w.heap.size ≤ (wr.alloc (.cells #[.int .i64 x, .int .i64 y] 99)).heap.size) := by
                have h1 := HJ.out.2.size
                show _ ≤ (World.alloc _ _).heap.size
                simp
                omega
              clear hj hjk
              go_wp2_with (first
                | (at_builtin; refine wpList_append_own _ rfl _ _ 76 rfl w.heap.size 99 i0 (.agg #[.int .i64 0, .int .i64 0]) 2 16 Try.underlying76 hi hz0 hz1 hz2 rfl (by decide) u8 j (flat (l.take j)) rfl (HJ.out.1.alloc _) ⟨wr.heap.size, 0, none⟩ 1 1 [.int .i64 x, .int .i64 y] rfl rfl (news_new wr #[.int .i64 x, .int .i64 y] 99) (flat_one [(x, y)]) (by unfold maxLen; omega) (by omega) HA.out ?_)
                | go_in)
              intro v5 w5 hown5 hgrow5 hnil5
              have HJ5 : Hid (w5.ownsRow w.heap.size 99 2 v5 (j + 1) (flat (l.take j ++ (x, y) :: (l.drop j).take 0)) ∧ Below w.heap.size w w5) := by
                refine ⟨?_, (HJ.out.2.alloc HJ.out.2.size _).grown hgrow5 HA.out (fun k hk => (HJ.out.1.lt k hk).1)⟩
                rw [List.take_zero, flat_snoc]
                exact hown5
              clear hown5 hgrow5 hnil5 HA
              go_wp2
              try go_frame
              go_loopw [8, 10] (fun v i wr => ∃ d : Nat, i = .int .i64 ((j + d : Nat) : Int) ∧ j + d ≤ n ∧ Hid (wr.ownsRow w.heap.size 99 2 v (j + d + 1) (flat (l.take j ++ (x, y) :: (l.drop j).take d)) ∧ Below w.heap.size w wr)) (fun _ i _ => n - (intOf i).toNat)
              case atStart => exact ⟨0, rfl, by omega, HJ5.out⟩
              case round =>
                obtain ⟨d, rfl, hd, HD⟩ := hrel
                obtain ⟨i, hi'⟩ : ∃ i, j + d = i := ⟨_, rfl⟩
                rw [hi'] at HD hd ⊢
                have Hi := Lib.hid hi'
                clear hi'
                by_cases hin : i < n
                · have hjl : i < l.length := by rw [Hn.out]; omega
                  obtain ⟨b', off', e, hc0, hc1⟩ := (H.out.below HD.out.2).at hjl
                  cases e
                  have htk : (l.drop j).take (d + 1) = (l.drop j).take d ++ [l.getD i (0, 0)] := by
                    rw [List.take_add_one, List.getElem?_drop, Hi.out, List.getElem?_eq_getElem hjl, List.getD_eq_getElem?_getD, List.getElem?_eq_getElem hjl]
                    rfl
                  obtain ⟨q, hq⟩ : ∃ q, l.getD i (0, 0) = q := ⟨_, rfl⟩
                  obtain ⟨q1, q2⟩ := q
                  rw [hq] at hc0 hc1 htk
                  simp only at hc0 hc1
                  have Htk := Lib.hid htk
                  have HA : Hid (w.heap.size ≤ (wr.alloc (.cells #[.int .i64 q1, .int .i64 q2] 99)).heap.size) := by
                    have h1 := HD.out.2.size
                    show _ ≤ (World.alloc _ _).heap.size
                    simp
                    omega
                  clear htk hq hjl
                  go_wp2_with (first
                    | (at_builtin; refine wpList_append_own _ rfl _ _ 76 rfl w.heap.size 99 i0 (.agg #[.int .i64 0, .int .i64 0]) 2 16 Try.underlying76 hi hz0 hz1 hz2 rfl (by decide) u8 (i + 1) (flat (l.take j ++ (x, y) :: (l.drop j).take d)) rfl (HD.out.1.alloc _) ⟨wr.heap.size, 0, none⟩ 1 1 [.int .i64 q1, .int .i64 q2] rfl rfl (news_new wr #[.int .i64 q1, .int .i64 q2] 99) (flat_one [(q1, q2)]) (by unfold maxLen; omega) (by omega) HA.out ?_)
                    | go_in)
                  intro v5 w5 hown5 hgrow5 hnil5
                  have HJ6 : Hid (w5.ownsRow w.heap.size 99 2 v5 (j + (d + 1) + 1) (flat (l.take j ++ (x, y) :: (l.drop j).take (d + 1))) ∧ Below w.heap.size w w5) := by
                    refine ⟨?_, (HD.out.2.alloc HD.out.2.size _).grown hgrow5 HA.out (fun k hk => (HD.out.1.lt k hk).1)⟩
                    have e3 : l.take j ++ (x, y) :: ((l.drop j).take d ++ [(q1, q2)]) = (l.take j ++ (x, y) :: (l.drop j).take d) ++ [(q1, q2)] := by simp
                    rw [Htk.out, e3, flat_snoc, ← Nat.add_assoc, Hi.out]
                    exact hown5
                  clear hown5 hgrow5 hnil5
                  go_wp2
                  go_roundw
                  case rel => exact ⟨d + 1, by rw [← Nat.add_assoc, Hi.out]; go_num, by have := Hi.out; omega, HJ6.out⟩
                  case measure => simp [intOf]; omega
                · have hin' : i = n := by omega
                  have HR : Hid (wr.ownsRow w.heap.size 99 2 u8 (n + 1) (flat R)) := by
                    have h1 := HD.out.1
                    have h2 : (l.drop j).take d = l.drop j := List.take_of_length_le (by have := Hi.out; have := Hn.out; simp; omega)
                    rw [h2, hin'] at h1
                    have h3 := He1.out
                    rw [Hm.out] at h3
                    show World.ownsRow _ _ _ _ _ _ _
                    rw [h3]
                    exact h1
                  obtain ⟨a', c', rfl, hRl, hsl⟩ := row_slP HR.out
                  have Hsl := Lib.hid hsl
                  have HRl := Lib.hid hRl
                  clear hsl hRl hin hd
                  go_wp2
                  go_ret
                  exact ⟨a', c', by rw [HRl.out]; rfl, Hsl.out, HD.out.2⟩

set_option maxHeartbeats 2000000 in
set_option maxRecDepth 100000 in
theorem behind9_any (a : Option Addr) (c : Nat) (l : List Pr) (x : Int) (hn : l.length ≤ 100000) (w : World) (h : SlP w a l) :
    Calls Try.prog 46 #[.slice a l.length c, .int .i64 x] w fun e w' => ∃ a' c', e = .returned (.slice a' (behindI l x).length c') ∧ Hid (SlI w' a' (behindI l x) ∧ Below w.heap.size w w') := by
  obtain ⟨n, hnn⟩ : ∃ n, l.length = n := ⟨_, rfl⟩
  rw [hnn] at hn ⊢
  have H := Lib.hid h
  have Hn := Lib.hid hnn
  clear h hnn
  go_enter Try.func46, Try.ntmps46
  go_wp2
  go_loopw [5, 6] (fun v i wr => ∃ (k : Nat) (a5 : Option Addr) (c5 : Nat) (O : List Int), i = .int .i64 k ∧ v = .slice a5 O.length c5 ∧ k ≤ n ∧ Hid (O = behindI (l.take k) x ∧ SlI wr a5 O ∧ Below w.heap.size w wr)) (fun _ i _ => n - (intOf i).toNat)
  case atStart => exact ⟨0, none, 0, [], rfl, rfl, Nat.zero_le _, rfl, .inl rfl, Below.refl _ _⟩
  case round =>
    obtain ⟨k, a5, c5, O, rfl, rfl, hk, HR⟩ := hrel
    by_cases hlt : k < n
    · have hkl : k < l.length := by rw [Hn.out]; exact hlt
      obtain ⟨b', off', rfl, hc0, hc1⟩ := (H.out.below HR.out.2.2).at hkl
      have htk : l.take (k + 1) = l.take k ++ [l.getD k (0, 0)] := by
        rw [List.take_add_one, List.getElem?_eq_getElem hkl, List.getD_eq_getElem?_getD, List.getElem?_eq_getElem hkl]
        rfl
      have hol : O.length ≤ 100000 := by
        rw [HR.out.1]
        have h1 := behindI_len (l.take k) x
        rw [List.length_take] at h1
        omega
      have Hput := Lib.hid (puti_any a5 c5 O (l.getD k (0, 0)).2 hol wr HR.out.2.1)
      obtain ⟨q, hq⟩ : ∃ q, l.getD k (0, 0) = q := ⟨_, rfl⟩
      obtain ⟨q1, q2⟩ := q
      rw [hq] at hc0 hc1 htk Hput
      simp only at hc0 hc1 Hput
      have Htk := Lib.hid htk
      by_cases hqx : q1 = x
      · have e1 : (q1 == x) = true := by simpa using hqx
        have HO : Hid (behindI (l.take (k + 1)) x = putI O q2) := by
          show _ = _
          rw [Htk.out, behindI_snoc, HR.out.1]
          simp [hqx]
        clear htk hkl hq hol hqx
        go_wp2_with (first
          | (go_at_call 42; refine Hput.out.mono ?_; rintro e w5 ⟨a7, c7, rfl, h5⟩)
          | go_in)
        have HB : Hid (Below w.heap.size w w5) := HR.out.2.2.trans (h5.out.2.mono HR.out.2.2.size)
        go_wp2
        go_roundw
        case rel => exact ⟨k + 1, a7, c7, _, by go_num, rfl, by omega, HO.out.symm, h5.out.1, HB.out⟩
        case measure => simp [intOf]; omega
      · have e1 : (q1 == x) = false := by simpa using hqx
        have HO : Hid (behindI (l.take (k + 1)) x = O) := by
          show _ = _
          rw [Htk.out, behindI_snoc, HR.out.1]
          simp [hqx]
        clear htk hkl hq hol hqx Hput
        go_wp2
        go_roundw
        case rel => exact ⟨k + 1, a5, c5, _, by go_num, rfl, by omega, HO.out.symm, HR.out.2.1, HR.out.2.2⟩
        case measure => simp [intOf]; omega
    · have hkn : k = n := by omega
      have HO : Hid (O = behindI l x) := by
        have h2 := HR.out.1
        rw [hkn, ← Hn.out, List.take_length] at h2
        exact h2
      subst hkn
      clear hlt hk
      go_wp2
      go_ret
      exact ⟨a5, c5, by rw [← HO.out]; rfl, HO.out ▸ HR.out.2.1, HR.out.2.2⟩

end Go.Proofs.Ythgkloapnihpaaa
