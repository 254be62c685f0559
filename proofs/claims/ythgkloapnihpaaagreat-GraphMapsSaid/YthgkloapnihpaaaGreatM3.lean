/- Helpers, joined: Go, Gp, Gq, Da, Db, Dc, Dd, Dg, Sk. -/
import Derived.Test.YthgkloapnihpaaaGreatM1
import Derived.Test.YthgkloapnihpaaaGreatM2
import Derived.Deep.AppendLies
import Derived.Shelf.SlLaysZ
import Derived.Shelf.Lays
import Derived.Test.YthgkloapnihpaaaGreatProg

/- Graphs: Edges, by a contract. -/
namespace Go.Proofs.YthgkloapnihpaaaGreat
open Go.RowKit Go.Maps Go.WideMaps Go.WideElems Go.ChangeShapes Go.WideShapes

/-- The cells of edges. -/
def edRow (E : List Ed) : List Value := E.flatMap fun e => [iv e.1, iv e.2.1, iv e.2.2]
theorem edRow_snoc (E : List Ed) (e : Ed) : edRow (E ++ [e]) = edRow E ++ [iv e.1, iv e.2.1, iv e.2.2] := by simp [edRow]
theorem elem57 : (Tryz.prog.info? 57).map (fun i => (i.zero, i.size, i.bytes)) = some (some (.agg #[.int .i64 0, .int .i64 0, .int .i64 0]), 3, 24) := by kernel_rfl
theorem row_form {W : World} {B e : Nat} {v : Value} {l : List Int} (h : W.ownsRow B e 1 v l.length (l.map (Value.int .i64))) : ∃ a c, v = .slice a l.length c ∧ ∀ k, k < l.length → ∃ q, a = some ⟨q, 0, none⟩ ∧ W.cell? ⟨q, k, none⟩ = some (iv (l.getD k 0)) := by
  rcases h.2 with ⟨rfl, h0⟩ | ⟨g, cap, cur, rfl, hb, hg, r⟩
  · exact ⟨none, 0, by rw [h0], fun k hk => by omega⟩
  · refine ⟨_, cap, rfl, fun k hk => ⟨g, rfl, ?_⟩⟩
    rw [h.cellAt k (by omega)]
    simp [hk]
/-- A row of numbers beside a row of edges that grows. -/
theorem ints_other {W U : World} {B B' n : Nat} {v v' : Value} {xs ys : List Value} {m : Nat} (h : W.ownsRow B 3 1 v n xs) (h' : W.ownsRow B' 57 3 v' m ys) (hg : W.grownBy U v'.ownBlock) : U.ownsRow B 3 1 v n xs := by
  refine h.kept hg ?_
  cases hv : v.ownBlock with
  | none => exact .inl rfl
  | some q =>
    right
    intro e
    rcases h.2 with ⟨rfl, _⟩ | ⟨g, cap, cur, rfl, _, hg1, _⟩
    · simp [Value.ownBlock] at hv
    · rcases h'.2 with ⟨rfl, _⟩ | ⟨g', cap', cur', rfl, _, hg2, _⟩
      · simp [Value.ownBlock] at e
      · have e1 : g = q := by simpa [Value.ownBlock] using hv
        have e2 : q = g' := by simpa [Value.ownBlock] using e
        rw [e1, e2, hg2] at hg1
        cases hg1
theorem take_getD {l : List Int} {k : Nat} (h : k < l.length) : l.take (k + 1) = l.take k ++ [l.getD k 0] := by
  rw [List.take_add_one, List.getElem?_eq_getElem h, List.getD_eq_getElem?_getD, List.getElem?_eq_getElem h]
  rfl
theorem row_at {W : World} {B e n c : Nat} {a : Option Addr} {l : List Int} (h : W.ownsRow B e 1 (.slice a n c) l.length (l.map (Value.int .i64))) {k : Nat} (hk : k < l.length) : ∃ q, a = some ⟨q, 0, none⟩ ∧ W.cell? ⟨q, k, none⟩ = some (iv (l.getD k 0)) := by
  obtain ⟨a', c', e1, r⟩ := row_form h
  injection e1 with e1 e2 e3
  rw [e1]
  exact r k hk
/-- The edges so far: of the first nodes, of the first that the next one leads to, of the first kinds. -/
def edUp (N : List Int) (E : List Ed) (i j k : Nat) : List Ed := (N.take i).flatMap (edA N E) ++ ((outsE N E (N.getD i 0)).take j).flatMap (edAB E (N.getD i 0)) ++ ((kindsE E (N.getD i 0) ((outsE N E (N.getD i 0)).getD j 0)).take k).map fun q => (N.getD i 0, (outsE N E (N.getD i 0)).getD j 0, q)
theorem edUp_kind {N : List Int} {E : List Ed} {i j k : Nat} (h : k < (kindsE E (N.getD i 0) ((outsE N E (N.getD i 0)).getD j 0)).length) : edUp N E i j (k + 1) = edUp N E i j k ++ [(N.getD i 0, (outsE N E (N.getD i 0)).getD j 0, (kindsE E (N.getD i 0) ((outsE N E (N.getD i 0)).getD j 0)).getD k 0)] := by
  unfold edUp
  rw [take_getD h, List.map_append, ← List.append_assoc]
  rfl
theorem edUp_out {N : List Int} {E : List Ed} {i j : Nat} (h : j < (outsE N E (N.getD i 0)).length) : edUp N E i (j + 1) 0 = edUp N E i j (kindsE E (N.getD i 0) ((outsE N E (N.getD i 0)).getD j 0)).length := by
  unfold edUp
  rw [take_getD h, List.flatMap_append, List.take_length, List.take_zero, List.map_nil, List.append_nil, List.append_assoc]
  simp [edAB]
theorem edUp_node {N : List Int} {E : List Ed} {i : Nat} (h : i < N.length) : edUp N E (i + 1) 0 0 = edUp N E i (outsE N E (N.getD i 0)).length 0 := by
  unfold edUp
  rw [take_getD h, List.flatMap_append]
  simp [edA]
theorem edUp_zero (N : List Int) (E : List Ed) : edUp N E 0 0 0 = [] := by simp [edUp]
theorem edUp_all {N : List Int} {E : List Ed} : edUp N E N.length 0 0 = edAll N E := by simp [edUp, edAll]
end Go.Proofs.YthgkloapnihpaaaGreat

/- Graphs: the walk of Edges. -/
namespace Go.Proofs.YthgkloapnihpaaaGreat
open Go.RowKit Go.Maps Go.WideMaps Go.WideElems Go.ChangeShapes Go.WideShapes

theorem ed_news (w : World) (p0 p1 p2 : Value) (t : TypeId) : ∀ j u, [p0, p1, p2][j]? = some u → (w.alloc (.cells #[p0, p1, p2] t)).cell? ((⟨w.heap.size, 0, none⟩ : Addr).add j) = some u := World.news_of_block (World.alloc_heap_new w _)
theorem row_kept {W V : World} {B e s n : Nat} {v : Value} {xs : List Value} (h : W.ownsRow B e s v n xs) (hb : Below W.heap.size W V) : V.ownsRow B e s v n xs := h.kept (grown_below hb) (by cases v.ownBlock <;> simp)
theorem row_sl {W : World} {B e s n : Nat} {v : Value} {xs : List Value} (h : W.ownsRow B e s v n xs) : ∃ a c, v = .slice a n c := by
  rcases h.2 with ⟨rfl, rfl⟩ | ⟨g, cap, cur, rfl, r⟩
  · exact ⟨_, _, rfl⟩
  · exact ⟨_, _, rfl⟩
set_option maxHeartbeats 64000000 in
set_option maxRecDepth 100000 in
theorem edges_any {Z : Nat → Prop} {B g c : Nat} {N : List Int} {E : List Ed} (hc : c ≤ 100000) (hE : E.length ≤ 1000) (hNl : N.length ≤ 1000) (hfit : ∀ a ∈ N, fit64 a) (hup : ∀ i j k, (edUp N E i j k).length ≤ 100000) (w : World) (h : GrAt Z B g c N E w) :
    Calls Tryz.prog 22 #[.pointer (some ⟨g, 0, none⟩)] w fun e w' => ∃ v, e = .returned v ∧ Hid (w'.ownsRow w.heap.size 57 3 v (edAll N E).length (edRow (edAll N E)) ∧ Below w.heap.size w w') := by
  obtain ⟨i0, hi, hz0, hz1, hz2⟩ := info_parts elem57
  have HN := Lib.hid (nodes_any hc w h)
  have HG := Lib.hid h
  have Hfit := Lib.hid hfit
  have Hup := Lib.hid hup
  have Hc : Hid (c ≤ 100000) := hc
  have HE : Hid (E.length ≤ 1000) := hE
  have hNI : (N.length : Int) ≤ 1000 := by omega
  have Hmem : Hid (∀ i, i < N.length → N.getD i 0 ∈ N) := fun i hi => by
    rw [List.getD_eq_getElem?_getD, List.getElem?_eq_getElem hi]
    exact List.getElem_mem hi
  have HmemO : Hid (∀ a j, j < (outsE N E a).length → (outsE N E a).getD j 0 ∈ N) := fun a j hj => by
    rw [List.getD_eq_getElem?_getD, List.getElem?_eq_getElem hj]
    exact (List.mem_filter.1 (List.getElem_mem hj)).1
  have HOl : Hid (∀ a, (outsE N E a).length ≤ N.length) := fun a => List.length_filter_le _ _
  obtain ⟨n, hn⟩ : ∃ n, N.length = n := ⟨_, rfl⟩
  have Hn := Lib.hid hn
  clear h hc hE hNl hfit hup
  rw [hn] at hNI
  clear hn
  go_enter Tryz.func22, Tryz.ntmps22
  go_wp2_with (first
    | (go_at_call 21; (with_reducible refine HN.out.mono ?_); rintro e w1 ⟨v1, rfl, K1⟩
       obtain ⟨a1, c1, rfl, r1⟩ := row_form K1.out.1
       rw [Hn.out]))
  have HR1 := Lib.hid K1.out.1
  have HB1 := Lib.hid K1.out.2
  have HG1 := Lib.hid (HG.out.below K1.out.2)
  obtain ⟨ob, DO, F, DI, f, hgi, -⟩ := HG1.out
  have HGi := Lib.hid hgi
  clear hgi
  have H0 : Hid (w1.ownsRow w1.heap.size 57 3 (.slice none 0 0) (edUp N E 0 0 0).length (edRow (edUp N E 0 0 0)) ∧ Below w1.heap.size w1 w1) := ⟨by rw [edUp_zero]; exact World.ownsRow_nil _ _ _ _, Below.refl _ _⟩
  clear K1 r1
  go_loopw [3, 13] (fun lv i wr => ∃ q : Nat, q ≤ n ∧ i = .int .i64 ((q : Nat) : Int) ∧ Hid (wr.ownsRow w1.heap.size 57 3 lv (edUp N E q 0 0).length (edRow (edUp N E q 0 0)) ∧ Below w1.heap.size w1 wr)) (fun _ i _ => n - (intOf i).toNat)
  case atStart => exact ⟨0, Nat.zero_le _, rfl, H0.out⟩
  case round =>
    obtain ⟨q, hq, rfl, HL⟩ := hrel
    obtain ⟨wa, hwa⟩ : ∃ wa, wa = wr := ⟨_, rfl⟩
    subst hwa
    by_cases hlt : q < n
    · have HRw := Lib.hid (row_kept HR1.out HL.out.2)
      obtain ⟨b1, rfl, x1⟩ := row_at HRw.out (k := q) (by rw [Hn.out]; exact hlt)
      have hAN := Hmem.out q (by rw [Hn.out]; exact hlt)
      obtain ⟨A, hA⟩ : ∃ A, N.getD q 0 = A := ⟨_, rfl⟩
      rw [hA] at x1 hAN
      have HA := Lib.hid hA
      have HAN := Lib.hid hAN
      have HfA := Lib.hid (Hfit.out A hAN)
      have HOut := Lib.hid (out_any A HfA.out Hc.out wa (HG1.out.below HL.out.2))
      have hltI : (q : Int) < (n : Int) := by omega
      obtain ⟨m, hm⟩ : ∃ m, (outsE N E A).length = m := ⟨_, rfl⟩
      have Hm := Lib.hid hm
      have hmI : (m : Int) ≤ 1000 := by have h1 := HOl.out A; have h2 := Hn.out; omega
      clear hA hAN hm
      go_wp2_with (first
        | (go_at_call 36; (with_reducible refine HOut.out.mono ?_); rintro e w2 ⟨v2, rfl, K2⟩
           obtain ⟨a2, c2, rfl⟩ := row_sl K2.out.1
           rw [Hm.out]))
      have HI0 : Hid (w2.ownsRow w1.heap.size 57 3 u3 (edUp N E q 0 0).length (edRow (edUp N E q 0 0)) ∧ w2.ownsRow wa.heap.size 3 1 (.slice a2 m c2) (outsE N E A).length ((outsE N E A).map (Value.int .i64)) ∧ Below w1.heap.size w1 w2) := ⟨row_kept HL.out.1 K2.out.2, by have := K2.out.1; rw [Hm.out] at this ⊢; exact this, stepB HL.out.2 K2.out.2⟩
      clear K2 x1
      go_loopw [3, 21] (fun lv i wr2 => ∃ j : Nat, j ≤ m ∧ i = .int .i64 ((j : Nat) : Int) ∧ Hid (wr2.ownsRow w1.heap.size 57 3 lv (edUp N E q j 0).length (edRow (edUp N E q j 0)) ∧ wr2.ownsRow wa.heap.size 3 1 (.slice a2 m c2) (outsE N E A).length ((outsE N E A).map (Value.int .i64)) ∧ Below w1.heap.size w1 wr2)) (fun _ i _ => m - (intOf i).toNat)
      case atStart => exact ⟨0, Nat.zero_le _, rfl, HI0.out⟩
      case round =>
        obtain ⟨j, hj, rfl, HJ⟩ := hrel
        obtain ⟨wb, hwb⟩ : ∃ wb, wb = wr := ⟨_, rfl⟩
        subst hwb
        by_cases hlt2 : j < m
        · obtain ⟨b2, rfl, x2⟩ := row_at HJ.out.2.1 (k := j) (by rw [Hm.out]; exact hlt2)
          have hBN := HmemO.out A j (by rw [Hm.out]; exact hlt2)
          obtain ⟨D, hD⟩ : ∃ D, (outsE N E A).getD j 0 = D := ⟨_, rfl⟩
          rw [hD] at x2 hBN
          have HDe := Lib.hid hD
          have HfD := Lib.hid (Hfit.out D hBN)
          have hG := HGi.out.kept (grown_below HJ.out.2.2) (fun k e => by cases e)
          have c0 := hG.box.cell
          have l1 := look_as hG.dom Tryz.underlying71 (zero65 wb) HfA.out ((hG.atO A HfA.out).trans (by rw [if_pos HAN.out]))
          have l2 := look_as (hG.domI A HAN.out) Tryz.underlying74 (zero23 wb) HfD.out (hG.atI A HAN.out D HfD.out)
          have ho := (hG.row A HAN.out D HfD.out).1
          obtain ⟨kn, hkn⟩ : ∃ kn, (kindsE E A D).length = kn := ⟨_, rfl⟩
          rw [hkn] at ho
          have Hkn := Lib.hid hkn
          obtain ⟨a3, c3, hv3⟩ := row_sl ho
          rw [hv3] at l2
          have Hv3 := Lib.hid hv3
          have hltI2 : (j : Int) < (m : Int) := by omega
          have hkI : (kn : Int) ≤ 1000 := by have h1 := kinds_len E A D; have h2 := HE.out; omega
          have HK0 : Hid (wb.ownsRow w1.heap.size 57 3 u3 (edUp N E q j 0).length (edRow (edUp N E q j 0)) ∧ wb.ownsRow wa.heap.size 3 1 (.slice (some ⟨b2, 0, none⟩) m c2) (outsE N E A).length ((outsE N E A).map (Value.int .i64)) ∧ Below w1.heap.size w1 wb) := HJ.out
          clear hG ho hkn hv3 hD hBN
          go_wp2_with fail
          clear c0 l1 l2 x2
          go_loopw [3, 34] (fun lv i wr3 => ∃ k : Nat, k ≤ kn ∧ i = .int .i64 ((k : Nat) : Int) ∧ Hid (wr3.ownsRow w1.heap.size 57 3 lv (edUp N E q j k).length (edRow (edUp N E q j k)) ∧ wr3.ownsRow wa.heap.size 3 1 (.slice (some ⟨b2, 0, none⟩) m c2) (outsE N E A).length ((outsE N E A).map (Value.int .i64)) ∧ Below w1.heap.size w1 wr3)) (fun _ i _ => kn - (intOf i).toNat)
          case atStart => exact ⟨0, Nat.zero_le _, rfl, HK0.out⟩
          case round =>
            obtain ⟨k, hk, rfl, HK⟩ := hrel
            obtain ⟨wc, hwc⟩ : ∃ wc, wc = wr := ⟨_, rfl⟩
            subst hwc
            by_cases hlt3 : k < kn
            · have hG := HGi.out.kept (grown_below HK.out.2.2) (fun k e => by cases e)
              have ho := (hG.row A HAN.out D HfD.out).1
              rw [Hv3.out] at ho
              obtain ⟨b3, rfl, x3⟩ := row_at ho (k := k) (by rw [Hkn.out]; exact hlt3)
              have hltI3 : (k : Int) < (kn : Int) := by omega
              have Hk2 := Lib.hid (edUp_kind (N := N) (E := E) (i := q) (j := j) (k := k) (by rw [HA.out, HDe.out, Hkn.out]; exact hlt3))
              rw [HA.out, HDe.out] at Hk2
              generalize (kindsE E A D).getD k 0 = y at *
              have Hlen := Lib.hid (Hup.out q j k)
              clear hG ho
              go_wp2_with (first
                | (at_builtin; refine wpList_append_own _ rfl _ _ 55 rfl w1.heap.size 57 i0 (.agg #[.int .i64 0, .int .i64 0, .int .i64 0]) 3 24 Tryz.underlying55 hi hz0 hz1 hz2 rfl (by decide) _ _ _ rfl (HK.out.1.alloc _) ⟨wc.heap.size, 0, none⟩ 1 1 [iv A, iv D, iv y] rfl rfl (ed_news _ _ _ _ _) (by intro u hu; simp only [List.mem_cons, List.not_mem_nil, or_false] at hu; rcases hu with rfl | rfl | rfl <;> rfl) (by unfold maxLen; have := Hlen.out; omega) (by have := Hlen.out; omega) (by show _ ≤ _; simp; exact Nat.le_trans HK.out.2.2.size (Nat.le_succ _)) ?_))
              intro v' w9 hown hgrow hnil
              have HO9 := Lib.hid (ints_other (HK.out.2.1.alloc (.cells #[iv A, iv D, iv y] 57)) (HK.out.1.alloc (.cells #[iv A, iv D, iv y] 57)) hgrow)
              have HB9 : Hid (Below w1.heap.size w1 w9) := (HK.out.2.2.alloc HK.out.2.2.size _).grown hgrow (by simp; exact Nat.le_trans HK.out.2.2.size (Nat.le_succ _)) (fun r e => (World.ownsRow.lt (HK.out.1.alloc (.cells #[iv A, iv D, iv y] 57)) r e).1)
              have HW9 : Hid (w9.ownsRow w1.heap.size 57 3 v' (edUp N E q j (k + 1)).length (edRow (edUp N E q j (k + 1)))) := by
                show World.ownsRow _ _ _ _ _ _ _
                rw [Hk2.out, List.length_append, edRow_snoc]
                exact hown
              clear hown hgrow hnil
              go_wp2_with fail
              go_roundw
              case rel => exact ⟨k + 1, by omega, by go_num, HW9.out, HO9.out, HB9.out⟩
              case measure => simp [intOf]; omega
            · have hkk : k = kn := by omega
              have Hk2 := Lib.hid (edUp_out (N := N) (E := E) (i := q) (j := j) (by rw [HA.out, Hm.out]; exact hlt2))
              rw [HA.out, HDe.out, Hkn.out] at Hk2
              subst hkk
              have HN2 : Hid (wc.ownsRow w1.heap.size 57 3 u3 (edUp N E q (j + 1) 0).length (edRow (edUp N E q (j + 1) 0))) := by
                show World.ownsRow _ _ _ _ _ _ _
                rw [Hk2.out]
                exact HK.out.1
              go_wp2_with fail
              go_roundw
              case rel => exact ⟨j + 1, by omega, by go_num, HN2.out, HK.out.2⟩
              case measure => simp [intOf]; omega
        · have hjm : j = m := by omega
          have Hj2 := Lib.hid (edUp_node (N := N) (E := E) (i := q) (by rw [Hn.out]; exact hlt))
          rw [HA.out, Hm.out] at Hj2
          subst hjm
          have HN2 : Hid (wb.ownsRow w1.heap.size 57 3 u3 (edUp N E (q + 1) 0 0).length (edRow (edUp N E (q + 1) 0 0))) := by
            show World.ownsRow _ _ _ _ _ _ _
            rw [Hj2.out]
            exact HJ.out.1
          go_wp2_with fail
          go_roundw
          case rel => exact ⟨q + 1, by omega, by go_num, HN2.out, HJ.out.2.2⟩
          case measure => simp [intOf]; omega
    · have hqn : q = N.length := by have := Hn.out; omega
      subst hqn
      go_wp2_with fail
      go_ret
      have h1 := HL.out.1
      rw [edUp_all] at h1
      exact ⟨_, rfl, ⟨h1.1, h1.2.imp id fun ⟨r, cap, cur, e, hr, x⟩ => ⟨r, cap, cur, e, Nat.le_trans HB1.out.size hr, x⟩⟩, stepB HB1.out HL.out.2⟩
end Go.Proofs.YthgkloapnihpaaaGreat

/- Graphs, plainly: how many edges so far. -/
namespace Go.Proofs.YthgkloapnihpaaaGreat

theorem flat_take_len {f : Int → List Ed} (l : List Int) (i : Nat) : ((l.take i).flatMap f).length ≤ (l.flatMap f).length := by
  conv => rhs; rw [← List.take_append_drop i l, List.flatMap_append, List.length_append]
  omega
theorem edA_len {N : List Int} {E : List Ed} (hN : RiseI N) (hE : RiseE E) (hin : EndsIn N E) (a : Int) : (edA N E a).length ≤ E.length := by
  by_cases ha : a ∈ N
  · obtain ⟨l1, l2, rfl⟩ := List.append_of_mem ha
    have h := congrArg List.length (edAll_eq hN hE hin)
    unfold edAll at h
    rw [List.flatMap_append, List.flatMap_cons, List.length_append, List.length_append] at h
    omega
  · unfold edA
    rw [outsE_none hin ha]
    simp
theorem edUp_bound {N : List Int} {E : List Ed} (hN : RiseI N) (hE : RiseE E) (hin : EndsIn N E) (i j k : Nat) : (edUp N E i j k).length ≤ 3 * E.length := by
  unfold edUp
  rw [List.length_append, List.length_append, List.length_map]
  have h1 := flat_take_len (f := edA N E) N i
  have h2 := congrArg List.length (edAll_eq hN hE hin)
  replace h2 : (N.flatMap (edA N E)).length = E.length := h2
  have h3 := flat_take_len (f := edAB E (N.getD i 0)) (outsE N E (N.getD i 0)) j
  have h4 := edA_len hN hE hin (N.getD i 0)
  replace h4 : ((outsE N E (N.getD i 0)).flatMap (edAB E (N.getD i 0))).length ≤ E.length := h4
  have h5 := kinds_len E (N.getD i 0) ((outsE N E (N.getD i 0)).getD j 0)
  have h7 : ((kindsE E (N.getD i 0) ((outsE N E (N.getD i 0)).getD j 0)).take k).length ≤ (kindsE E (N.getD i 0) ((outsE N E (N.getD i 0)).getD j 0)).length := by rw [List.length_take]; omega
  omega
set_option maxRecDepth 100000 in
/-- Edges. -/
theorem edges_at {Z : Nat → Prop} {B g c : Nat} {N : List Int} {E : List Ed} (hc : c ≤ 100000) (hE : E.length ≤ 1000) (hNl : N.length ≤ 1000) (w : World) (h : GrAt Z B g c N E w) :
    Calls Tryz.prog 22 #[.pointer (some ⟨g, 0, none⟩)] w fun e w' => ∃ v, e = .returned v ∧ Go.RowKit.Hid (w'.ownsRow w.heap.size 57 3 v E.length (edRow E) ∧ Go.RowKit.Below w.heap.size w w') := by
  obtain ⟨ob, DO, F, DI, f, hg, hz⟩ := h
  have he := edAll_eq hg.nodes hg.edges hg.ends
  have := edges_any hc hE hNl (fun a ha => hg.dom.fit a ha) (fun i j k => by have := edUp_bound hg.nodes hg.edges hg.ends i j k; omega) w ⟨ob, DO, F, DI, f, hg, hz⟩
  rw [he] at this
  exact this
end Go.Proofs.YthgkloapnihpaaaGreat

/- The document's lists of numbers: a number laid in, the same list; by contracts. -/
namespace Go.Proofs.YthgkloapnihpaaaGreat
open Go.RowKit Go.Maps Go.WideMaps Go.WideElems Go.ChangeShapes Go.WideShapes
theorem news_new (w : World) (cs : Array Value) (t : TypeId) : ∀ j u, cs.toList[j]? = some u → (w.alloc (.cells cs t)).cell? ((⟨w.heap.size, 0, none⟩ : Addr).add j) = some u := World.news_of_block (World.alloc_heap_new w _)

/-- A slice of numbers that can be read. -/
def SlI (W : World) (a : Option Addr) (l : List Int) : Prop := l = [] ∨ ∃ b off, a = some ⟨b, off, none⟩ ∧ (l ≠ [] → b < W.heap.size) ∧ ∀ (k : Nat) (x : Int), l[k]? = some x → W.cell? ⟨b, off + k, none⟩ = some (.int .i64 x)

theorem SlI.below {W W' : World} {a : Option Addr} {l : List Int} (h : SlI W a l) (hb : W.grownBy W' none) : SlI W' a l := by
  rcases h with h | ⟨b, off, e, hl, h⟩
  · exact .inl h
  · refine .inr ⟨b, off, e, fun hx => Nat.lt_of_lt_of_le (hl hx) hb.size, fun k x hk => ?_⟩
    exact hb.cell (h k x hk) (by simp)

theorem SlI.at {W : World} {a : Option Addr} {l : List Int} (h : SlI W a l) {k : Nat} (hk : k < l.length) : ∃ b off, a = some ⟨b, off, none⟩ ∧ W.cell? ⟨b, off + k, none⟩ = some (.int .i64 (l.getD k 0)) := by
  rcases h with rfl | ⟨b, off, e, _, h⟩
  · simp at hk
  · exact ⟨b, off, e, h k _ (by simp [hk])⟩

/-- Numbers, as cells. -/
def intsC (l : List Int) : List Value := l.map (Value.int .i64)

theorem intsC_len (l : List Int) : (intsC l).length = l.length := by simp [intsC]

theorem intsC_snoc (l : List Int) (x : Int) : intsC (l ++ [x]) = intsC l ++ [.int .i64 x] := by simp [intsC]

theorem intsC_get (l : List Int) (k : Nat) (h : k < l.length) : (intsC l)[k]? = some (.int .i64 l[k]) := by simp [intsC, h]

theorem intsC_one (l : List Int) : ∀ u ∈ intsC l, u.oneCell' = true := by
  intro u hu
  obtain ⟨p, _, rfl⟩ := List.mem_map.1 hu
  rfl

/-- A slice of numbers out of a row. -/
theorem row_slI {W : World} {B : Nat} {e : TypeId} {n : Nat} {v : Value} {l : List Int} (h : W.ownsRow B e 1 v n (intsC l)) : ∃ a c, v = .slice a n c ∧ l.length = n ∧ SlI W a l := by
  have hln : l.length = n := by
    have := h.1
    rw [intsC_len] at this
    omega
  rcases h.2 with ⟨rfl, h0⟩ | ⟨g, cap, cur, rfl, hb, hg, hn, hm, hs, ht⟩
  · subst h0
    exact ⟨none, 0, rfl, hln, .inl (List.eq_nil_of_length_eq_zero hln)⟩
  · refine ⟨_, cap, rfl, hln, .inr ⟨g, 0, rfl, fun _ => (Array.getElem?_eq_some_iff.1 hg).1, fun k x hk => ?_⟩⟩
    obtain ⟨hk1, rfl⟩ := List.getElem?_eq_some_iff.1 hk
    have h1 := h.cellAt k (by omega)
    rw [intsC_get l k hk1] at h1
    rw [Nat.zero_add]
    exact h1

set_option maxHeartbeats 32000000 in
set_option maxRecDepth 100000 in
theorem puti_any (a : Option Addr) (c : Nat) (l : List Int) (x : Int) (hn : l.length ≤ 100000) (w : World) (h : SlI w a l) :
    Calls Tryz.prog 23 #[.slice a l.length c, .int .i64 x] w fun e w' => ∃ a' c', e = .returned (.slice a' (putI l x).length c') ∧ Hid (SlI w' a' (putI l x) ∧ Below w.heap.size w w') := by
  obtain ⟨i0, hi, hz0, hz1, hz2⟩ := info_parts elem3
  obtain ⟨n, hnn⟩ : ∃ n, l.length = n := ⟨_, rfl⟩
  obtain ⟨m, hm⟩ : ∃ m, lessN x l = m := ⟨_, rfl⟩
  have Hmn : Hid (m ≤ n) := by show _ ≤ _; rw [← hm, ← hnn]; exact lessN_le _ _
  obtain ⟨R, hR⟩ : ∃ R, putI l x = R := ⟨_, rfl⟩
  have He : Hid (R = if m < n ∧ l.getD m 0 = x then l else l.take m ++ x :: l.drop m) := by
    show _ = _
    rw [← hR, ← hm, ← hnn]; rfl
  rw [hnn] at hn
  rw [hR, hnn]
  have H := Lib.hid h
  have Hn := Lib.hid hnn
  have Hm := Lib.hid hm
  clear h hnn hR hm
  go_enter Tryz.func23, Tryz.ntmps23
  go_wp2
  go_loop [5] (fun i => ∃ k : Nat, k ≤ m ∧ i = .int .i64 k) (fun i => n - (intOf i).toNat)
  case atStart => exact ⟨0, Nat.zero_le _, rfl⟩
  case round =>
    obtain ⟨k, hk, rfl⟩ := hrel
    have hmn := Hmn.out
    by_cases hlt : k < m
    · obtain ⟨hkl, hlp⟩ := lessN_lt (x := x) (l := l) (k := k) (by rw [Hm.out]; exact hlt)
      obtain ⟨b, off, rfl, hc0⟩ := H.out.at hkl
      rw [Hn.out] at hkl
      obtain ⟨q, hq⟩ : ∃ q, l.getD k 0 = q := ⟨_, rfl⟩
      rw [hq] at hc0 hlp
      have e1 : decide (q < x) = true := by simpa using hlp
      clear hq hlp
      go_wp2
      go_round
      case rel => exact ⟨k + 1, by omega, by go_num⟩
      case measure => simp [intOf]; omega
    · have hkm : k = m := by omega
      subst hkm
      by_cases hkl : k < n
      · have hlp := lessN_stop (x := x) (l := l) (by rw [Hm.out, Hn.out]; exact hkl)
        rw [Hm.out] at hlp
        obtain ⟨b, off, rfl, hc0⟩ := H.out.at (k := k) (by rw [Hn.out]; exact hkl)
        obtain ⟨q, hq⟩ : ∃ q, l.getD k 0 = q := ⟨_, rfl⟩
        have he := He.out
        rw [hq] at hc0 hlp he
        have e1 : decide (q < x) = false := by simp; omega
        by_cases hqx : q = x
        · rw [if_pos ⟨hkl, hqx⟩] at he
          have HE := Lib.hid he
          have e2 : (q == x) = true := by simpa using hqx
          clear hq hlp he hqx
          go_wp2
          go_ret
          rw [HE.out, Hn.out]
          exact ⟨some ⟨b, off, none⟩, ⟨c, rfl⟩, H.out, Below.refl _ _⟩
        · rw [if_neg (fun e => hqx e.2)] at he
          have HE := Lib.hid he
          have e2 : (q == x) = false := by simpa using hqx
          clear hq hlp he hqx
          go_wp2
          clear hc0 e1 e2
          go_loopw [6, 7] (fun v i wr => ∃ j : Nat, i = .int .i64 j ∧ j ≤ k ∧ Hid (wr.ownsRow w.heap.size 3 1 v j (intsC (l.take j)) ∧ Below w.heap.size w wr)) (fun _ i _ => k - (intOf i).toNat)
          case atStart => exact ⟨0, rfl, Nat.zero_le _, World.ownsRow_nil _ _ _ _, Below.refl _ _⟩
          case round =>
            obtain ⟨j, rfl, hj, HJ⟩ := hrel
            by_cases hjk : j < k
            · have hjl : j < l.length := by rw [Hn.out]; omega
              obtain ⟨b', off', e, hc0⟩ := (H.out.below (grown_below HJ.out.2)).at hjl
              try cases e
              have htk : l.take (j + 1) = l.take j ++ [l.getD j 0] := by
                rw [List.take_add_one, List.getElem?_eq_getElem hjl, List.getD_eq_getElem?_getD, List.getElem?_eq_getElem hjl]
                rfl
              obtain ⟨q, hq⟩ : ∃ q, l.getD j 0 = q := ⟨_, rfl⟩
              rw [hq] at hc0 htk
              have Htk := Lib.hid htk
              have hjn : j < n := by omega
              have HA : Hid (w.heap.size ≤ (wr.alloc (.cells #[.int .i64 q] 3)).heap.size) := by
                have h1 := HJ.out.2.size
                show _ ≤ (World.alloc _ _).heap.size
                simp
                omega
              clear htk hq hjl
              go_wp2_with (first
                | (at_builtin; refine wpList_append_own _ rfl _ _ 23 rfl w.heap.size 3 i0 (.int .i64 0) 1 8 Tryz.underlying23 hi hz0 hz1 hz2 rfl (by decide) u6 j (intsC (l.take j)) rfl (HJ.out.1.alloc _) ⟨wr.heap.size, 0, none⟩ 1 1 [.int .i64 q] rfl rfl (news_new wr #[.int .i64 q] 3) (intsC_one [q]) (by unfold maxLen; omega) (by omega) HA.out ?_)
                | go_in)
              intro v5 w5 hown5 hgrow5 hnil5
              have HJ5 : Hid (w5.ownsRow w.heap.size 3 1 v5 (j + 1) (intsC (l.take (j + 1))) ∧ Below w.heap.size w w5) := by
                refine ⟨?_, (HJ.out.2.alloc HJ.out.2.size _).grown hgrow5 HA.out (fun k hk => (HJ.out.1.lt k hk).1)⟩
                rw [Htk.out, intsC_snoc]
                exact hown5
              clear hown5 hgrow5 hnil5
              go_wp2
              go_roundw
              case rel => exact ⟨j + 1, by go_num, by omega, HJ5.out⟩
              case measure => simp [intOf]; omega
            · have hjk' : j = k := by omega
              subst hjk'
              have HA : Hid (w.heap.size ≤ (wr.alloc (.cells #[.int .i64 x] 3)).heap.size) := by
                have h1 := HJ.out.2.size
                show _ ≤ (World.alloc _ _).heap.size
                simp
                omega
              clear hj hjk
              go_wp2_with (first
                | (at_builtin; refine wpList_append_own _ rfl _ _ 23 rfl w.heap.size 3 i0 (.int .i64 0) 1 8 Tryz.underlying23 hi hz0 hz1 hz2 rfl (by decide) u6 j (intsC (l.take j)) rfl (HJ.out.1.alloc _) ⟨wr.heap.size, 0, none⟩ 1 1 [.int .i64 x] rfl rfl (news_new wr #[.int .i64 x] 3) (intsC_one [x]) (by unfold maxLen; omega) (by omega) HA.out ?_)
                | go_in)
              intro v5 w5 hown5 hgrow5 hnil5
              have HJ5 : Hid (w5.ownsRow w.heap.size 3 1 v5 (j + 1) (intsC (l.take j ++ x :: (l.drop j).take 0)) ∧ Below w.heap.size w w5) := by
                refine ⟨?_, (HJ.out.2.alloc HJ.out.2.size _).grown hgrow5 HA.out (fun k hk => (HJ.out.1.lt k hk).1)⟩
                rw [List.take_zero, intsC_snoc]
                exact hown5
              clear hown5 hgrow5 hnil5 HA
              go_wp2
              try go_frame
              go_loopw [6, 8] (fun v i wr => ∃ d : Nat, i = .int .i64 ((j + d : Nat) : Int) ∧ j + d ≤ n ∧ Hid (wr.ownsRow w.heap.size 3 1 v (j + d + 1) (intsC (l.take j ++ x :: (l.drop j).take d)) ∧ Below w.heap.size w wr)) (fun _ i _ => n - (intOf i).toNat)
              case atStart => exact ⟨0, rfl, by omega, HJ5.out⟩
              case round =>
                obtain ⟨d, rfl, hd, HD⟩ := hrel
                obtain ⟨i, hi'⟩ : ∃ i, j + d = i := ⟨_, rfl⟩
                rw [hi'] at HD hd ⊢
                have Hi := Lib.hid hi'
                clear hi'
                by_cases hin : i < n
                · have hjl : i < l.length := by rw [Hn.out]; omega
                  obtain ⟨b', off', e, hc0⟩ := (H.out.below (grown_below HD.out.2)).at hjl
                  try cases e
                  have htk : (l.drop j).take (d + 1) = (l.drop j).take d ++ [l.getD i 0] := by
                    rw [List.take_add_one, List.getElem?_drop, Hi.out, List.getElem?_eq_getElem hjl, List.getD_eq_getElem?_getD, List.getElem?_eq_getElem hjl]
                    rfl
                  obtain ⟨q, hq⟩ : ∃ q, l.getD i 0 = q := ⟨_, rfl⟩
                  rw [hq] at hc0 htk
                  have Htk := Lib.hid htk
                  have HA : Hid (w.heap.size ≤ (wr.alloc (.cells #[.int .i64 q] 3)).heap.size) := by
                    have h1 := HD.out.2.size
                    show _ ≤ (World.alloc _ _).heap.size
                    simp
                    omega
                  clear htk hq hjl
                  go_wp2_with (first
                    | (at_builtin; refine wpList_append_own _ rfl _ _ 23 rfl w.heap.size 3 i0 (.int .i64 0) 1 8 Tryz.underlying23 hi hz0 hz1 hz2 rfl (by decide) u6 (i + 1) (intsC (l.take j ++ x :: (l.drop j).take d)) rfl (HD.out.1.alloc _) ⟨wr.heap.size, 0, none⟩ 1 1 [.int .i64 q] rfl rfl (news_new wr #[.int .i64 q] 3) (intsC_one [q]) (by unfold maxLen; omega) (by omega) HA.out ?_)
                    | go_in)
                  intro v5 w5 hown5 hgrow5 hnil5
                  have HJ6 : Hid (w5.ownsRow w.heap.size 3 1 v5 (j + (d + 1) + 1) (intsC (l.take j ++ x :: (l.drop j).take (d + 1))) ∧ Below w.heap.size w w5) := by
                    refine ⟨?_, (HD.out.2.alloc HD.out.2.size _).grown hgrow5 HA.out (fun k hk => (HD.out.1.lt k hk).1)⟩
                    have e3 : l.take j ++ x :: ((l.drop j).take d ++ [q]) = (l.take j ++ x :: (l.drop j).take d) ++ [q] := by simp
                    rw [Htk.out, e3, intsC_snoc, ← Nat.add_assoc, Hi.out]
                    exact hown5
                  clear hown5 hgrow5 hnil5
                  go_wp2
                  go_roundw
                  case rel => exact ⟨d + 1, by rw [← Nat.add_assoc, Hi.out]; go_num, by have := Hi.out; omega, HJ6.out⟩
                  case measure => simp [intOf]; omega
                · have hin' : i = n := by omega
                  have HR : Hid (wr.ownsRow w.heap.size 3 1 u6 (n + 1) (intsC R)) := by
                    have h1 := HD.out.1
                    have h2 : (l.drop j).take d = l.drop j := List.take_of_length_le (by have := Hi.out; have := Hn.out; simp; omega)
                    rw [h2, hin'] at h1
                    show World.ownsRow _ _ _ _ _ _ _
                    rw [HE.out]
                    exact h1
                  obtain ⟨a', c', rfl, hRl, hsl⟩ := row_slI HR.out
                  have Hsl := Lib.hid hsl
                  have HRl := Lib.hid hRl
                  clear hsl hRl hin hd
                  go_wp2
                  go_ret
                  exact ⟨a', c', by rw [HRl.out]; rfl, Hsl.out, HD.out.2⟩
      · have he := He.out
        rw [if_neg (fun e => hkl e.1)] at he
        have HE := Lib.hid he
        clear he
        go_wp2
        go_loopw [6, 7] (fun v i wr => ∃ j : Nat, i = .int .i64 j ∧ j ≤ k ∧ Hid (wr.ownsRow w.heap.size 3 1 v j (intsC (l.take j)) ∧ Below w.heap.size w wr)) (fun _ i _ => k - (intOf i).toNat)
        case atStart => exact ⟨0, rfl, Nat.zero_le _, World.ownsRow_nil _ _ _ _, Below.refl _ _⟩
        case round =>
          obtain ⟨j, rfl, hj, HJ⟩ := hrel
          by_cases hjk : j < k
          · have hjl : j < l.length := by rw [Hn.out]; omega
            obtain ⟨b', off', e, hc0⟩ := (H.out.below (grown_below HJ.out.2)).at hjl
            try cases e
            have htk : l.take (j + 1) = l.take j ++ [l.getD j 0] := by
              rw [List.take_add_one, List.getElem?_eq_getElem hjl, List.getD_eq_getElem?_getD, List.getElem?_eq_getElem hjl]
              rfl
            obtain ⟨q, hq⟩ : ∃ q, l.getD j 0 = q := ⟨_, rfl⟩
            rw [hq] at hc0 htk
            have Htk := Lib.hid htk
            have hjn : j < n := by omega
            have HA : Hid (w.heap.size ≤ (wr.alloc (.cells #[.int .i64 q] 3)).heap.size) := by
              have h1 := HJ.out.2.size
              show _ ≤ (World.alloc _ _).heap.size
              simp
              omega
            clear htk hq hjl
            go_wp2_with (first
              | (at_builtin; refine wpList_append_own _ rfl _ _ 23 rfl w.heap.size 3 i0 (.int .i64 0) 1 8 Tryz.underlying23 hi hz0 hz1 hz2 rfl (by decide) u6 j (intsC (l.take j)) rfl (HJ.out.1.alloc _) ⟨wr.heap.size, 0, none⟩ 1 1 [.int .i64 q] rfl rfl (news_new wr #[.int .i64 q] 3) (intsC_one [q]) (by unfold maxLen; omega) (by omega) HA.out ?_)
              | go_in)
            intro v5 w5 hown5 hgrow5 hnil5
            have HJ5 : Hid (w5.ownsRow w.heap.size 3 1 v5 (j + 1) (intsC (l.take (j + 1))) ∧ Below w.heap.size w w5) := by
              refine ⟨?_, (HJ.out.2.alloc HJ.out.2.size _).grown hgrow5 HA.out (fun k hk => (HJ.out.1.lt k hk).1)⟩
              rw [Htk.out, intsC_snoc]
              exact hown5
            clear hown5 hgrow5 hnil5
            go_wp2
            go_roundw
            case rel => exact ⟨j + 1, by go_num, by omega, HJ5.out⟩
            case measure => simp [intOf]; omega
          · have hjk' : j = k := by omega
            subst hjk'
            have HA : Hid (w.heap.size ≤ (wr.alloc (.cells #[.int .i64 x] 3)).heap.size) := by
              have h1 := HJ.out.2.size
              show _ ≤ (World.alloc _ _).heap.size
              simp
              omega
            clear hj hjk
            go_wp2_with (first
              | (at_builtin; refine wpList_append_own _ rfl _ _ 23 rfl w.heap.size 3 i0 (.int .i64 0) 1 8 Tryz.underlying23 hi hz0 hz1 hz2 rfl (by decide) u6 j (intsC (l.take j)) rfl (HJ.out.1.alloc _) ⟨wr.heap.size, 0, none⟩ 1 1 [.int .i64 x] rfl rfl (news_new wr #[.int .i64 x] 3) (intsC_one [x]) (by unfold maxLen; omega) (by omega) HA.out ?_)
              | go_in)
            intro v5 w5 hown5 hgrow5 hnil5
            have HJ5 : Hid (w5.ownsRow w.heap.size 3 1 v5 (j + 1) (intsC (l.take j ++ x :: (l.drop j).take 0)) ∧ Below w.heap.size w w5) := by
              refine ⟨?_, (HJ.out.2.alloc HJ.out.2.size _).grown hgrow5 HA.out (fun k hk => (HJ.out.1.lt k hk).1)⟩
              rw [List.take_zero, intsC_snoc]
              exact hown5
            clear hown5 hgrow5 hnil5 HA
            go_wp2
            try go_frame
            go_loopw [6, 8] (fun v i wr => ∃ d : Nat, i = .int .i64 ((j + d : Nat) : Int) ∧ j + d ≤ n ∧ Hid (wr.ownsRow w.heap.size 3 1 v (j + d + 1) (intsC (l.take j ++ x :: (l.drop j).take d)) ∧ Below w.heap.size w wr)) (fun _ i _ => n - (intOf i).toNat)
            case atStart => exact ⟨0, rfl, by omega, HJ5.out⟩
            case round =>
              obtain ⟨d, rfl, hd, HD⟩ := hrel
              obtain ⟨i, hi'⟩ : ∃ i, j + d = i := ⟨_, rfl⟩
              rw [hi'] at HD hd ⊢
              have Hi := Lib.hid hi'
              clear hi'
              by_cases hin : i < n
              · have hjl : i < l.length := by rw [Hn.out]; omega
                obtain ⟨b', off', e, hc0⟩ := (H.out.below (grown_below HD.out.2)).at hjl
                try cases e
                have htk : (l.drop j).take (d + 1) = (l.drop j).take d ++ [l.getD i 0] := by
                  rw [List.take_add_one, List.getElem?_drop, Hi.out, List.getElem?_eq_getElem hjl, List.getD_eq_getElem?_getD, List.getElem?_eq_getElem hjl]
                  rfl
                obtain ⟨q, hq⟩ : ∃ q, l.getD i 0 = q := ⟨_, rfl⟩
                rw [hq] at hc0 htk
                have Htk := Lib.hid htk
                have HA : Hid (w.heap.size ≤ (wr.alloc (.cells #[.int .i64 q] 3)).heap.size) := by
                  have h1 := HD.out.2.size
                  show _ ≤ (World.alloc _ _).heap.size
                  simp
                  omega
                clear htk hq hjl
                go_wp2_with (first
                  | (at_builtin; refine wpList_append_own _ rfl _ _ 23 rfl w.heap.size 3 i0 (.int .i64 0) 1 8 Tryz.underlying23 hi hz0 hz1 hz2 rfl (by decide) u6 (i + 1) (intsC (l.take j ++ x :: (l.drop j).take d)) rfl (HD.out.1.alloc _) ⟨wr.heap.size, 0, none⟩ 1 1 [.int .i64 q] rfl rfl (news_new wr #[.int .i64 q] 3) (intsC_one [q]) (by unfold maxLen; omega) (by omega) HA.out ?_)
                  | go_in)
                intro v5 w5 hown5 hgrow5 hnil5
                have HJ6 : Hid (w5.ownsRow w.heap.size 3 1 v5 (j + (d + 1) + 1) (intsC (l.take j ++ x :: (l.drop j).take (d + 1))) ∧ Below w.heap.size w w5) := by
                  refine ⟨?_, (HD.out.2.alloc HD.out.2.size _).grown hgrow5 HA.out (fun k hk => (HD.out.1.lt k hk).1)⟩
                  have e3 : l.take j ++ x :: ((l.drop j).take d ++ [q]) = (l.take j ++ x :: (l.drop j).take d) ++ [q] := by simp
                  rw [Htk.out, e3, intsC_snoc, ← Nat.add_assoc, Hi.out]
                  exact hown5
                clear hown5 hgrow5 hnil5
                go_wp2
                go_roundw
                case rel => exact ⟨d + 1, by rw [← Nat.add_assoc, Hi.out]; go_num, by have := Hi.out; omega, HJ6.out⟩
                case measure => simp [intOf]; omega
              · have hin' : i = n := by omega
                have HR : Hid (wr.ownsRow w.heap.size 3 1 u6 (n + 1) (intsC R)) := by
                  have h1 := HD.out.1
                  have h2 : (l.drop j).take d = l.drop j := List.take_of_length_le (by have := Hi.out; have := Hn.out; simp; omega)
                  rw [h2, hin'] at h1
                  show World.ownsRow _ _ _ _ _ _ _
                  rw [HE.out]
                  exact h1
                obtain ⟨a', c', rfl, hRl, hsl⟩ := row_slI HR.out
                have Hsl := Lib.hid hsl
                have HRl := Lib.hid hRl
                clear hsl hRl hin hd
                go_wp2
                go_ret
                exact ⟨a', c', by rw [HRl.out]; rfl, Hsl.out, HD.out.2⟩

set_option maxHeartbeats 8000000 in
set_option maxRecDepth 100000 in
theorem same_ints (a1 a2 : Option Addr) (c1 c2 : Nat) (l : List Int) (hn : l.length ≤ 100000) (w : World) (h1 : SlI w a1 l) (h2 : SlI w a2 l) :
    Calls Tryz.prog 13 #[.slice a1 l.length c1, .slice a2 l.length c2] w fun e w' => e = .returned (.bool true) ∧ Hid (Below w.heap.size w w') := by
  obtain ⟨n, hnn⟩ : ∃ n, l.length = n := ⟨_, rfl⟩
  rw [hnn] at hn ⊢
  have H1 := Lib.hid h1
  have H2 := Lib.hid h2
  have Hn := Lib.hid hnn
  clear h1 h2 hnn
  go_enter Tryz.func13, Tryz.ntmps13
  go_wp2
  go_loopw [5] (fun i wr => ∃ k : Nat, i = .int .i64 k ∧ k ≤ n ∧ Hid (SlI wr a1 l ∧ SlI wr a2 l ∧ Below w.heap.size w wr)) (fun i _ => n - (intOf i).toNat)
  case atStart => exact ⟨0, rfl, Nat.zero_le _, H1.out, H2.out, Below.refl _ _⟩
  case round =>
    obtain ⟨k, rfl, hk, HR⟩ := hrel
    by_cases hlt : k < n
    · obtain ⟨b1, off1, e1, p0⟩ := HR.out.1.at (k := k) (by rw [Hn.out]; exact hlt)
      obtain ⟨b2, off2, e2, r0⟩ := HR.out.2.1.at (k := k) (by rw [Hn.out]; exact hlt)
      cases e1
      cases e2
      obtain ⟨q, hq⟩ : ∃ q, l.getD k 0 = q := ⟨_, rfl⟩
      rw [hq] at p0 r0
      clear hq
      go_wp2
      go_region_held3 (fun w' => w'.cell? ⟨b1, off1 + k, none⟩ = some (.int .i64 q) ∧ w'.cell? ⟨b2, off2 + k, none⟩ = some (.int .i64 q)) (go_keep) (fail)
      try clear hHeld
      go_wp2
      go_roundw
      case rel => exact ⟨k + 1, by go_num, by omega, HR.out.1, HR.out.2.1, HR.out.2.2.drew⟩
      case measure => simp [intOf]; omega
    · have hkn : k = n := by omega
      subst hkn
      clear hlt hk
      go_wp2
      go_ret
      exact ⟨rfl, HR.out.2.2⟩

end Go.Proofs.YthgkloapnihpaaaGreat

/- The document's pairs: Has, Put, what stands behind; by contracts. -/
namespace Go.Proofs.YthgkloapnihpaaaGreat
open Go.RowKit Go.Maps Go.WideMaps Go.WideElems Go.ChangeShapes Go.WideShapes
def enc2 (p : Pr) : List Value := [.int .i64 p.1, .int .i64 p.2]

/-- Pairs, as cells. -/
def flat (l : List Pr) : List Value := l.flatMap enc2

theorem flat_len (l : List Pr) : (flat l).length = l.length * 2 := by
  induction l with
  | nil => rfl
  | cons p l ih => show (_ :: _ :: flat l).length = _; simp [ih]; omega

theorem flat_snoc (l : List Pr) (p : Pr) : flat (l ++ [p]) = flat l ++ enc2 p := by simp [flat]

theorem flat_get : ∀ (l : List Pr) (k : Nat) (h : k < l.length), (flat l)[k * 2]? = some (.int .i64 l[k].1) ∧ (flat l)[k * 2 + 1]? = some (.int .i64 l[k].2)
  | p :: l, 0, _ => ⟨rfl, rfl⟩
  | p :: l, k + 1, h => by
    obtain ⟨h0, h1⟩ := flat_get l k (by simpa using h)
    have e : ∀ j, (flat (p :: l))[(k + 1) * 2 + j]? = (flat l)[k * 2 + j]? := fun j => by
      show (_ :: _ :: flat l)[_]? = _
      rw [show (k + 1) * 2 + j = (k * 2 + j) + 1 + 1 by omega, List.getElem?_cons_succ, List.getElem?_cons_succ]
    exact ⟨(e 0).trans h0, (e 1).trans h1⟩

theorem flat_one (l : List Pr) : ∀ u ∈ flat l, u.oneCell' = true := by
  intro u hu
  obtain ⟨p, _, hp⟩ := List.mem_flatMap.1 hu
  simp [enc2] at hp
  rcases hp with rfl | rfl <;> rfl

/-- A slice of pairs that can be read. -/
def SlP (W : World) (a : Option Addr) (l : List Pr) : Prop := l = [] ∨ ∃ b off, a = some ⟨b, off, none⟩ ∧ (l ≠ [] → b < W.heap.size) ∧ ∀ k p, l[k]? = some p → W.cell? ⟨b, off + k * 2, none⟩ = some (.int .i64 p.1) ∧ W.cell? ⟨b, off + k * 2 + 1, none⟩ = some (.int .i64 p.2)

theorem SlP.below {W W' : World} {a : Option Addr} {l : List Pr} (h : SlP W a l) (hb : Below W.heap.size W W') : SlP W' a l := by
  rcases h with h | ⟨b, off, e, hl, h⟩
  · exact .inl h
  · refine .inr ⟨b, off, e, fun hx => Nat.lt_of_lt_of_le (hl hx) hb.size, fun k p hk => ?_⟩
    have hne : l ≠ [] := by intro e'; rw [e'] at hk; simp at hk
    exact ⟨(hb.cell (p := ⟨b, off + k * 2, none⟩) (hl hne)).trans (h k p hk).1, (hb.cell (p := ⟨b, off + k * 2 + 1, none⟩) (hl hne)).trans (h k p hk).2⟩

theorem SlP.at {W : World} {a : Option Addr} {l : List Pr} (h : SlP W a l) {k : Nat} (hk : k < l.length) : ∃ b off, a = some ⟨b, off, none⟩ ∧ W.cell? ⟨b, off + k * 2, none⟩ = some (.int .i64 (l.getD k (0, 0)).1) ∧ W.cell? ⟨b, off + k * 2 + 1, none⟩ = some (.int .i64 (l.getD k (0, 0)).2) := by
  rcases h with rfl | ⟨b, off, e, _, h⟩
  · simp at hk
  · exact ⟨b, off, e, h k _ (by simp [hk])⟩

theorem row_slP {W : World} {B : Nat} {e : TypeId} {n : Nat} {v : Value} {l : List Pr} (h : W.ownsRow B e 2 v n (flat l)) : ∃ a c, v = .slice a n c ∧ l.length = n ∧ SlP W a l := by
  have hln : l.length = n := by
    have := h.1
    rw [flat_len] at this
    omega
  rcases h.2 with ⟨rfl, h0⟩ | ⟨g, cap, cur, rfl, hb, hg, hn, hm, hs, ht⟩
  · subst h0
    exact ⟨none, 0, rfl, hln, .inl (List.eq_nil_of_length_eq_zero hln)⟩
  · refine ⟨_, cap, rfl, hln, .inr ⟨g, 0, rfl, fun _ => (Array.getElem?_eq_some_iff.1 hg).1, fun k p hk => ?_⟩⟩
    obtain ⟨hk1, rfl⟩ := List.getElem?_eq_some_iff.1 hk
    obtain ⟨g0, g1⟩ := flat_get l k hk1
    have h1 := h.cellAt (k * 2) (by omega)
    have h2 := h.cellAt (k * 2 + 1) (by omega)
    rw [g0] at h1
    rw [g1] at h2
    rw [Nat.zero_add]
    exact ⟨h1, h2⟩

theorem ltP_of_lt {p : Pr} : ∀ {l : List Pr} {k : Nat}, k < aheadN p l → k < l.length ∧ LtP (l.getD k (0, 0)) p
  | [], k, h => by simp [aheadN] at h
  | q :: l, k, h => by
    unfold aheadN at h
    split at h
    · rename_i hq
      cases k with
      | zero => exact ⟨by simp, by simpa using hq⟩
      | succ k =>
        obtain ⟨h1, h2⟩ := ltP_of_lt (p := p) (l := l) (k := k) (by omega)
        exact ⟨by simp; omega, by simpa using h2⟩
    · omega

theorem ltP_stop {p : Pr} : ∀ {l : List Pr}, aheadN p l < l.length → ¬ LtP (l.getD (aheadN p l) (0, 0)) p
  | [], h => by simp at h
  | q :: l, h => by
    by_cases hq : LtP q p
    · have e : aheadN p (q :: l) = aheadN p l + 1 := by simp [aheadN, hq]
      rw [e] at h ⊢
      have := ltP_stop (p := p) (l := l) (by simp at h; omega)
      simpa using this
    · have e : aheadN p (q :: l) = 0 := by simp [aheadN, hq]
      rw [e]
      simpa using hq

theorem ltP_ways {q1 q2 x y : Int} (h : LtP (q1, q2) (x, y)) : decide (q1 < x) = true ∨ (decide (q1 < x) = false ∧ (q1 == x) = true ∧ decide (q2 < y) = true) := by
  unfold LtP at h
  simp at h
  rcases h with h | ⟨h1, h2⟩
  · exact .inl (by simpa using h)
  · exact .inr ⟨by simp; omega, by simpa using h1, by simpa using h2⟩

theorem ltP_no {q1 q2 x y : Int} (h : ¬ LtP (q1, q2) (x, y)) : decide (q1 < x) = false ∧ ((q1 == x) = false ∨ ((q1 == x) = true ∧ decide (q2 < y) = false)) := by
  unfold LtP at h
  simp at h
  refine ⟨by simp; omega, ?_⟩
  by_cases e : q1 = x
  · exact .inr ⟨by simpa using e, by simp; exact h.2 e⟩
  · exact .inl (by simpa using e)

end Go.Proofs.YthgkloapnihpaaaGreat

/- The document's number laid in, and where what it answers lies. -/
namespace Go.Proofs.YthgkloapnihpaaaGreat
open Go.RowKit Go.Maps Go.WideMaps Go.WideElems Go.ChangeShapes Go.WideShapes

theorem ownsRow_below {W W' : World} {B e size n : Nat} {v : Value} {xs : List Value} (h : W.ownsRow B e size v n xs) (hb : Below W.heap.size W W') : W'.ownsRow B e size v n xs := row_kept h hb

set_option maxHeartbeats 32000000 in
set_option maxRecDepth 100000 in
theorem puti_at (a : Option Addr) (c : Nat) (l : List Int) (x : Int) (hn : l.length ≤ 100000) (w : World) (h : SlI w a l) :
    Calls Tryz.prog 23 #[.slice a l.length c, .int .i64 x] w fun e w' => ∃ a' c', e = .returned (.slice a' (putI l x).length c') ∧ Hid (SlI w' a' (putI l x) ∧ Below w.heap.size w w' ∧ (a' = a ∨ ∀ g o, a' = some ⟨g, o, none⟩ → w.heap.size ≤ g)) := by
  obtain ⟨i0, hi, hz0, hz1, hz2⟩ := info_parts elem3
  obtain ⟨n, hnn⟩ : ∃ n, l.length = n := ⟨_, rfl⟩
  obtain ⟨m, hm⟩ : ∃ m, lessN x l = m := ⟨_, rfl⟩
  have Hmn : Hid (m ≤ n) := by show _ ≤ _; rw [← hm, ← hnn]; exact lessN_le _ _
  obtain ⟨R, hR⟩ : ∃ R, putI l x = R := ⟨_, rfl⟩
  have He : Hid (R = if m < n ∧ l.getD m 0 = x then l else l.take m ++ x :: l.drop m) := by
    show _ = _
    rw [← hR, ← hm, ← hnn]; rfl
  rw [hnn] at hn
  rw [hR, hnn]
  have H := Lib.hid h
  have Hn := Lib.hid hnn
  have Hm := Lib.hid hm
  clear h hnn hR hm
  go_enter Tryz.func23, Tryz.ntmps23
  go_wp2
  go_loop [5] (fun i => ∃ k : Nat, k ≤ m ∧ i = .int .i64 k) (fun i => n - (intOf i).toNat)
  case atStart => exact ⟨0, Nat.zero_le _, rfl⟩
  case round =>
    obtain ⟨k, hk, rfl⟩ := hrel
    have hmn := Hmn.out
    by_cases hlt : k < m
    · obtain ⟨hkl, hlp⟩ := lessN_lt (x := x) (l := l) (k := k) (by rw [Hm.out]; exact hlt)
      obtain ⟨b, off, rfl, hc0⟩ := H.out.at hkl
      rw [Hn.out] at hkl
      obtain ⟨q, hq⟩ : ∃ q, l.getD k 0 = q := ⟨_, rfl⟩
      rw [hq] at hc0 hlp
      have e1 : decide (q < x) = true := by simpa using hlp
      clear hq hlp
      go_wp2
      go_round
      case rel => exact ⟨k + 1, by omega, by go_num⟩
      case measure => simp [intOf]; omega
    · have hkm : k = m := by omega
      subst hkm
      by_cases hkl : k < n
      · have hlp := lessN_stop (x := x) (l := l) (by rw [Hm.out, Hn.out]; exact hkl)
        rw [Hm.out] at hlp
        obtain ⟨b, off, rfl, hc0⟩ := H.out.at (k := k) (by rw [Hn.out]; exact hkl)
        obtain ⟨q, hq⟩ : ∃ q, l.getD k 0 = q := ⟨_, rfl⟩
        have he := He.out
        rw [hq] at hc0 hlp he
        have e1 : decide (q < x) = false := by simp; omega
        by_cases hqx : q = x
        · rw [if_pos ⟨hkl, hqx⟩] at he
          have HE := Lib.hid he
          have e2 : (q == x) = true := by simpa using hqx
          clear hq hlp he hqx
          go_wp2
          go_ret
          rw [HE.out, Hn.out]
          exact ⟨some ⟨b, off, none⟩, ⟨c, rfl⟩, H.out, Below.refl _ _, .inl rfl⟩
        · rw [if_neg (fun e => hqx e.2)] at he
          have HE := Lib.hid he
          have e2 : (q == x) = false := by simpa using hqx
          clear hq hlp he hqx
          go_wp2
          clear hc0 e1 e2
          go_loopw [6, 7] (fun v i wr => ∃ j : Nat, i = .int .i64 j ∧ j ≤ k ∧ Hid (wr.ownsRow w.heap.size 3 1 v j (intsC (l.take j)) ∧ Below w.heap.size w wr)) (fun _ i _ => k - (intOf i).toNat)
          case atStart => exact ⟨0, rfl, Nat.zero_le _, World.ownsRow_nil _ _ _ _, Below.refl _ _⟩
          case round =>
            obtain ⟨j, rfl, hj, HJ⟩ := hrel
            by_cases hjk : j < k
            · have hjl : j < l.length := by rw [Hn.out]; omega
              obtain ⟨b', off', e, hc0⟩ := (H.out.below (grown_below HJ.out.2)).at hjl
              try cases e
              have htk : l.take (j + 1) = l.take j ++ [l.getD j 0] := by
                rw [List.take_add_one, List.getElem?_eq_getElem hjl, List.getD_eq_getElem?_getD, List.getElem?_eq_getElem hjl]
                rfl
              obtain ⟨q, hq⟩ : ∃ q, l.getD j 0 = q := ⟨_, rfl⟩
              rw [hq] at hc0 htk
              have Htk := Lib.hid htk
              have hjn : j < n := by omega
              have HA : Hid (w.heap.size ≤ (wr.alloc (.cells #[.int .i64 q] 3)).heap.size) := by
                have h1 := HJ.out.2.size
                show _ ≤ (World.alloc _ _).heap.size
                simp
                omega
              clear htk hq hjl
              go_wp2_with (first
                | (at_builtin; refine wpList_append_own _ rfl _ _ 23 rfl w.heap.size 3 i0 (.int .i64 0) 1 8 Tryz.underlying23 hi hz0 hz1 hz2 rfl (by decide) u6 j (intsC (l.take j)) rfl (HJ.out.1.alloc _) ⟨wr.heap.size, 0, none⟩ 1 1 [.int .i64 q] rfl rfl (news_new wr #[.int .i64 q] 3) (intsC_one [q]) (by unfold maxLen; omega) (by omega) HA.out ?_)
                | go_in)
              intro v5 w5 hown5 hgrow5 hnil5
              have HJ5 : Hid (w5.ownsRow w.heap.size 3 1 v5 (j + 1) (intsC (l.take (j + 1))) ∧ Below w.heap.size w w5) := by
                refine ⟨?_, (HJ.out.2.alloc HJ.out.2.size _).grown hgrow5 HA.out (fun k hk => (HJ.out.1.lt k hk).1)⟩
                rw [Htk.out, intsC_snoc]
                exact hown5
              clear hown5 hgrow5 hnil5
              go_wp2
              go_roundw
              case rel => exact ⟨j + 1, by go_num, by omega, HJ5.out⟩
              case measure => simp [intOf]; omega
            · have hjk' : j = k := by omega
              subst hjk'
              have HA : Hid (w.heap.size ≤ (wr.alloc (.cells #[.int .i64 x] 3)).heap.size) := by
                have h1 := HJ.out.2.size
                show _ ≤ (World.alloc _ _).heap.size
                simp
                omega
              clear hj hjk
              go_wp2_with (first
                | (at_builtin; refine wpList_append_own _ rfl _ _ 23 rfl w.heap.size 3 i0 (.int .i64 0) 1 8 Tryz.underlying23 hi hz0 hz1 hz2 rfl (by decide) u6 j (intsC (l.take j)) rfl (HJ.out.1.alloc _) ⟨wr.heap.size, 0, none⟩ 1 1 [.int .i64 x] rfl rfl (news_new wr #[.int .i64 x] 3) (intsC_one [x]) (by unfold maxLen; omega) (by omega) HA.out ?_)
                | go_in)
              intro v5 w5 hown5 hgrow5 hnil5
              have HJ5 : Hid (w5.ownsRow w.heap.size 3 1 v5 (j + 1) (intsC (l.take j ++ x :: (l.drop j).take 0)) ∧ Below w.heap.size w w5) := by
                refine ⟨?_, (HJ.out.2.alloc HJ.out.2.size _).grown hgrow5 HA.out (fun k hk => (HJ.out.1.lt k hk).1)⟩
                rw [List.take_zero, intsC_snoc]
                exact hown5
              clear hown5 hgrow5 hnil5 HA
              go_wp2
              try go_frame
              go_loopw [6, 8] (fun v i wr => ∃ d : Nat, i = .int .i64 ((j + d : Nat) : Int) ∧ j + d ≤ n ∧ Hid (wr.ownsRow w.heap.size 3 1 v (j + d + 1) (intsC (l.take j ++ x :: (l.drop j).take d)) ∧ Below w.heap.size w wr)) (fun _ i _ => n - (intOf i).toNat)
              case atStart => exact ⟨0, rfl, by omega, HJ5.out⟩
              case round =>
                obtain ⟨d, rfl, hd, HD⟩ := hrel
                obtain ⟨i, hi'⟩ : ∃ i, j + d = i := ⟨_, rfl⟩
                rw [hi'] at HD hd ⊢
                have Hi := Lib.hid hi'
                clear hi'
                by_cases hin : i < n
                · have hjl : i < l.length := by rw [Hn.out]; omega
                  obtain ⟨b', off', e, hc0⟩ := (H.out.below (grown_below HD.out.2)).at hjl
                  try cases e
                  have htk : (l.drop j).take (d + 1) = (l.drop j).take d ++ [l.getD i 0] := by
                    rw [List.take_add_one, List.getElem?_drop, Hi.out, List.getElem?_eq_getElem hjl, List.getD_eq_getElem?_getD, List.getElem?_eq_getElem hjl]
                    rfl
                  obtain ⟨q, hq⟩ : ∃ q, l.getD i 0 = q := ⟨_, rfl⟩
                  rw [hq] at hc0 htk
                  have Htk := Lib.hid htk
                  have HA : Hid (w.heap.size ≤ (wr.alloc (.cells #[.int .i64 q] 3)).heap.size) := by
                    have h1 := HD.out.2.size
                    show _ ≤ (World.alloc _ _).heap.size
                    simp
                    omega
                  clear htk hq hjl
                  go_wp2_with (first
                    | (at_builtin; refine wpList_append_own _ rfl _ _ 23 rfl w.heap.size 3 i0 (.int .i64 0) 1 8 Tryz.underlying23 hi hz0 hz1 hz2 rfl (by decide) u6 (i + 1) (intsC (l.take j ++ x :: (l.drop j).take d)) rfl (HD.out.1.alloc _) ⟨wr.heap.size, 0, none⟩ 1 1 [.int .i64 q] rfl rfl (news_new wr #[.int .i64 q] 3) (intsC_one [q]) (by unfold maxLen; omega) (by omega) HA.out ?_)
                    | go_in)
                  intro v5 w5 hown5 hgrow5 hnil5
                  have HJ6 : Hid (w5.ownsRow w.heap.size 3 1 v5 (j + (d + 1) + 1) (intsC (l.take j ++ x :: (l.drop j).take (d + 1))) ∧ Below w.heap.size w w5) := by
                    refine ⟨?_, (HD.out.2.alloc HD.out.2.size _).grown hgrow5 HA.out (fun k hk => (HD.out.1.lt k hk).1)⟩
                    have e3 : l.take j ++ x :: ((l.drop j).take d ++ [q]) = (l.take j ++ x :: (l.drop j).take d) ++ [q] := by simp
                    rw [Htk.out, e3, intsC_snoc, ← Nat.add_assoc, Hi.out]
                    exact hown5
                  clear hown5 hgrow5 hnil5
                  go_wp2
                  go_roundw
                  case rel => exact ⟨d + 1, by rw [← Nat.add_assoc, Hi.out]; go_num, by have := Hi.out; omega, HJ6.out⟩
                  case measure => simp [intOf]; omega
                · have hin' : i = n := by omega
                  have HR : Hid (wr.ownsRow w.heap.size 3 1 u6 (n + 1) (intsC R)) := by
                    have h1 := HD.out.1
                    have h2 : (l.drop j).take d = l.drop j := List.take_of_length_le (by have := Hi.out; have := Hn.out; simp; omega)
                    rw [h2, hin'] at h1
                    show World.ownsRow _ _ _ _ _ _ _
                    rw [HE.out]
                    exact h1
                  obtain ⟨a', c', rfl, hRl, hsl⟩ := row_slI HR.out
                  have HN : Hid (∀ g o, a' = some ⟨g, o, none⟩ → w.heap.size ≤ g) := fun g o e => (HR.out.lt g (by rw [e]; rfl)).1
                  have Hsl := Lib.hid hsl
                  have HRl := Lib.hid hRl
                  clear hsl hRl hin hd
                  go_wp2
                  go_ret
                  exact ⟨a', c', by rw [HRl.out]; rfl, Hsl.out, HD.out.2, .inr HN.out⟩
      · have he := He.out
        rw [if_neg (fun e => hkl e.1)] at he
        have HE := Lib.hid he
        clear he
        go_wp2
        go_loopw [6, 7] (fun v i wr => ∃ j : Nat, i = .int .i64 j ∧ j ≤ k ∧ Hid (wr.ownsRow w.heap.size 3 1 v j (intsC (l.take j)) ∧ Below w.heap.size w wr)) (fun _ i _ => k - (intOf i).toNat)
        case atStart => exact ⟨0, rfl, Nat.zero_le _, World.ownsRow_nil _ _ _ _, Below.refl _ _⟩
        case round =>
          obtain ⟨j, rfl, hj, HJ⟩ := hrel
          by_cases hjk : j < k
          · have hjl : j < l.length := by rw [Hn.out]; omega
            obtain ⟨b', off', e, hc0⟩ := (H.out.below (grown_below HJ.out.2)).at hjl
            try cases e
            have htk : l.take (j + 1) = l.take j ++ [l.getD j 0] := by
              rw [List.take_add_one, List.getElem?_eq_getElem hjl, List.getD_eq_getElem?_getD, List.getElem?_eq_getElem hjl]
              rfl
            obtain ⟨q, hq⟩ : ∃ q, l.getD j 0 = q := ⟨_, rfl⟩
            rw [hq] at hc0 htk
            have Htk := Lib.hid htk
            have hjn : j < n := by omega
            have HA : Hid (w.heap.size ≤ (wr.alloc (.cells #[.int .i64 q] 3)).heap.size) := by
              have h1 := HJ.out.2.size
              show _ ≤ (World.alloc _ _).heap.size
              simp
              omega
            clear htk hq hjl
            go_wp2_with (first
              | (at_builtin; refine wpList_append_own _ rfl _ _ 23 rfl w.heap.size 3 i0 (.int .i64 0) 1 8 Tryz.underlying23 hi hz0 hz1 hz2 rfl (by decide) u6 j (intsC (l.take j)) rfl (HJ.out.1.alloc _) ⟨wr.heap.size, 0, none⟩ 1 1 [.int .i64 q] rfl rfl (news_new wr #[.int .i64 q] 3) (intsC_one [q]) (by unfold maxLen; omega) (by omega) HA.out ?_)
              | go_in)
            intro v5 w5 hown5 hgrow5 hnil5
            have HJ5 : Hid (w5.ownsRow w.heap.size 3 1 v5 (j + 1) (intsC (l.take (j + 1))) ∧ Below w.heap.size w w5) := by
              refine ⟨?_, (HJ.out.2.alloc HJ.out.2.size _).grown hgrow5 HA.out (fun k hk => (HJ.out.1.lt k hk).1)⟩
              rw [Htk.out, intsC_snoc]
              exact hown5
            clear hown5 hgrow5 hnil5
            go_wp2
            go_roundw
            case rel => exact ⟨j + 1, by go_num, by omega, HJ5.out⟩
            case measure => simp [intOf]; omega
          · have hjk' : j = k := by omega
            subst hjk'
            have HA : Hid (w.heap.size ≤ (wr.alloc (.cells #[.int .i64 x] 3)).heap.size) := by
              have h1 := HJ.out.2.size
              show _ ≤ (World.alloc _ _).heap.size
              simp
              omega
            clear hj hjk
            go_wp2_with (first
              | (at_builtin; refine wpList_append_own _ rfl _ _ 23 rfl w.heap.size 3 i0 (.int .i64 0) 1 8 Tryz.underlying23 hi hz0 hz1 hz2 rfl (by decide) u6 j (intsC (l.take j)) rfl (HJ.out.1.alloc _) ⟨wr.heap.size, 0, none⟩ 1 1 [.int .i64 x] rfl rfl (news_new wr #[.int .i64 x] 3) (intsC_one [x]) (by unfold maxLen; omega) (by omega) HA.out ?_)
              | go_in)
            intro v5 w5 hown5 hgrow5 hnil5
            have HJ5 : Hid (w5.ownsRow w.heap.size 3 1 v5 (j + 1) (intsC (l.take j ++ x :: (l.drop j).take 0)) ∧ Below w.heap.size w w5) := by
              refine ⟨?_, (HJ.out.2.alloc HJ.out.2.size _).grown hgrow5 HA.out (fun k hk => (HJ.out.1.lt k hk).1)⟩
              rw [List.take_zero, intsC_snoc]
              exact hown5
            clear hown5 hgrow5 hnil5 HA
            go_wp2
            try go_frame
            go_loopw [6, 8] (fun v i wr => ∃ d : Nat, i = .int .i64 ((j + d : Nat) : Int) ∧ j + d ≤ n ∧ Hid (wr.ownsRow w.heap.size 3 1 v (j + d + 1) (intsC (l.take j ++ x :: (l.drop j).take d)) ∧ Below w.heap.size w wr)) (fun _ i _ => n - (intOf i).toNat)
            case atStart => exact ⟨0, rfl, by omega, HJ5.out⟩
            case round =>
              obtain ⟨d, rfl, hd, HD⟩ := hrel
              obtain ⟨i, hi'⟩ : ∃ i, j + d = i := ⟨_, rfl⟩
              rw [hi'] at HD hd ⊢
              have Hi := Lib.hid hi'
              clear hi'
              by_cases hin : i < n
              · have hjl : i < l.length := by rw [Hn.out]; omega
                obtain ⟨b', off', e, hc0⟩ := (H.out.below (grown_below HD.out.2)).at hjl
                try cases e
                have htk : (l.drop j).take (d + 1) = (l.drop j).take d ++ [l.getD i 0] := by
                  rw [List.take_add_one, List.getElem?_drop, Hi.out, List.getElem?_eq_getElem hjl, List.getD_eq_getElem?_getD, List.getElem?_eq_getElem hjl]
                  rfl
                obtain ⟨q, hq⟩ : ∃ q, l.getD i 0 = q := ⟨_, rfl⟩
                rw [hq] at hc0 htk
                have Htk := Lib.hid htk
                have HA : Hid (w.heap.size ≤ (wr.alloc (.cells #[.int .i64 q] 3)).heap.size) := by
                  have h1 := HD.out.2.size
                  show _ ≤ (World.alloc _ _).heap.size
                  simp
                  omega
                clear htk hq hjl
                go_wp2_with (first
                  | (at_builtin; refine wpList_append_own _ rfl _ _ 23 rfl w.heap.size 3 i0 (.int .i64 0) 1 8 Tryz.underlying23 hi hz0 hz1 hz2 rfl (by decide) u6 (i + 1) (intsC (l.take j ++ x :: (l.drop j).take d)) rfl (HD.out.1.alloc _) ⟨wr.heap.size, 0, none⟩ 1 1 [.int .i64 q] rfl rfl (news_new wr #[.int .i64 q] 3) (intsC_one [q]) (by unfold maxLen; omega) (by omega) HA.out ?_)
                  | go_in)
                intro v5 w5 hown5 hgrow5 hnil5
                have HJ6 : Hid (w5.ownsRow w.heap.size 3 1 v5 (j + (d + 1) + 1) (intsC (l.take j ++ x :: (l.drop j).take (d + 1))) ∧ Below w.heap.size w w5) := by
                  refine ⟨?_, (HD.out.2.alloc HD.out.2.size _).grown hgrow5 HA.out (fun k hk => (HD.out.1.lt k hk).1)⟩
                  have e3 : l.take j ++ x :: ((l.drop j).take d ++ [q]) = (l.take j ++ x :: (l.drop j).take d) ++ [q] := by simp
                  rw [Htk.out, e3, intsC_snoc, ← Nat.add_assoc, Hi.out]
                  exact hown5
                clear hown5 hgrow5 hnil5
                go_wp2
                go_roundw
                case rel => exact ⟨d + 1, by rw [← Nat.add_assoc, Hi.out]; go_num, by have := Hi.out; omega, HJ6.out⟩
                case measure => simp [intOf]; omega
              · have hin' : i = n := by omega
                have HR : Hid (wr.ownsRow w.heap.size 3 1 u6 (n + 1) (intsC R)) := by
                  have h1 := HD.out.1
                  have h2 : (l.drop j).take d = l.drop j := List.take_of_length_le (by have := Hi.out; have := Hn.out; simp; omega)
                  rw [h2, hin'] at h1
                  show World.ownsRow _ _ _ _ _ _ _
                  rw [HE.out]
                  exact h1
                obtain ⟨a', c', rfl, hRl, hsl⟩ := row_slI HR.out
                have HN : Hid (∀ g o, a' = some ⟨g, o, none⟩ → w.heap.size ≤ g) := fun g o e => (HR.out.lt g (by rw [e]; rfl)).1
                have Hsl := Lib.hid hsl
                have HRl := Lib.hid hRl
                clear hsl hRl hin hd
                go_wp2
                go_ret
                exact ⟨a', c', by rw [HRl.out]; rfl, Hsl.out, HD.out.2, .inr HN.out⟩

/-- A slice of numbers stays where another block is written. -/
theorem SlI.keep {W W' : World} {a : Option Addr} {l : List Int} {row : Option Nat} (h : SlI W a l) (hg : W.grownBy W' row) (hr : ∀ g o k, a = some ⟨g, o, none⟩ → row = some k → g ≠ k) : SlI W' a l := by
  rcases h with h | ⟨b, off, e, hl, h⟩
  · exact .inl h
  · refine .inr ⟨b, off, e, fun hx => Nat.lt_of_lt_of_le (hl hx) hg.size, fun k x hk => ?_⟩
    exact hg.cell (h k x hk) (fun e2 => hr b off b e e2.symm rfl)
/-- A list of numbers, not empty or of unknown place, lies below the heap's end. -/
theorem SlI.lt {W : World} {g o : Nat} {l : List Int} (h : SlI W (some ⟨g, o, none⟩) l) (hl : l ≠ []) : g < W.heap.size := by
  rcases h with h | ⟨b, off, e, hb, _⟩
  · exact absurd h hl
  · cases e; exact hb hl
end Go.Proofs.YthgkloapnihpaaaGreat

/- The document's search, by a contract. -/
namespace Go.Proofs.YthgkloapnihpaaaGreat
open Go.RowKit Go.Maps Go.WideMaps Go.WideElems Go.ChangeShapes Go.WideShapes

structure R1 (w : World) (l : List Pr) (x : Int) (k : Nat) (out D : List Int) (a5 : Option Addr) (m g nt ct : Nat) (W : World) : Prop where
  rch : Rch l x k out D
  hm : out.length = m
  hnt : D.length + 1 = nt
  sl : SlI W a5 out
  row : W.ownsRow w.heap.size 3 1 (.slice (some ⟨g, 0, none⟩) nt ct) nt (intsC (x :: D))
  apart : ∀ o, a5 ≠ some ⟨g, o, none⟩
  below : Below w.heap.size w W
  new : ∀ g o, a5 = some ⟨g, o, none⟩ → w.heap.size ≤ g

end Go.Proofs.YthgkloapnihpaaaGreat

/- The document's graphs in memory; whether a number is in a list, an edge, a node; the order of edges. -/
namespace Go.Proofs.YthgkloapnihpaaaGreat
open Go.RowKit Go.Maps Go.WideMaps Go.WideElems Go.ChangeShapes Go.WideShapes

theorem new_c0 (w : World) (x y : Value) (t : TypeId) : (w.alloc (.cells #[x, y] t)).cell? ⟨w.heap.size, 0, none⟩ = some x := by
  rw [cell_of_row _ w.heap.size 0 #[x, y] t _ (World.alloc_heap_new w _)]; rfl
theorem new_c1 (w : World) (x y : Value) (t : TypeId) : (w.alloc (.cells #[x, y] t)).cell? ⟨w.heap.size, 1, none⟩ = some y := by
  rw [cell_of_row _ w.heap.size 1 #[x, y] t _ (World.alloc_heap_new w _)]; rfl
theorem two_new (w : World) (x y : Value) (t : TypeId) : ∃ W, w.alloc (.cells #[x, y] t) = W ∧ Hid (Below w.heap.size w W) ∧ Hid (w.heap.size < W.heap.size) ∧ W.cell? ⟨w.heap.size, 0, none⟩ = some x ∧ W.cell? ⟨w.heap.size, 1, none⟩ = some y :=
  ⟨_, rfl, (Below.refl _ _).alloc (Nat.le_refl _) _, by show _ < _; simp, new_c0 w x y t, new_c1 w x y t⟩
theorem two_cells {W : World} {b : Nat} {x y : Value} {t : TypeId} (h : W.heap[b]? = some (.cells #[x, y] t)) : W.cell? ⟨b, 0, none⟩ = some x ∧ W.cell? ⟨b, 1, none⟩ = some y := by
  constructor
  · rw [cell_of_row _ b 0 #[x, y] t _ h]; rfl
  · rw [cell_of_row _ b 1 #[x, y] t _ h]; rfl
theorem new_3c (w : World) (x y z : Value) (t : TypeId) : (w.alloc (.cells #[x, y, z] t)).cell? ⟨w.heap.size, 0, none⟩ = some x ∧ (w.alloc (.cells #[x, y, z] t)).cell? ⟨w.heap.size, 1, none⟩ = some y ∧ (w.alloc (.cells #[x, y, z] t)).cell? ⟨w.heap.size, 2, none⟩ = some z := by
  refine ⟨?_, ?_, ?_⟩
  · rw [cell_of_row _ w.heap.size 0 #[x, y, z] t _ (World.alloc_heap_new w _)]; rfl
  · rw [cell_of_row _ w.heap.size 1 #[x, y, z] t _ (World.alloc_heap_new w _)]; rfl
  · rw [cell_of_row _ w.heap.size 2 #[x, y, z] t _ (World.alloc_heap_new w _)]; rfl

/-- A slice of edges that can be read. -/
def SlE (W : World) (a : Option Addr) (l : List Ed) : Prop := l = [] ∨ ∃ b off, a = some ⟨b, off, none⟩ ∧ (l ≠ [] → b < W.heap.size) ∧ ∀ (k : Nat) (p : Ed), l[k]? = some p → W.cell? ⟨b, off + k * 3, none⟩ = some (iv p.1) ∧ W.cell? ⟨b, off + k * 3 + 1, none⟩ = some (iv p.2.1) ∧ W.cell? ⟨b, off + k * 3 + 2, none⟩ = some (iv p.2.2)
theorem SlE.below {W W' : World} {a : Option Addr} {l : List Ed} (h : SlE W a l) (hb : Below W.heap.size W W') : SlE W' a l := by
  rcases h with h | ⟨b, off, e, hl, h⟩
  · exact .inl h
  · refine .inr ⟨b, off, e, fun hx => Nat.lt_of_lt_of_le (hl hx) hb.size, fun k p hk => ?_⟩
    have hne : l ≠ [] := by intro e'; rw [e'] at hk; simp at hk
    obtain ⟨h1, h2, h3⟩ := h k p hk
    exact ⟨(hb.cell (p := ⟨b, off + k * 3, none⟩) (hl hne)).trans h1, (hb.cell (p := ⟨b, off + k * 3 + 1, none⟩) (hl hne)).trans h2, (hb.cell (p := ⟨b, off + k * 3 + 2, none⟩) (hl hne)).trans h3⟩
abbrev e0 : Ed := (0, 0, 0)
theorem SlE.at {W : World} {a : Option Addr} {l : List Ed} (h : SlE W a l) {k : Nat} (hk : k < l.length) : ∃ b off, a = some ⟨b, off, none⟩ ∧ W.cell? ⟨b, off + k * 3, none⟩ = some (iv (l.getD k e0).1) ∧ W.cell? ⟨b, off + k * 3 + 1, none⟩ = some (iv (l.getD k e0).2.1) ∧ W.cell? ⟨b, off + k * 3 + 2, none⟩ = some (iv (l.getD k e0).2.2) := by
  rcases h with rfl | ⟨b, off, e, _, h⟩
  · simp at hk
  · exact ⟨b, off, e, h k _ (by simp [hk])⟩
theorem edRow_len (l : List Ed) : (edRow l).length = l.length * 3 := by
  induction l with
  | nil => rfl
  | cons p l ih => show (_ :: _ :: _ :: edRow l).length = _; simp [ih]; omega
theorem edRow_get : ∀ (l : List Ed) (k : Nat) (h : k < l.length), (edRow l)[k * 3]? = some (iv l[k].1) ∧ (edRow l)[k * 3 + 1]? = some (iv l[k].2.1) ∧ (edRow l)[k * 3 + 2]? = some (iv l[k].2.2)
  | p :: l, 0, _ => ⟨rfl, rfl, rfl⟩
  | p :: l, k + 1, h => by
    obtain ⟨h0, h1, h2⟩ := edRow_get l k (by simpa using h)
    have e : ∀ j, (edRow (p :: l))[(k + 1) * 3 + j]? = (edRow l)[k * 3 + j]? := fun j => by
      show (_ :: _ :: _ :: edRow l)[_]? = _
      rw [show (k + 1) * 3 + j = (k * 3 + j) + 1 + 1 + 1 by omega, List.getElem?_cons_succ, List.getElem?_cons_succ, List.getElem?_cons_succ]
    exact ⟨(e 0).trans h0, (e 1).trans h1, (e 2).trans h2⟩
theorem row_slE {W : World} {B : Nat} {e : TypeId} {n : Nat} {v : Value} {l : List Ed} (h : W.ownsRow B e 3 v n (edRow l)) : ∃ a c, v = .slice a n c ∧ l.length = n ∧ SlE W a l := by
  have hln : l.length = n := by
    have := h.1
    rw [edRow_len] at this
    omega
  rcases h.2 with ⟨rfl, h0⟩ | ⟨g, cap, cur, rfl, hb, hg, hn, hm, hs, ht⟩
  · subst h0
    exact ⟨none, 0, rfl, hln, .inl (List.eq_nil_of_length_eq_zero hln)⟩
  · refine ⟨_, cap, rfl, hln, .inr ⟨g, 0, rfl, fun _ => (Array.getElem?_eq_some_iff.1 hg).1, fun k p hk => ?_⟩⟩
    obtain ⟨hk1, rfl⟩ := List.getElem?_eq_some_iff.1 hk
    obtain ⟨g0, g1, g2⟩ := edRow_get l k hk1
    have h1 := h.cellAt (k * 3) (by omega)
    have h2 := h.cellAt (k * 3 + 1) (by omega)
    have h3 := h.cellAt (k * 3 + 2) (by omega)
    rw [g0] at h1
    rw [g1] at h2
    rw [g2] at h3
    rw [Nat.zero_add]
    exact ⟨h1, h2, h3⟩
theorem edRow_one (l : List Ed) : ∀ u ∈ edRow l, u.oneCell' = true := by
  intro u hu
  obtain ⟨p, _, hp⟩ := List.mem_flatMap.1 hu
  simp at hp
  rcases hp with rfl | rfl | rfl <;> rfl
theorem getD_in {α : Type} {l : List α} {k : Nat} {d : α} (hk : k < l.length) : l.getD k d ∈ l := by
  rw [List.getD_eq_getElem?_getD, List.getElem?_eq_getElem hk]
  exact List.getElem_mem hk
theorem not_found {α : Type} {l : List α} {d x : α} (h : ∀ j, j < l.length → l.getD j d ≠ x) : x ∉ l := by
  intro hm
  obtain ⟨j, hj, e⟩ := List.getElem_of_mem hm
  refine h j hj ?_
  simp [hj, e]

/-- A graph of the document's, as a value. -/
abbrev gval (a : Option Addr) (n c : Nat) (a' : Option Addr) (m c' : Nat) : Value := .agg #[.slice a n c, .slice a' m c']
set_option maxHeartbeats 16000000 in
set_option maxRecDepth 100000 in
theorem dhas_any (a a' : Option Addr) (n c c' : Nat) (E : List Ed) (x y z : Int) (hn : E.length ≤ 100000) (w : World) (h : SlE w a' E) :
    Calls Tryz.prog 24 #[gval a n c a' E.length c', iv x, iv y, iv z] w fun e w' => e = .returned (.bool (decide ((x, y, z) ∈ E))) ∧ Hid (Below w.heap.size w w') := by
  obtain ⟨m, hmm⟩ : ∃ n, E.length = n := ⟨_, rfl⟩
  rw [hmm] at hn ⊢
  obtain ⟨W, hW, hB, hS, d0, d1⟩ := two_new w (.slice a n c) (.slice a' m c') 28
  have H := Lib.hid (h.below (hB.out))
  have Hm := Lib.hid hmm
  obtain ⟨res, hres⟩ : ∃ b, decide ((x, y, z) ∈ E) = b := ⟨_, rfl⟩
  rw [hres]
  have Hres := Lib.hid hres
  clear h hmm hres
  go_enter Tryz.func24, Tryz.ntmps24
  go_wp2
  go_loop [9] (fun i => ∃ k : Nat, k ≤ m ∧ i = .int .i64 k ∧ Hid (∀ j, j < k → E.getD j e0 ≠ (x, y, z))) (fun i => m - (intOf i).toNat)
  case atStart => exact ⟨0, Nat.zero_le _, rfl, fun j hj => absurd hj (by omega)⟩
  case round =>
    obtain ⟨k, hk, rfl, HK⟩ := hrel
    by_cases hlt : k < m
    · obtain ⟨b, off, rfl, hc0, hc1, hc2⟩ := H.out.at (k := k) (by rw [Hm.out]; exact hlt)
      have hmem := getD_in (d := e0) (show k < E.length by rw [Hm.out]; exact hlt)
      obtain ⟨⟨q1, q2, q3⟩, hq⟩ : ∃ q, E.getD k e0 = q := ⟨_, rfl⟩
      rw [hq] at hc0 hc1 hc2 hmem
      simp only at hc0 hc1 hc2
      by_cases hx : (q1, q2, q3) = (x, y, z)
      · have hr : Hid (res = true) := by show _ = _; rw [← Hres.out, ← hx]; simpa using hmem
        have e1 : q1 = x := by cases hx; rfl
        have e2 : q2 = y := by cases hx; rfl
        have e3 : q3 = z := by cases hx; rfl
        subst e1 e2 e3
        clear hx hq hmem
        go_wp2
        go_ret
        exact ⟨by rw [hr.out]; rfl, hB.out⟩
      · have HK' : Hid (∀ j, j < k + 1 → E.getD j e0 ≠ (x, y, z)) := by
          intro j hj
          by_cases e : j = k
          · subst e; rw [hq]; exact hx
          · exact HK.out j (by omega)
        by_cases e1 : q1 = x
        · subst e1
          by_cases e2 : q2 = y
          · subst e2
            have hne : (q3 == z) = false := by
              have : q3 ≠ z := fun e => hx (by rw [e])
              simpa using this
            clear hx hq hmem
            go_wp2
            go_round
            case rel => exact ⟨k + 1, by omega, by go_num, HK'.out⟩
            case measure => simp [intOf]; omega
          · have hne : (q2 == y) = false := by simpa using e2
            clear hx hq hmem e2
            go_wp2
            go_round
            case rel => exact ⟨k + 1, by omega, by go_num, HK'.out⟩
            case measure => simp [intOf]; omega
        · have hne : (q1 == x) = false := by simpa using e1
          clear hx hq hmem e1
          go_wp2
          go_round
          case rel => exact ⟨k + 1, by omega, by go_num, HK'.out⟩
          case measure => simp [intOf]; omega
    · have hkn : k = m := by omega
      have hr : Hid (res = false) := by
        show _ = _
        rw [← Hres.out, decide_eq_false_iff_not]
        exact not_found (d := e0) fun j hj => HK.out j (by rw [hkn, ← Hm.out]; exact hj)
      clear hkn
      go_wp2
      go_ret
      exact ⟨by rw [hr.out]; rfl, hB.out⟩
/-- An edge, as a value. -/
abbrev edv (p : Ed) : Value := .agg #[iv p.1, iv p.2.1, iv p.2.2]
set_option maxHeartbeats 16000000 in
set_option maxRecDepth 100000 in
theorem less_any (p q : Ed) (w : World) : Calls Tryz.prog 25 #[edv p, edv q] w fun e w' => e = .returned (.bool (decide (LtE p q))) ∧ Hid (Below w.heap.size w w') := by
  obtain ⟨p1, p2, p3⟩ := p
  obtain ⟨q1, q2, q3⟩ := q
  obtain ⟨W1, hW1⟩ : ∃ W, w.alloc (.cells #[iv p1, iv p2, iv p3] 36) = W := ⟨_, rfl⟩
  obtain ⟨W, hW⟩ : ∃ W, W1.alloc (.cells #[iv q1, iv q2, iv q3] 36) = W := ⟨_, rfl⟩
  have hB : Hid (Below w.heap.size w W) := by rw [← hW, ← hW1]; exact ((Below.refl _ _).alloc (Nat.le_refl _) _).alloc (by simp) _
  have c1 : W1.cell? ⟨w.heap.size, 0, none⟩ = some (iv p1) ∧ W1.cell? ⟨w.heap.size, 1, none⟩ = some (iv p2) ∧ W1.cell? ⟨w.heap.size, 2, none⟩ = some (iv p3) := by rw [← hW1]; exact new_3c w _ _ _ 36
  have c2 : W.cell? ⟨W1.heap.size, 0, none⟩ = some (iv q1) ∧ W.cell? ⟨W1.heap.size, 1, none⟩ = some (iv q2) ∧ W.cell? ⟨W1.heap.size, 2, none⟩ = some (iv q3) := by rw [← hW]; exact new_3c W1 _ _ _ 36
  have hlt : w.heap.size < W1.heap.size := by rw [← hW1]; simp
  have hb1 : Below W1.heap.size W1 W := by rw [← hW]; exact (Below.refl _ _).alloc (Nat.le_refl _) _
  obtain ⟨x0, x1, x2⟩ := c1
  obtain ⟨y0, y1, y2⟩ := c2
  replace x0 := (hb1.cell (p := ⟨w.heap.size, 0, none⟩) hlt).trans x0
  replace x1 := (hb1.cell (p := ⟨w.heap.size, 1, none⟩) hlt).trans x1
  replace x2 := (hb1.cell (p := ⟨w.heap.size, 2, none⟩) hlt).trans x2
  clear hb1 hlt
  obtain ⟨B, hBe⟩ : ∃ B, w.heap.size = B := ⟨_, rfl⟩
  obtain ⟨C, hC⟩ : ∃ C, W1.heap.size = C := ⟨_, rfl⟩
  rw [hBe] at x0 x1 x2
  rw [hC] at y0 y1 y2
  obtain ⟨R, hR⟩ : ∃ R, decide (LtE (p1, p2, p3) (q1, q2, q3)) = R := ⟨_, rfl⟩
  rw [hR]
  have HR := Lib.hid hR
  clear hR
  by_cases h1 : p1 = q1
  · by_cases h2 : p2 = q2
    · have e1 : (p1 != q1) = false := by simpa using h1
      have e2 : (p2 != q2) = false := by simpa using h2
      have H : Hid (R = decide (p3 < q3)) := by
        show _ = _
        rw [← HR.out, decide_eq_decide]
        unfold LtE
        simp only
        omega
      subst h1 h2
      go_enter Tryz.func25, Tryz.ntmps25
      go_wp2
      go_ret
      exact ⟨by rw [H.out]; rfl, hB.out⟩
    · have e1 : (p1 != q1) = false := by simpa using h1
      have e2 : (p2 != q2) = true := by simpa using h2
      have e3 : (p2 == q2) = false := by simpa using h2
      have H : Hid (R = decide (p2 < q2)) := by
        show _ = _
        rw [← HR.out, decide_eq_decide]
        unfold LtE
        simp only
        omega
      subst h1
      clear h2
      go_enter Tryz.func25, Tryz.ntmps25
      go_wp2
      go_ret
      exact ⟨by rw [H.out]; rfl, hB.out⟩
  · have e2 : (p1 != q1) = true := by simpa using h1
    have e3 : (p1 == q1) = false := by simpa using h1
    have H : Hid (R = decide (p1 < q1)) := by
      show _ = _
      rw [← HR.out, decide_eq_decide]
      unfold LtE
      simp only
      omega
    clear h1
    go_enter Tryz.func25, Tryz.ntmps25
    go_wp2
    go_ret
    exact ⟨by rw [H.out]; rfl, hB.out⟩
end Go.Proofs.YthgkloapnihpaaaGreat

/- The library's keys of maps of texts, sorted lists of them, the sort of texts at this program, laid after the shelf's table. -/
namespace Go.Proofs
open Go.Shelf
def Tryz.sortStr_ren : Go.Shelf.Ren := ⟨fun | 190 => 48 | 125 => 58 | 258 => 64 | 128 => 75 | 129 => 76 | 302 => 86 | 303 => 87 | 304 => 88 | 305 => 89 | 306 => 90 | 307 => 91 | 308 => 92 | 309 => 93 | 310 => 94 | 333 => 104 | 329 => 97 | 330 => 98 | 334 => 105 | 335 => 106 | 336 => 107 | 344 => 110 | n => n, fun | 31 => 40 | 9 => 9 | 3 => 3 | 46 => 99 | 0 => 0 | 51 => 123 | 53 => 125 | 4 => 4 | 183 => 117 | 182 => 116 | 131 => 75 | 5 => 5 | 218 => 138 | 222 => 142 | 228 => 148 | 229 => 149 | n => n, fun | n => n⟩
theorem Tryz.sortStr : Go.Proofs.Lays.n190 Tryz.prog Tryz.sortStr_ren := {
  mixed := by kernel_rfl
  f125 := Tryz.func58.trans (congrArg some (by kernel_rfl))
  f128 := Tryz.func75.trans (congrArg some (by kernel_rfl))
  f129 := Tryz.func76.trans (congrArg some (by kernel_rfl))
  f190 := Tryz.func48.trans (congrArg some (by kernel_rfl))
  f258 := Tryz.func64.trans (congrArg some (by kernel_rfl))
  f302 := Tryz.func86.trans (congrArg some (by kernel_rfl))
  f303 := Tryz.func87.trans (congrArg some (by kernel_rfl))
  f304 := Tryz.func88.trans (congrArg some (by kernel_rfl))
  f305 := Tryz.func89.trans (congrArg some (by kernel_rfl))
  f306 := Tryz.func90.trans (congrArg some (by kernel_rfl))
  f307 := Tryz.func91.trans (congrArg some (by kernel_rfl))
  f308 := Tryz.func92.trans (congrArg some (by kernel_rfl))
  f309 := Tryz.func93.trans (congrArg some (by kernel_rfl))
  f310 := Tryz.func94.trans (congrArg some (by kernel_rfl))
  f329 := Tryz.func97.trans (congrArg some (by kernel_rfl))
  f330 := Tryz.func98.trans (congrArg some (by kernel_rfl))
  f333 := Tryz.func104.trans (congrArg some (by kernel_rfl))
  f334 := Tryz.func105.trans (congrArg some (by kernel_rfl))
  f335 := Tryz.func106.trans (congrArg some (by kernel_rfl))
  f336 := Tryz.func107.trans (congrArg some (by kernel_rfl))
  f344 := Tryz.func110.trans (congrArg some (by kernel_rfl))
  t0 := Tryz.underlying0
  a0 := Tryz.isAgg0
  z0 := Tryz.sizeOf0
  v0 := Tryz.zeroValue0
  t3 := Tryz.underlying3
  a3 := Tryz.isAgg3
  z3 := Tryz.sizeOf3
  v3 := Tryz.zeroValue3
  t4 := Tryz.underlying4
  a4 := Tryz.isAgg4
  z4 := Tryz.sizeOf4
  v4 := Tryz.zeroValue4
  t5 := Tryz.underlying5
  a5 := Tryz.isAgg5
  z5 := Tryz.sizeOf5
  v5 := Tryz.zeroValue5
  t9 := Tryz.underlying9
  a9 := Tryz.isAgg9
  z9 := Tryz.sizeOf9
  v9 := Tryz.zeroValue9
  t31 := Tryz.underlying40
  a31 := Tryz.isAgg40
  z31 := Tryz.sizeOf40
  v31 := Tryz.zeroValue40
  t46 := Tryz.underlying99
  a46 := Tryz.isAgg99
  z46 := Tryz.sizeOf99
  v46 := Tryz.zeroValue99
  t51 := Tryz.underlying123
  a51 := Tryz.isAgg123
  z51 := Tryz.sizeOf123
  v51 := Tryz.zeroValue123
  t53 := Tryz.underlying125
  a53 := Tryz.isAgg125
  z53 := Tryz.sizeOf125
  v53 := Tryz.zeroValue125
  t131 := Tryz.underlying75
  a131 := Tryz.isAgg75
  z131 := Tryz.sizeOf75
  v131 := Tryz.zeroValue75
  t182 := Tryz.underlying116
  a182 := Tryz.isAgg116
  z182 := Tryz.sizeOf116
  v182 := Tryz.zeroValue116
  t183 := Tryz.underlying117
  a183 := Tryz.isAgg117
  z183 := Tryz.sizeOf117
  v183 := Tryz.zeroValue117
  t218 := Tryz.underlying138
  a218 := Tryz.isAgg138
  z218 := Tryz.sizeOf138
  v218 := Tryz.zeroValue138
  t222 := Tryz.underlying142
  a222 := Tryz.isAgg142
  z222 := Tryz.sizeOf142
  v222 := Tryz.zeroValue142
  t228 := Tryz.underlying148
  a228 := Tryz.isAgg148
  z228 := Tryz.sizeOf148
  v228 := Tryz.zeroValue148
  t229 := Tryz.underlying149
  a229 := Tryz.isAgg149
  z229 := Tryz.sizeOf149
  v229 := Tryz.zeroValue149 }
def Tryz.keysStr_ren : Go.Shelf.Ren := ⟨fun | 6 => 29 | 8 => 47 | 11 => 63 | 9 => 48 | 7 => 30 | 10 => 49 | _ => 0, fun | 0 => 0 | 3 => 68 | 4 => 4 | 23 => 67 | 24 => 40 | 26 => 9 | 27 => 64 | 28 => 65 | 33 => 61 | _ => 0, fun g => g⟩
theorem Tryz.keysStr7 : Go.Proofs.SlLaysZ.n7 Tryz.prog Tryz.keysStr_ren := {
  mixed := by kernel_rfl
  f7 := ⟨Tryz.f30.name, by decide, Tryz.func30.trans (congrArg some (by kernel_rfl))⟩
  f10 := ⟨Tryz.f49.name, by decide, Tryz.func49.trans (congrArg some (by kernel_rfl))⟩
  t0 := Tryz.underlying0
  a0 := Tryz.isAgg0
  z0 := Tryz.sizeOf0
  v0 := Tryz.zeroValue0
  t4 := Tryz.underlying4
  a4 := Tryz.isAgg4
  z4 := Tryz.sizeOf4
  v4 := Tryz.zeroValue4
  t23 := Tryz.underlying67
  a23 := Tryz.isAgg67
  z23 := Tryz.sizeOf67
  v23 := Tryz.zeroValue67
  t26 := Tryz.underlying9
  a26 := Tryz.isAgg9
  z26 := Tryz.sizeOf9
  v26 := Tryz.zeroValue9
  t27 := Tryz.underlying64
  a27 := Tryz.isAgg64
  z27 := Tryz.sizeOf64
  v27 := Tryz.zeroValue64
  t28 := Tryz.underlying65
  a28 := Tryz.isAgg65
  z28 := Tryz.sizeOf65
  v28 := Tryz.zeroValue65
  t33 := Tryz.underlying61
  a33 := Tryz.isAgg61
  z33 := Tryz.sizeOf61
  v33 := Tryz.zeroValue61 }
theorem Tryz.keysStr6 : Go.Proofs.SlLaysZ.n6 Tryz.prog Tryz.keysStr_ren := {
  mixed := by kernel_rfl
  f6 := ⟨Tryz.f29.name, by decide, Tryz.func29.trans (congrArg some (by kernel_rfl))⟩
  f8 := ⟨Tryz.f47.name, by decide, Tryz.func47.trans (congrArg some (by kernel_rfl))⟩
  f11 := ⟨Tryz.f63.name, by decide, Tryz.func63.trans (congrArg some (by kernel_rfl))⟩
  t0 := Tryz.underlying0
  a0 := Tryz.isAgg0
  z0 := Tryz.sizeOf0
  v0 := Tryz.zeroValue0
  t24 := Tryz.underlying40
  a24 := Tryz.isAgg40
  z24 := Tryz.sizeOf40
  v24 := Tryz.zeroValue40
  t26 := Tryz.underlying9
  a26 := Tryz.isAgg9
  z26 := Tryz.sizeOf9
  v26 := Tryz.zeroValue9
  t28 := Tryz.underlying65
  a28 := Tryz.isAgg65
  z28 := Tryz.sizeOf65
  v28 := Tryz.zeroValue65
  i26 := by kernel_rfl }
theorem Tryz.keysStr8 : Go.Proofs.SlLaysZ.n8 Tryz.prog Tryz.keysStr_ren := {
  mixed := by kernel_rfl
  f8 := ⟨Tryz.f47.name, by decide, Tryz.func47.trans (congrArg some (by kernel_rfl))⟩
  f11 := ⟨Tryz.f63.name, by decide, Tryz.func63.trans (congrArg some (by kernel_rfl))⟩
  t0 := Tryz.underlying0
  a0 := Tryz.isAgg0
  z0 := Tryz.sizeOf0
  v0 := Tryz.zeroValue0
  t24 := Tryz.underlying40
  a24 := Tryz.isAgg40
  z24 := Tryz.sizeOf40
  v24 := Tryz.zeroValue40
  t26 := Tryz.underlying9
  a26 := Tryz.isAgg9
  z26 := Tryz.sizeOf9
  v26 := Tryz.zeroValue9
  t28 := Tryz.underlying65
  a28 := Tryz.isAgg65
  z28 := Tryz.sizeOf65
  v28 := Tryz.zeroValue65
  i26 := by kernel_rfl }
theorem Tryz.keysStr10 : Go.Proofs.SlLaysZ.n10 Tryz.prog Tryz.keysStr_ren := {
  mixed := by kernel_rfl
  f10 := ⟨Tryz.f49.name, by decide, Tryz.func49.trans (congrArg some (by kernel_rfl))⟩
  t0 := Tryz.underlying0
  a0 := Tryz.isAgg0
  z0 := Tryz.sizeOf0
  v0 := Tryz.zeroValue0
  t4 := Tryz.underlying4
  a4 := Tryz.isAgg4
  z4 := Tryz.sizeOf4
  v4 := Tryz.zeroValue4
  t23 := Tryz.underlying67
  a23 := Tryz.isAgg67
  z23 := Tryz.sizeOf67
  v23 := Tryz.zeroValue67
  t26 := Tryz.underlying9
  a26 := Tryz.isAgg9
  z26 := Tryz.sizeOf9
  v26 := Tryz.zeroValue9
  t33 := Tryz.underlying61
  a33 := Tryz.isAgg61
  z33 := Tryz.sizeOf61
  v33 := Tryz.zeroValue61 }
theorem Tryz.keysStr11 : Go.Proofs.SlLaysZ.n11 Tryz.prog Tryz.keysStr_ren := {
  mixed := by kernel_rfl
  f11 := ⟨Tryz.f63.name, by decide, Tryz.func63.trans (congrArg some (by kernel_rfl))⟩
  t0 := Tryz.underlying0
  a0 := Tryz.isAgg0
  z0 := Tryz.sizeOf0
  v0 := Tryz.zeroValue0
  t24 := Tryz.underlying40
  a24 := Tryz.isAgg40
  z24 := Tryz.sizeOf40
  v24 := Tryz.zeroValue40
  t26 := Tryz.underlying9
  a26 := Tryz.isAgg9
  z26 := Tryz.sizeOf9
  v26 := Tryz.zeroValue9
  t28 := Tryz.underlying65
  a28 := Tryz.isAgg65
  z28 := Tryz.sizeOf65
  v28 := Tryz.zeroValue65
  i26 := by kernel_rfl }
end Go.Proofs
