/- Circle of a relation of texts, by a contract. -/
import Derived.Test.YtadlgkakjaecdaaTc
import Derived.Test.YtadlgkakjaecdaaCi
namespace Go.Proofs.Ytadlgkakjaecdaa
open Go.RowKit Go.Maps Go.WideMaps Go.WideElems Go.ChangeShapes Go.WideShapes

/-- A map of counts. -/
structure AhdAtT (am N : Nat) (f : Int → Nat) (DA : DU) (W : World) : Prop where
  own : W.ownsMap Try.prog 9 plain3 am N DA
  val : ∀ b, FitT b → DA.atKey (tl b) (.lit (.int .i64 0)) = .lit (.int .i64 (f b : Int))
theorem AhdAtT.kept {am N : Nat} {f : Int → Nat} {DA : DU} {W W' : World} {row : Option Nat} (h : AhdAtT am N f DA W) (hg : W.grownBy W' row) (hne : some am ≠ row) : AhdAtT am N f DA W' := ⟨h.own.kept hg hne, h.val⟩
theorem AhdAtT.look {am N : Nat} {f : Int → Nat} {DA : DU} {W : World} (h : AhdAtT am N f DA W) {b : Int} (hb : FitT b) : (Instr.lookup 80 (.map (some am)) (tv b) false).run Try.prog W = .ok (.int .i64 (f b : Int)) W := by
  obtain ⟨c, hrun, hat, _⟩ := h.own.lookup_int enc9.keyed Try.underlying80 Try.underlying3 (zero3 W) (enc9.key b hb)
  rw [h.val b hb] at hat
  have e : (f b : Int) = c := by simpa using hat
  rw [hrun, e]
theorem AhdAtT.isMap {am N : Nat} {f : Int → Nat} {DA : DU} {W : World} (h : AhdAtT am N f DA W) : IsMap DA := by
  obtain ⟨es, clock, _, _, _, hD⟩ := h.own
  exact ⟨_, hD⟩
theorem AhdAtT.obj {am N : Nat} {f : Int → Nat} {DA : DU} {W : World} (h : AhdAtT am N f DA W) : ∃ o, W.heap[am]? = some o ∧ o.isCells = false := by
  obtain ⟨es, clock, hb, _⟩ := h.own
  exact ⟨_, hb, rfl⟩
theorem AhdAtT.put {am N N' : Nat} {f f' : Int → Nat} {DA : DU} {W W' : World} (h : AhdAtT am N f DA W) {b v : Int} (hb : FitT b) (hv : (f' b : Int) = v) (ho : ∀ c, c ≠ b → f' c = f c)
    (hown : W'.ownsMap Try.prog 9 plain3 am N' (DA.put (tl b) (.lit (.int .i64 v)))) : AhdAtT am N' f' (DA.put (tl b) (.lit (.int .i64 v))) W' := by
  refine ⟨hown, fun c hc => ?_⟩
  by_cases hcb : c = b
  · subst hcb
    rw [Maps.atKey_put_same h.isMap (enc9.keyed.key (enc9.key c hc)), hv]
  · have hne : tl c ≠ tl b := fun e => hcb (enc9.lit_inj hc hb e)
    rw [Maps.atKey_put_other hne, h.val c hc, ho c hcb]
theorem ahdT_made (w : World) : AhdAtT w.heap.size 0 (fun _ => 0) (.map []) (w.alloc (.map #[] 0)) := ⟨World.ownsMap_made w Try.prog 9 plain3, fun _ _ => rfl⟩
section
variable {B : Nat} {v : Value} {zs : List Int} {W W' : World} {o : Obj}
/-- A number was laid into a list of one's own: what else stands. -/
theorem RngX.pushT {mb rg n : Nat} {L : List Pr} {done : List Int} {Dn : DV} {left : Lit → Bool} {cnt : Nat} (h : RngX Try.prog 9 tl FitT asIs mb rg n (L.map (·.1)) done Dn left cnt W) (ho : OwnT W B v zs) (hg : (W.alloc o).grownBy W' v.ownBlock) : RngX Try.prog 9 tl FitT asIs mb rg n (L.map (·.1)) done Dn left cnt W' := by
  obtain ⟨⟨o1, h1, h1c⟩, ⟨o2, h2, h2c⟩⟩ := rngX_objs h
  exact h.keep ((World.grownBy_alloc W o _).trans hg) (fun e => row_no ho h1 h1c e.symm) (fun e => row_no ho h2 h2c e.symm)
theorem AhdAtT.push {am N : Nat} {f : Int → Nat} {DA : DU} (h : AhdAtT am N f DA W) (ho : OwnT W B v zs) (hg : (W.alloc o).grownBy W' v.ownBlock) : AhdAtT am N f DA W' := by
  obtain ⟨o1, h1, h1c⟩ := h.obj
  exact h.kept ((World.grownBy_alloc W o _).trans hg) (fun e => row_no ho h1 h1c e.symm)
theorem groT_push {V : World} (h : V.grownBy W none) (ho : OwnT W V.heap.size v zs) (hg : (W.alloc o).grownBy W' v.ownBlock) : V.grownBy W' none :=
  h.andThen ((World.grownBy_alloc W o _).trans hg) (fun _ e => .inl (ownT_lo ho e))
end
/-- Behind the counts: those that have none ahead. -/
structure Ci2T (V : World) (base mb rg n : Nat) (L : List Pr) (done : List Int) (Dn : DV) (left : Lit → Bool) (cnt : Nat) (DA : DU) (free : List Int) (v : Value) (W : World) : Prop where
  rngi : RngX Try.prog 9 tl FitT asIs mb rg n (L.map (·.1)) done Dn left cnt W
  ahd : AhdAtT V.heap.size L.length (inN L []) DA W
  gro : V.grownBy W none
  own : OwnT W V.heap.size v free
  once : free.Nodup
  mem : ∀ a, a ∈ free ↔ a ∈ done ∧ inN L [] a = 0
  head : ∀ a ∈ done, a ∈ L.map (·.1)
/-- Where they are taken out. -/
structure Ci3T (V : World) (L : List Pr) (Dd : List Int) (G : List Pr) (DA : DU) (free : List Int) (v : Value) (W : World) : Prop where
  ahd : AhdAtT V.heap.size (L.length + G.length) (inN L G) DA W
  gro : V.grownBy W none
  own : OwnT W V.heap.size v free
  kahn : Kahn L Dd G free
  len : free.length ≤ L.length + G.length
  fitf : ∀ x ∈ free, FitT x

set_option maxHeartbeats 4000000 in
set_option maxRecDepth 100000 in
theorem circleT_any (r b : Nat) (L : List Pr) (D : DU) (hn : L.length ≤ 10000) (w : World) (h : RelT r b L D w) :
    Calls Try.prog 34 #[.pointer (some ⟨r, 0, none⟩)] w fun e w' => ∃ c, e = .returned (.bool c) ∧ Hid ((c = true ↔ ∃ z, TC L z z) ∧ Below w.heap.size w w') := by
  obtain ⟨i9, hi9, hy0, hy1, hy2⟩ := info_parts elem9
  have hmm := @run_makeMap Try.prog
  have H := Lib.hid h
  have Hn := Lib.hid hn
  have Hfit := Lib.hid h.prs.dom.fit
  have Honce := Lib.hid h.prs.once
  have Hmid : Hid (∀ V : World, Below w.heap.size w V → ∃ U, V.alloc (.map #[] 0) = U ∧ U.heap.size = V.heap.size + 1 ∧ AhdAtT V.heap.size 0 (fun _ => 0) (.map []) U ∧ V.grownBy U none ∧ RelT r b L D U) := fun V hV => by
    refine ⟨_, rfl, by simp, ahdT_made V, World.grownBy_alloc V _ none, ?_⟩
    exact (h.below hV).kept (World.grownBy_alloc V _ none) (by simp) (by simp)
  clear h hn
  go_enter Try.func34, Try.ntmps34
  go_wp2_with (first
    | (go_at_call 43; refine (nextsT_any r b L D (by have := Hn.out; omega) _ H.out).mono ?_; rintro e V ⟨mb, done0, Dn, fn, rfl, h2⟩
       have HN : Hid (NextT V (w.heap.size + 1) mb done0.length L Dn V) := nextT_of h2.out.2.2.1 h2.out.1 h2.out.2.1
       have HW : Hid (Below w.heap.size w V) := h2.out.2.2.2.1
       obtain ⟨U, hU, hUs, hUa, hUg, hUr⟩ := Hmid.out V HW.out
       have HUs := Lib.hid hUs
       have HUa := Lib.hid hUa
       have HUg := Lib.hid hUg
       have HUr := Lib.hid hUr
       have c1 := HUr.out.box.cell
       clear h2 hUs hUa hUg hUr Hmid)
    | (at_range; refine wpList_range_own _ rfl _ 70 rfl 52 62 K52 Try.underlying70 unitElem b L.length D rfl HUr.out.prs.dom.own ?_; intro w2 hrg2 hg2 hs2)
    | go_in)
  go_frame
  have H2 : Hid (RngX Try.prog 52 tpl FitQ unitElem b U.heap.size L.length L [] D (has D) (Maps.size D) w2 ∧ AhdAtT V.heap.size 0 (endN []) (.map []) w2 ∧ V.grownBy w2 none) := ⟨rngX_start HUr.out.prs.dom hrg2, ⟨(HUa.out.kept hg2 (by simp)).own, fun _ _ => rfl⟩, HUg.out.trans hg2⟩
  obtain ⟨rg, hrg⟩ : ∃ rg, U.heap.size = rg := ⟨_, rfl⟩
  rw [hrg] at H2 ⊢
  have Hrg : Hid (rg = V.heap.size + 1) := by show _ = _; rw [← hrg, HUs.out]
  clear hrg2 hg2 hs2 hrg c1 HUr HUa HUg HUs
  go_loopw [5] (fun _ wr => ∃ done left cnt DA, Hid (RngX Try.prog 52 tpl FitQ unitElem b rg L.length L done D left cnt wr ∧ AhdAtT V.heap.size done.length (endN done) DA wr ∧ V.grownBy wr none)) (fun _ wr => wr.rangeLeft b rg)
  case atStart => exact ⟨[], _, _, _, H2⟩
  case round =>
    obtain ⟨done, left, cnt, DA, HR⟩ := hrel
    go_wp2_with (first | (at_next; refine wpList_next_ranges _ rfl _ rfl 52 K52 unitElem (fun x : ByteArray × ByteArray => .agg #[.string x.1, .string x.2]) (fun _ : Unit => .agg #[]) invQ invU b rg L.length D left cnt rfl HR.out.1.rng ?_ ?_) | go_in)
    · intro hc0 hl0
      have Hall := Lib.hid (rngX_all HR.out.1 Hfit.out hl0)
      have hlen : done.length = L.length := Nat.le_antisymm (nodup_len HR.out.1.once (fun p hp => (Hall.out p).1 hp)) (nodup_len Honce.out (fun p hp => (Hall.out p).2 hp))
      have HA : Hid (AhdAtT V.heap.size L.length (inN L []) DA wr) := by
        have h1 := HR.out.2.1
        rw [hlen] at h1
        exact ⟨h1.own, fun b hb => by rw [h1.val b hb, endN_in Honce.out HR.out.1.once Hall.out]⟩
      have Hgro : Hid (V.grownBy wr none) := HR.out.2.2
      have Hnx := Lib.hid (HN.out.kept Hgro.out (by simp))
      obtain ⟨base, hbase⟩ : ∃ k, w.heap.size + 1 = k := ⟨_, rfl⟩
      obtain ⟨n, hnn⟩ : ∃ k, done0.length = k := ⟨_, rfl⟩
      rw [hbase, hnn] at HN Hnx
      clear hc0 hl0 hlen HR Hall hbase hnn
      go_wp2_with (first | (at_range; refine wpList_range_own _ rfl _ 73 rfl 9 75 enc9.keyed Try.underlying73 asIs mb n Dn rfl Hnx.out.dom.own ?_; intro w2 hrg2 hg2 hs2) | go_in)
      have H2 : Hid (Ci2T V base mb wr.heap.size n L [] Dn (Maps.has Dn) (Maps.size Dn) DA [] (.slice none 0 0) w2) :=
        ⟨rngX_start HN.out.dom hrg2, HA.out.kept hg2 (by simp), Hgro.out.trans hg2, World.ownsRow_nil _ _ _ _, by simp, by simp, by simp⟩
      obtain ⟨rg2, hrg2'⟩ : ∃ rg, wr.heap.size = rg := ⟨_, rfl⟩
      rw [hrg2'] at H2 ⊢
      have Hrg2 : Hid (V.heap.size < rg2) := by
        obtain ⟨o, ho, _⟩ := HA.out.obj
        have := (Array.getElem?_eq_some_iff.1 ho).1
        show _ < _
        omega
      have Hmlt : Hid (mb < rg2) := by
        have := Hnx.out.dom.own.lt
        show _ < _
        omega
      obtain ⟨v0, hv0⟩ : ∃ v, Value.slice none 0 0 = v := ⟨_, rfl⟩
      clear hrg2 hg2 hs2 hrg2' Hnx HA Hgro hv0 v0
      go_frame
      go_loopw [6] (fun v wq => ∃ done left cnt free, Hid (Ci2T V base mb rg2 n L done Dn left cnt DA free v wq)) (fun _ wq => wq.rangeLeft mb rg2)
      case atStart => exact ⟨[], _, _, [], H2⟩
      case round =>
        obtain ⟨done2, left2, cnt2, free, HR⟩ := hrel
        go_wp2_with (first | (at_next; refine wpList_next_ranges _ rfl _ rfl 9 enc9.keyed asIs Value.string (fun c : Value => c) invT (fun v _ _ => ⟨v, rfl⟩) mb rg2 n Dn left2 cnt2 rfl HR.out.rngi.rng ?_ ?_) | go_in)
        · intro hc0 hl0
          have hall : ∀ x, x ∈ L.map (·.1) → x ∈ done2 := fun x hx => (rngX_all HR.out.rngi (fun y hy => HN.out.dom.fit y hy) hl0 x).2 hx
          have hlf : free.length ≤ L.length := by
            have h1 := nodup_lenI HR.out.once (G := L.map (·.1)) (fun x hx => HR.out.head x ((HR.out.mem x).1 hx).1)
            rwa [List.length_map] at h1
          have H3 : Hid (Ci3T V L [] [] DA free u6 wr) :=
            ⟨by simpa using HR.out.ahd, HR.out.gro, HR.out.own, Kahn.start (fun x => by rw [HR.out.mem x]; exact ⟨fun h => ⟨HR.out.head x h.1, h.2⟩, fun h => ⟨hall x h.1, h.2⟩⟩) HR.out.once, by simpa using hlf, fun x hx => by
              obtain ⟨q, hq, e⟩ := List.mem_map.1 (HR.out.head x ((HR.out.mem x).1 hx).1)
              exact e ▸ (Hfit.out q hq).1⟩
          have hHr := (H.out.below (HW.out)).kept HR.out.gro (by simp) (by simp)
          have c1 := hHr.box.cell
          have hl := hHr.prs.dom.own.len Try.underlying70
          rw [hHr.prs.size] at hl
          clear hc0 hl0 HR hall hlf hHr
          go_wp2
          clear c1 hl
          go_loopw [6, 8] (fun v v8 wq => ∃ (Dd : List Int) (G : List Pr) (DA : DU) (free : List Int) (q : Nat), v8 = .int .i64 q ∧ Hid (Ci3T V L Dd G DA free v wq ∧ (∀ p ∈ L, p.1 ∈ Dd → p ∈ G) ∧ q + G.length = L.length)) (fun v v8 _ => 2 * (intOf v8).toNat + lenOf v)
          case atStart => exact ⟨[], [], DA, free, L.length, rfl, H3.out, by simp, by simp⟩
          case round =>
            obtain ⟨Dd, G, DA3, free3, q, rfl, HR⟩ := hrel
            obtain ⟨p6, c6, rfl, hcap, hsl⟩ := textsT_sl HR.out.1.own
            rcases snoc_cases free3 with rfl | ⟨t', t, rfl⟩
            · simp only [List.length_nil] at hcap ⊢
              have hend := HR.out.1.kahn.end_ Honce.out HR.out.2.1
              have hq := HR.out.2.2
              clear hsl hcap
              have Hres : Hid (decide (0 < q) = true ↔ ∃ z, TC L z z) := by
                show _ ↔ _
                rw [← hend, decide_eq_true_eq]
                omega
              clear hend hq
              go_wp2
              go_ret
              exact ⟨_, rfl, Hres.out, HW.out.grown HR.out.1.gro HW.out.size (fun k e => by cases e)⟩
            · obtain ⟨g6, rfl, hgb, hgl, hcell⟩ := hsl (by simp)
              obtain ⟨k, hk⟩ : ∃ k, t'.length = k := ⟨_, rfl⟩
              have hlen : (t' ++ [t]).length = k + 1 := by simp [hk]
              have hGL : G.length ≤ L.length := by have := HR.out.2.2; omega
              have ht : FitT t ∧ t ∉ Dd ∧ Kahn L (Dd ++ [t]) G t' := ⟨HR.out.1.fitf t (by simp), HR.out.1.kahn.apart t (by simp), HR.out.1.kahn.pop⟩
              have ct0 := hcell k (by rw [hlen]; exact Nat.lt_succ_self k)
              have e0 : (t' ++ [t]).getD k 0 = t := by subst hk; simp
              rw [e0] at ct0
              have Hk : Hid (k + 1 ≤ 20000) := by
                have h1 := HR.out.1.len
                have h2 := Hn.out
                rw [hlen] at h1
                show _ ≤ _
                omega
              have hnw := HN.out.kept HR.out.1.gro (by simp)
              obtain ⟨v2, zs, hlook, hov, hzn, hzs⟩ := hnw.look ht.1
              have hovw : OwnT wr base v2 zs := hov.kept HR.out.1.gro (by cases v2.ownBlock <;> simp)
              obtain ⟨p2, c2, rfl, -, -⟩ := textsT_sl hovw
              have Hzl : Hid (zs.length ≤ 10000) := by
                have h1 := nodup_len (nodup_pairs t hzn) (G := L) (fun p hp => by
                  obtain ⟨y, hy, rfl⟩ := List.mem_map.1 hp
                  exact (hzs y).1 hy)
                rw [List.length_map] at h1
                have h2 := Hn.out
                show _ ≤ _
                omega
              have Hov := Lib.hid hov
              have Hzs := Lib.hid hzs
              have Hzn := Lib.hid hzn
              have Ht := Lib.hid ht
              have Hown : Hid (OwnT wr V.heap.size (.slice (some ⟨g6, 0, none⟩) k c6) t') := by
                have h2 : World.ownsRow _ _ _ _ _ _ _ := HR.out.1.own
                rw [hlen, textsC_snoc] at h2
                show World.ownsRow _ _ _ _ _ _ _
                rw [hk]
                exact ownsRow_pop (by rw [textsC_len, hk, Nat.mul_one]) h2
              rw [hlen] at hcap ⊢
              have hk0 := Hk.out
              have hg0 : decide ((0 : Int) < (k : Int) + 1) = true := by simp
              have hwr : IntKind.i64.wrap (k : Int) = (k : Int) := by rw [IntKind.wrap_i64]; omega
              have hix1 : (k : Int) < (k : Int) + 1 := by omega
              have hix2 : (k : Int) < ((k + 1 : Nat) : Int) := by omega
              have hix3 : k < k + 1 := by omega
              have hix0 : (0 : Int) ≤ (k : Int) := by omega
              have Hlen := Lib.hid hlen
              clear hov hzs hcell hlen e0 hzn hnw hovw hGL ht
              go_wp2
              obtain ⟨m, hm⟩ : ∃ m, zs.length = m := ⟨_, rfl⟩
              rw [hm] at Hov Hzl ⊢
              have Hm := Lib.hid hm
              obtain ⟨v6, hv6⟩ : ∃ v, Value.slice (some ⟨g6, 0, none⟩) k c6 = v := ⟨_, rfl⟩
              rw [hv6] at Hown ⊢
              have Hk6 := Lib.hid hk
              clear hm hv6 hk hcap ct0 hlook hgb hgl hg0 hwr hix0 hix1 hix2 hix3 hk0
              go_loopw [6, 8, 66] (fun v v8 i wq => ∃ (j : Nat) (free : List Int) (DA : DU) (q' : Nat), i = .int .i64 j ∧ v8 = .int .i64 q' ∧ j ≤ m ∧ Hid (Ci3T V L (Dd ++ [t]) (G ++ (zs.take j).map fun y => (t, y)) DA free v wq ∧ q' + j = q ∧ free.length ≤ k + j)) (fun _ _ i _ => m - (intOf i).toNat)
              case atStart => exact ⟨0, t', DA3, q, rfl, rfl, Nat.zero_le _, ⟨by simpa using HR.out.1.ahd, HR.out.1.gro, Hown.out, by simpa using Ht.out.2.2, by have h1 := HR.out.1.len; simp at h1 ⊢; omega, fun x hx => HR.out.1.fitf x (List.mem_append.2 (.inl hx))⟩, rfl, by rw [Hk6.out]; exact Nat.le_refl _⟩
              case round =>
                obtain ⟨j, free4, DA4, q', rfl, rfl, hjm, HT⟩ := hrel
                by_cases hj : j < m
                · have hjz : j < zs.length := by rw [Hm.out]; exact hj
                  have hov4 : OwnT wr base (.slice p2 m c2) zs := Hov.out.kept HT.out.1.gro (by cases (Value.slice p2 m c2).ownBlock <;> simp)
                  obtain ⟨g2, rfl, hc2⟩ := textsT_cell hov4 hjz
                  have hyz : zs.getD j 0 ∈ zs := by
                    rw [List.getD_eq_getElem?_getD, List.getElem?_eq_getElem hjz]
                    exact List.getElem_mem hjz
                  have htk : zs.take (j + 1) = zs.take j ++ [zs.getD j 0] := by
                    rw [List.take_add_one, List.getElem?_eq_getElem hjz, List.getD_eq_getElem?_getD, List.getElem?_eq_getElem hjz]
                    rfl
                  have hynew : zs.getD j 0 ∉ zs.take j := fun h => by
                    have h1 : (zs.take (j + 1)).Nodup := Hzn.out.sublist (List.take_sublist _ _)
                    rw [htk] at h1
                    exact (List.nodup_append.1 h1).2.2 _ h _ (by simp) rfl
                  generalize zs.getD j 0 = y at *
                  have Hty : Hid ((t, y) ∈ L) := (Hzs.out y).1 hyz
                  obtain ⟨G4, hG4⟩ : ∃ G4, G ++ (zs.take j).map (fun y => (t, y)) = G4 := ⟨_, rfl⟩
                  have hG5 : G ++ (zs.take (j + 1)).map (fun y => (t, y)) = G4 ++ [(t, y)] := by rw [htk, List.map_append, ← List.append_assoc, hG4]; rfl
                  have hnG : (t, y) ∉ G4 := fun h => by
                    rw [← hG4] at h
                    rcases List.mem_append.1 h with h1 | h1
                    · exact Ht.out.2.1 (HR.out.1.kahn.gsub _ h1).2
                    · obtain ⟨z, hz, e⟩ := List.mem_map.1 h1
                      cases e
                      exact hynew hz
                  have HT4 : Hid (Ci3T V L (Dd ++ [t]) G4 DA4 free4 u6 wr ∧ q' + j = q ∧ free4.length ≤ k + j) := by
                    have h1 := HT.out
                    rw [hG4] at h1
                    exact h1
                  have Hlay := Lib.hid (HT4.out.1.kahn.lay (by simp) Hty.out hnG)
                  have hin := inN_same Honce.out Hty.out hnG
                  have hfy : FitT y := (Hfit.out _ Hty.out).2
                  have hlook := HT4.out.1.ahd.look hfy
                  rw [← hin] at hlook
                  have Hoth : Hid (∀ c, c ≠ y → inN L (G4 ++ [(t, y)]) c = inN L G4 c) := fun c hc => inN_other hc
                  have HG5 := Lib.hid hG5
                  have hGlen : G4.length < L.length := by
                    have h1 : (G4 ++ [(t, y)]).Nodup := Hlay.out.gonce
                    have h2 := nodup_len h1 (fun p hp => (Hlay.out.gsub p hp).1)
                    simp at h2
                    omega
                  have HGlen := Lib.hid hGlen
                  obtain ⟨q2, rfl⟩ : ∃ q2, q' = q2 + 1 := by
                    have h1 := HR.out.2.2
                    have h2 := HT4.out.2.1
                    have h3 : G4.length = G.length + j := by
                      rw [← hG4, List.length_append, List.length_map, List.length_take, Nat.min_eq_left (Nat.le_of_lt hjz)]
                    exact ⟨q' - 1, by omega⟩
                  have hq2 : q2 ≤ 10000 := by
                    have h1 := HR.out.2.2
                    have h2 := HT4.out.2.1
                    have h3 := Hn.out
                    omega
                  have hcle := inN_le L (G4 ++ [(t, y)]) y
                  obtain ⟨c', hc'⟩ : ∃ c', inN L (G4 ++ [(t, y)]) y = c' := ⟨_, rfl⟩
                  rw [hc'] at hlook hcle Hlay
                  have Hc' := Lib.hid hc'
                  have hn0 := Hn.out
                  have hm0 := Hzl.out
                  have Hfy := Lib.hid hfy
                  have hwf : Hid (fit64 (c' : Int)) := fit_small (by omega) (by omega)
                  clear hjz hov4 hyz htk hynew hG4 hG5 hnG hin hfy hGlen hc' HT
                  by_cases h0 : c' = 0
                  · subst h0
                    have hz : ((0 : Nat) : Int) = 0 := rfl
                    rw [hz] at hwf
                    simp only [Nat.zero_add] at hlook
                    rw [if_pos rfl] at Hlay
                    go_wp2_with (first
                      | (at_mapUpdate; refine wpList_mapUpdate_own _ rfl _ _ _ 80 rfl 9 3 enc9.keyed Try.underlying80 plain3 V.heap.size (L.length + G4.length) DA4 rfl HT4.out.1.ahd.own (by unfold maxLen; have := HGlen.out; omega) _ _ _ rfl rfl (enc9.key y Hfy.out) _ [] (plainElem_int Try.underlying3 hwf.out) ?_; intro w7 hown7 hgrow7
                         have Hah7 : Hid (AhdAtT V.heap.size (L.length + (G4 ++ [(t, y)]).length) (inN L (G4 ++ [(t, y)])) (DA4.put (tl y) (.lit (.int .i64 0))) w7) := by
                           refine HT4.out.1.ahd.put Hfy.out (by rw [Hc'.out]; rfl) Hoth.out ?_
                           rw [List.length_append]
                           exact hown7
                         have Ho7 : Hid (OwnT w7 V.heap.size u6 free4) := by
                           obtain ⟨o1, h1, h1c⟩ := HT4.out.1.ahd.obj
                           exact HT4.out.1.own.kept hgrow7 (.inr (row_no HT4.out.1.own h1 h1c))
                         have Hgro7 : Hid (V.grownBy w7 none) := HT4.out.1.gro.andThen hgrow7 (fun j e => by cases e; exact .inl (Nat.le_refl _))
                         have HA7 : Hid (V.heap.size ≤ (w7.alloc (.cells #[tv y] 9)).heap.size) := by
                           have h1 := Hgro7.out.size
                           show _ ≤ (World.alloc _ _).heap.size
                           simp
                           omega
                         have hlook2 := Hah7.out.look Hfy.out
                         rw [Hc'.out] at hlook2
                         clear hown7 hgrow7)
                      | (at_builtin; refine wpList_append_own _ rfl _ _ 75 rfl V.heap.size 9 i9 (.string ⟨#[]⟩) 1 16 Try.underlying75 hi9 hy0 hy1 hy2 rfl (by decide) u6 free4.length (textsC free4) rfl (Ho7.out.alloc _) ⟨w7.heap.size, 0, none⟩ 1 1 [tv y] rfl rfl (news_new w7 #[tv y] 9) (by intro u hu; simp at hu; subst hu; rfl) (by unfold maxLen; have := HT4.out.2.2; have := Hk.out; omega) (by have := HT4.out.2.2; have := Hk.out; omega) HA7.out ?_)
                      | go_in)
                    intro v8 w8 hown8 hgrow8 hnil8
                    have HC : Hid (Ci3T V L (Dd ++ [t]) (G4 ++ [(t, y)]) (DA4.put (tl y) (.lit (.int .i64 0))) (free4 ++ [y]) v8 w8) := by
                      refine ⟨Hah7.out.push Ho7.out hgrow8, groT_push Hgro7.out Ho7.out hgrow8, OwnT.appended hown8, Hlay.out, ?_, fun x hx => ?_⟩
                      · have := HT4.out.1.len
                        simp
                        omega
                      · rcases List.mem_append.1 hx with h1 | h1
                        · exact HT4.out.1.fitf x h1
                        · simp at h1; subst h1; exact Hfy.out
                    clear hown8 hgrow8 hnil8
                    go_wp2
                    go_roundw
                    case rel =>
                      rw [← HG5.out] at HC
                      exact ⟨j + 1, free4 ++ [y], _, q2, rfl, rfl, by omega, HC.out, by have := HT4.out.2.1; omega, by have := HT4.out.2.2; simp; omega⟩
                    case measure => simp [intOf]; omega
                  · have hz : ((c' : Int) == 0) = false := by simpa using h0
                    rw [if_neg h0] at Hlay
                    go_wp2_with (first
                      | (at_mapUpdate; refine wpList_mapUpdate_own _ rfl _ _ _ 80 rfl 9 3 enc9.keyed Try.underlying80 plain3 V.heap.size (L.length + G4.length) DA4 rfl HT4.out.1.ahd.own (by unfold maxLen; have := HGlen.out; omega) _ _ _ rfl rfl (enc9.key y Hfy.out) _ [] (plainElem_int Try.underlying3 hwf.out) ?_; intro w7 hown7 hgrow7
                         have Hah7 : Hid (AhdAtT V.heap.size (L.length + (G4 ++ [(t, y)]).length) (inN L (G4 ++ [(t, y)])) (DA4.put (tl y) (.lit (.int .i64 (c' : Int)))) w7) := by
                           refine HT4.out.1.ahd.put Hfy.out (by rw [Hc'.out]) Hoth.out ?_
                           rw [List.length_append]
                           exact hown7
                         have Ho7 : Hid (OwnT w7 V.heap.size u6 free4) := by
                           obtain ⟨o1, h1, h1c⟩ := HT4.out.1.ahd.obj
                           exact HT4.out.1.own.kept hgrow7 (.inr (row_no HT4.out.1.own h1 h1c))
                         have Hgro7 : Hid (V.grownBy w7 none) := HT4.out.1.gro.andThen hgrow7 (fun j e => by cases e; exact .inl (Nat.le_refl _))
                         have HA7 : Hid (V.heap.size ≤ (w7.alloc (.cells #[tv y] 9)).heap.size) := by
                           have h1 := Hgro7.out.size
                           show _ ≤ (World.alloc _ _).heap.size
                           simp
                           omega
                         have hlook2 := Hah7.out.look Hfy.out
                         rw [Hc'.out] at hlook2
                         clear hown7 hgrow7)
                      | go_in)
                    have HC : Hid (Ci3T V L (Dd ++ [t]) (G4 ++ [(t, y)]) (DA4.put (tl y) (.lit (.int .i64 (c' : Int)))) free4 u6 w7) :=
                      ⟨Hah7.out, Hgro7.out, Ho7.out, Hlay.out, by have := HT4.out.1.len; simp; omega, HT4.out.1.fitf⟩
                    go_roundw
                    case rel =>
                      rw [← HG5.out] at HC
                      exact ⟨j + 1, free4, _, q2, rfl, rfl, by omega, HC.out, by have := HT4.out.2.1; omega, by have := HT4.out.2.2; omega⟩
                    case measure => simp [intOf]; omega
                · have hjm' : j = m := by omega
                  subst hjm'
                  clear hj hjm
                  go_wp2
                  go_roundw
                  case rel =>
                    have htk : zs.take j = zs := by rw [← Hm.out, List.take_length]
                    have h1 := HT.out
                    rw [htk] at h1
                    refine ⟨Dd ++ [t], _, _, free4, q', rfl, h1.1, fun p hp hpd => ?_, ?_⟩
                    · rcases List.mem_append.1 hpd with h2 | h2
                      · exact List.mem_append.2 (.inl (HR.out.2.1 p hp h2))
                      · simp at h2
                        refine List.mem_append.2 (.inr (List.mem_map.2 ⟨p.2, (Hzs.out _).2 ?_, by rw [← h2]⟩))
                        rw [← h2]
                        exact hp
                    · have h3 := HR.out.2.2
                      have h4 := Hm.out
                      have h5 := h1.2.1
                      rw [List.length_append, List.length_map]
                      omega
                  case measure =>
                    have h1 := HT.out.2.1
                    have h2 := HT.out.2.2
                    rw [ownT_len HT.out.1.own]
                    show 2 * (intOf (Value.int .i64 (q' : Int))).toNat + _ < 2 * (intOf (Value.int .i64 (q : Int))).toNat + (k + 1)
                    simp only [intOf, Int.toNat_natCast]
                    omega
        · intro s1 c kl y1 y2 w3 cnt3 hkx hlk hv hat hrg3 hlt3 hg3 hs3 hen
          obtain ⟨a, left3, hke, rfl, hfa, haL, han, hrng⟩ := rngX_more enc9 HR.out.rngi (fun x hx => HN.out.dom.fit x hx) hkx hlk hrg3
          obtain rfl : s1 = tb a := by simpa using hke
          clear hke
          have hne : some V.heap.size ≠ some rg2 := fun e => by
            have h1 : V.heap.size = rg2 := by simpa using e
            have h2 := Hrg2.out
            omega
          obtain ⟨o2, ho2, ho2c⟩ := (rngX_objs HR.out.rngi).2
          have hA3 := HR.out.ahd.kept hg3 hne
          have ho3 := HR.out.own.kept hg3 (.inr (row_no HR.out.own ho2 ho2c))
          have hgro3 : V.grownBy w3 none := HR.out.gro.andThen hg3 (fun j e => by cases e; exact .inl (Nat.le_of_lt Hrg2.out))
          have hlook := hA3.look hfa
          have hlf : free.length ≤ L.length := by
            have h1 := nodup_lenI HR.out.once (G := L.map (·.1)) (fun x hx => HR.out.head x ((HR.out.mem x).1 hx).1)
            rwa [List.length_map] at h1
          have Hlf := Lib.hid (Nat.le_trans hlf Hn.out)
          have Hlt3 : Hid (cnt3 < wr.rangeLeft mb rg2) := by show _ < _; rw [HR.out.rngi.rng.left_eq]; exact hlt3
          have Hfa := Lib.hid hfa
          have Han := Lib.hid han
          have HaL := Lib.hid haL
          have Hrng := Lib.hid hrng
          have HA3 := Lib.hid hA3
          have Ho3 := Lib.hid ho3
          have Hgro3 := Lib.hid hgro3
          clear hkx hlk hv hat hrg3 hlt3 hg3 hs3 hfa haL han hrng hne ho2 hA3 ho3 hgro3 hlf
          have Hhead : Hid (∀ x ∈ done2 ++ [a], x ∈ L.map (·.1)) := fun x hx => by
            rcases List.mem_append.1 hx with h1 | h1
            · exact HR.out.head x h1
            · simp at h1; subst h1; exact HaL.out
          by_cases h0 : inN L [] a = 0
          · have H0 := Lib.hid h0
            rw [h0] at hlook
            clear h0
            have HA : Hid (V.heap.size ≤ (w3.alloc (.cells #[tv a] 9)).heap.size) := by
              have h1 := Hgro3.out.size
              show _ ≤ (World.alloc _ _).heap.size
              simp
              omega
            go_wp2_with (first
              | (at_builtin; refine wpList_append_own _ rfl _ _ 75 rfl V.heap.size 9 i9 (.string ⟨#[]⟩) 1 16 Try.underlying75 hi9 hy0 hy1 hy2 rfl (by decide) u6 free.length (textsC free) rfl (Ho3.out.alloc _) ⟨w3.heap.size, 0, none⟩ 1 1 [tv a] rfl rfl (news_new w3 #[tv a] 9) (by intro u hu; simp at hu; subst hu; rfl) (by unfold maxLen; have := Hlf.out; omega) (by have := Hlf.out; omega) HA.out ?_)
              | go_in)
            intro v7 w7 hown7 hgrow7 hnil7
            have HP : Hid (Ci2T V base mb rg2 n L (done2 ++ [a]) Dn left3 cnt3 DA (free ++ [a]) v7 w7) := by
              refine ⟨Hrng.out.pushT Ho3.out hgrow7, HA3.out.push Ho3.out hgrow7, groT_push Hgro3.out Ho3.out hgrow7, OwnT.appended hown7, ?_, fun x => ?_, Hhead.out⟩
              · exact List.nodup_append.2 ⟨HR.out.once, by simp, fun x hx z hz => by simp at hz; subst hz; exact fun e => Han.out (e ▸ ((HR.out.mem x).1 hx).1)⟩
              · rw [List.mem_append, HR.out.mem x, List.mem_append, List.mem_singleton]
                constructor
                · rintro (⟨h1, h2⟩ | h1)
                  · exact ⟨.inl h1, h2⟩
                  · exact ⟨.inr h1, h1 ▸ H0.out⟩
                · rintro ⟨h1 | h1, h2⟩
                  · exact .inl ⟨h1, h2⟩
                  · exact .inr h1
            have Hm7 : Hid (w7.rangeLeft mb rg2 < wr.rangeLeft mb rg2) := by show _ < _; rw [HP.out.rngi.rng.left_eq]; exact Hlt3.out
            clear hown7 hgrow7 hnil7
            go_wp2
            go_roundw
            case rel => exact ⟨_, _, _, _, HP.out⟩
            case measure => exact Hm7.out
          · have H0 := Lib.hid h0
            have hq : ((inN L [] a : Int) == 0) = false := by simpa using h0
            clear h0
            go_wp2
            go_roundw
            case rel =>
              refine ⟨_, _, _, free, Hrng.out, HA3.out, Hgro3.out, Ho3.out, HR.out.once, fun x => ?_, Hhead.out⟩
              rw [HR.out.mem x, List.mem_append, List.mem_singleton]
              constructor
              · rintro ⟨h1, h2⟩
                exact ⟨.inl h1, h2⟩
              · rintro ⟨h1 | h1, h2⟩
                · exact ⟨h1, h2⟩
                · exact absurd (h1 ▸ h2) H0.out
            case measure =>
              show World.rangeLeft _ _ _ < _
              rw [Hrng.out.rng.left_eq]
              exact Hlt3.out
    · intro s1 s2 kl y1 y2 w3 cnt3 hkx hlk hv hat hrg3 hlt3 hg3 hs3 hen
      obtain ⟨⟨x1, x2⟩, left3, hke, rfl, hfx, hxL, hxn, hrng⟩ := rngX_more enc52 HR.out.1 Hfit.out hkx hlk hrg3
      obtain ⟨rfl, rfl⟩ : s1 = tb x1 ∧ s2 = tb x2 := by simpa using hke
      clear hke
      have hle : done.length < L.length := by
        have := nodup_len hrng.once hrng.sub
        simp at this
        omega
      have Hle := Lib.hid (Nat.lt_of_lt_of_le hle Hn.out)
      have hgro3 : V.grownBy w3 none := HR.out.2.2.andThen hg3 (fun j e => by cases e; left; rw [Hrg.out]; omega)
      obtain ⟨W4, hW4, hb4, hs4, k0, k1⟩ := two_new w3 (tv x1) (tv x2) 52
      have Hrng4 := Lib.hid (hrng.keep (grown_below hb4.out) (by simp) (by simp))
      have hVr : some V.heap.size ≠ some rg := fun e => by
        have h1 : V.heap.size = rg := by simpa using e
        have h2 := Hrg.out
        omega
      have Hah4 : Hid (AhdAtT V.heap.size done.length (endN done) DA W4) := (HR.out.2.1.kept hg3 hVr).kept (grown_below hb4.out) (by simp)
      have Hgro4 : Hid (V.grownBy W4 none) := hgro3.trans (grown_below hb4.out)
      have Hm4 : Hid (W4.rangeLeft b rg < wr.rangeLeft b rg) := by show _ < _; rw [Hrng4.out.rng.left_eq, HR.out.1.rng.left_eq]; exact hlt3
      have Hfx := Lib.hid hfx
      have hlook := Hah4.out.look hfx.2
      have hle2 := endN_le done x2
      have hle3 := Hle.out
      have hwf : Hid (fit64 ((endN done x2 : Int) + 1)) := fit_small (by omega) (by omega)
      have HVb : Hid (b < V.heap.size) := by
        have h1 := H.out.blt
        have h2 := HW.out.size
        show _ < _
        omega
      clear hkx hlk hv hat hrg3 hlt3 hg3 hs3 hxL hxn hrng hgro3 hle hfx hVr
      go_wp2_with (first
        | (at_mapUpdate; refine wpList_mapUpdate_own _ rfl _ _ _ 80 rfl 9 3 enc9.keyed Try.underlying80 plain3 V.heap.size done.length DA rfl Hah4.out.own (by unfold maxLen; omega) _ _ _ rfl rfl (enc9.key x2 Hfx.out.2) _ [] (plainElem_int Try.underlying3 hwf.out) ?_; intro w7 hown7 hgrow7)
        | go_in)
      have Hah7 : Hid (AhdAtT V.heap.size (done ++ [(x1, x2)]).length (endN (done ++ [(x1, x2)])) (DA.put (tl x2) (.lit (.int .i64 ((endN done x2 : Int) + 1)))) w7) := by
        show AhdAtT _ _ _ _ _
        refine Hah4.out.put Hfx.out.2 (by rw [endN_same done (x1, x2)]; rfl) (fun c hc => endN_other done (x1, x2) hc) ?_
        rw [List.length_append]
        exact hown7
      obtain ⟨og, hog, hogc⟩ := Hah4.out.obj
      have hnb : some b ≠ some V.heap.size := fun e => by
        have h1 : b = V.heap.size := by simpa using e
        have h2 := HVb.out
        omega
      have hnr : some rg ≠ some V.heap.size := fun e => by
        have h1 : rg = V.heap.size := by simpa using e
        have h2 := Hrg.out
        omega
      have Hrng7 := Lib.hid (Hrng4.out.keep hgrow7 hnb hnr)
      have Hgro7 : Hid (V.grownBy w7 none) := Hgro4.out.andThen hgrow7 (fun j e => by cases e; exact .inl (Nat.le_refl _))
      have Hm7 : Hid (w7.rangeLeft b rg < wr.rangeLeft b rg) := by
        have h1 := Hm4.out
        rw [Hrng4.out.rng.left_eq] at h1
        show _ < _
        rw [Hrng7.out.rng.left_eq]
        exact h1
      clear hown7 hgrow7 hog hogc hnb hnr
      go_wp2
      go_roundw
      case rel => exact ⟨done ++ [(x1, x2)], _, _, _, Hrng7.out, Hah7.out, Hgro7.out⟩
      case measure => exact Hm7.out
end Go.Proofs.Ytadlgkakjaecdaa
