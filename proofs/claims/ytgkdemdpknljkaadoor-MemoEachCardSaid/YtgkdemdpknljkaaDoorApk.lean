/- append onto a slice that the call owns, with one limb more: what lay in the old row lies there still. No program is named but in the last theorem. -/
import Derived.Test.YtgkdemdpknljkaaDoorSeti
namespace Go.Proofs.YtgkdemdpknljkaaDoor
open Go.RowKit Go.Maps Go.WideMaps Go.WideElems Go.ChangeShapes Go.WideShapes

/-- The elements of v lie in W' where they lay in W. -/
def RowStays (v : Value) (n : Nat) (W W' : World) : Prop := ∀ g cap, v = .slice (some ⟨g, 0, none⟩) n cap → ∀ j u, j < n → W.cell? ⟨g, j, none⟩ = some u → W'.cell? ⟨g, j, none⟩ = some u

theorem RowStays.refl (v : Value) (n : Nat) (W : World) : RowStays v n W W := fun _ _ _ _ _ _ h => h
theorem RowStays.trans {v : Value} {n : Nat} {A B C : World} (h : RowStays v n A B) (k : RowStays v n B C) : RowStays v n A C := fun g cap e j u hj hu => k g cap e j u hj (h g cap e j u hj hu)
theorem RowStays.of_only {v : Value} {n : Nat} {F : Nat → Prop} {A B : World} (ho : Only F A B) (hF : ∀ b, v.ownBlock = some b → ¬ F b) : RowStays v n A B := fun g cap e j u _ hu => by
  subst e
  exact (World.cell?_of_block (w := A) (ho.block g (World.block_lt_of_cell? A _ hu) (hF g rfl))).trans hu

theorem addz (g j : Nat) : (⟨g, 0, none⟩ : Addr).add j = ⟨g, j, none⟩ := by simp [Addr.add]; omega

theorem append_keeps {P : Program} (w : World) (base : Nat) (t ty e : TypeId) (i : TypeInfo) (z : Value) (bytes : Nat) (ht : P.underlying t = some (.slice e)) (hi : P.info? e = some i) (hz : i.zero = some z)
    (hsize : i.size = 1) (hby : i.bytes = bytes) (hzs : z.cells.size = 1)
    (v : Value) (n : Nat) (xs : List Value) (hown : w.ownsRow base e 1 v n xs)
    (a : Addr) (m c : Nat) (news : List Value) (hl : news.length = m * 1) (hnews : ∀ j u, news[j]? = some u → w.cell? (a.add j) = some u) (h1 : ∀ u ∈ news, u.oneCell' = true)
    (h63 : n + m ≤ maxLen) (hbytes : (n + m) * bytes ≤ 140737488355328) (hbase : base ≤ w.heap.size) :
    ∃ v' w', (Builtin.append_ #[t, t] ty #[v, .slice (some a) m c]).run P w = .ok v' w' ∧ w'.ownsRow base e 1 v' (n + m) (xs ++ news) ∧ w.grownBy w' v.ownBlock ∧
      (v'.ownBlock = v.ownBlock ∨ v'.ownBlock = some w.heap.size) ∧ RowStays v n w w' := by
  obtain ⟨v', w', hr, h2, h3, _, h5⟩ := run_append_own_at (P := P) w base t ty e i z 1 bytes ht hi hz hsize hby hzs (by decide) v n xs hown a m c news hl hnews h1 h63 hbytes hbase
  refine ⟨v', w', hr, h2, h3, h5, ?_⟩
  rintro g cap rfl j u hj hu
  have hx : xs[j]? = some u := by
    have hlen := hown.1
    obtain ⟨y, hy⟩ : ∃ y, xs[j]? = some y := ⟨_, List.getElem?_eq_getElem (by omega)⟩
    have hc := hown.cells (g := g) rfl j y hy
    rw [addz g j] at hc
    rw [hc] at hu
    rw [hy, hu]
  rcases hown.2 with ⟨e1, _⟩ | ⟨g', cap', cur, e1, hbg, hg, hnc, hcm, hcs, _⟩
  · cases e1
  cases e1
  by_cases hroom : n + m ≤ cap
  · have hb : v'.ownBlock = some g := by
      rcases h5 with h | h
      · exact h
      · have hlt := lt_of_block hg
        have hr2 := run_append_room (P := P) (ty := ty) w t e i ht hi g n cap cur hg a m c news (by rw [hsize]; exact hl) hnews h1 hroom (by rw [hsize, hl, hcs, ← Nat.add_mul]; exact Nat.mul_le_mul_right _ hroom)
        rw [hr] at hr2
        cases hr2
        exact rfl
    rcases h2.2 with ⟨e2, _⟩ | ⟨g2, c2, _, e2, _⟩
    · rw [e2] at hb; cases hb
    · subst e2
      have hgg : g2 = g := by simpa [Value.ownBlock] using hb
      rw [hgg] at h2
      have hc := h2.cells (g := g) rfl j u (by rw [List.getElem?_append_left (by have := hown.1; omega)]; exact hx)
      rwa [addz g j] at hc
  · have hr2 := run_append_grow (P := P) w t ty e i z ht hi hz ⟨g, 0, none⟩ n cap xs (by rw [hsize]; exact hown.1) (hown.cells (g := g) rfl) a m c news (by rw [hsize]; exact hl) hnews (by omega) (by unfold maxLen at h63; omega) (growslice_fits (by omega) (by rw [hby]; exact hbytes))
    rw [hr] at hr2
    cases hr2
    exact (World.cell?_of_block (w := w) (heap_alloc_old w.drew _ (lt_of_block hg))).trans hu

theorem wpList_append_keeps {P : Program} {ops : Array Oper} {rest : List Oper} {o : Oper} {a : Act} {w : World} {Q : Exit → Act → World → Prop} (hgd : o.guard = none) (s x : Operand) (t : TypeId)
    (ho : o.op = .call { callee := .builtin .append, args := #[s, x], argTypes := #[t, t] })
    (base : Nat) (e : TypeId) (i : TypeInfo) (z : Value) (bytes : Nat) (ht : P.underlying t = some (.slice e)) (hi : P.info? e = some i) (hz : i.zero = some z)
    (hsize : i.size = 1) (hby : i.bytes = bytes) (hzs : z.cells.size = 1)
    (v : Value) (n : Nat) (xs : List Value) (hs : a.eval s = v) (hown : w.ownsRow base e 1 v n xs)
    (ad : Addr) (m c : Nat) (news : List Value) (hx : a.eval x = .slice (some ad) m c) (hl : news.length = m * 1) (hnews : ∀ j u, news[j]? = some u → w.cell? (ad.add j) = some u) (h1 : ∀ u ∈ news, u.oneCell' = true)
    (h63 : n + m ≤ maxLen) (hbytes : (n + m) * bytes ≤ 140737488355328) (hbase : base ≤ w.heap.size)
    (h : ∀ v' w', w'.ownsRow base e 1 v' (n + m) (xs ++ news) → w.grownBy w' v.ownBlock → (v'.ownBlock = v.ownBlock ∨ v'.ownBlock = some w.heap.size) → RowStays v n w w' → wpList P ops Q rest (a.put o.dst v') w') :
    wpList P ops Q (o :: rest) a w := by
  refine wpList_plain hgd fun K hK => ?_
  obtain ⟨v', w', hr, h2, h3, h4, h5⟩ := append_keeps (P := P) w base t o.type e i z bytes ht hi hz hsize hby hzs v n xs hown ad m c news hl hnews h1 h63 hbytes hbase
  unfold Oper.wp execOp
  simp only [ho, resolve, invoke, builtin, Sem.run_bind, Sem.run_pure, Result.andThen_ok, List.map_toArray, List.map_cons, List.map_nil, hs, hx, hr]
  exact hK _ _ (h v' w' h2 h3 h4 h5)

theorem ixi_put2 (sb o : Nat) (cs : Array Value) (T : TypeId) (s : Int) (x : Int) (w : World) (mv : Value) (n : Nat) (f : Lit → Option Int) (hs : (Lit.int .i64 s).wf = true) (hn : n < maxLen) (hb : w.heap[sb]? = some (.cells cs T (0, 0))) (ho : cs[o]? = some mv) (hi : IxI Tryd.prog 3 w mv n f) :
    Calls Tryd.prog 38 #[.pointer (some ⟨sb, o, none⟩), .int .i64 s, .int .i64 x] w fun e w' => e = .returned (.tuple #[]) ∧ ∃ mv', IxPut 3 sb o cs T mv (n + 1) (upd f (.int .i64 s) x) w w' mv' ∧ ∀ b, mv = .map (some b) → mv' = mv := by
  by_cases hm : ∃ b, mv = .map (some b)
  · have hlt := lt_of_block hb
    obtain ⟨b0, rfl⟩ := hm
    rcases hi with ⟨e, hf⟩ | ⟨b, D, e, hown, hr⟩
    · cases e
    cases e
    refine (ixi_put_own sb o cs T s x w b0 n D hs hn hb ho hown).mono ?_
    rintro e w' ⟨rfl, hown', hg⟩
    have hne : b0 ≠ sb := by
      rintro rfl
      obtain ⟨es, clock, hb', _⟩ := hown
      rw [hb] at hb'; cases hb'
    refine ⟨rfl, .map (some b0), ⟨?_, ?_, ?_, fun b' h => .inl h⟩, fun _ _ => rfl⟩
    · exact IxI.put (isKeyI _) hown' hown.isMap hr
    · rw [hg.block sb hlt (by simp; omega), hb, set_same ho]
    · exact (Only.of_grown hg).mono (fun i hi => .inl (.inr (by cases hi; rfl)))
  · refine (ixi_put sb o cs T s x w mv n f hs hn hb ho hi).mono ?_
    rintro e w' ⟨rfl, mv', hp⟩
    exact ⟨rfl, mv', hp, fun b hb => absurd ⟨b, hb⟩ hm⟩

set_option maxHeartbeats 800000 in
theorem seti_add_keeps (B sb : Nat) (v mv : Value) (m : Int) (ks : List Lit) (vs : List Value) (s : Int) (w : World) (hs : (Lit.int .i64 s).wf = true) (h : SetI 3 76 B w sb v mv m ks vs) (hin : (idxOf ks (.int .i64 s)).isSome = false) (hfull : (ks.length : Int) < m)
    (hsmall : ks.length < 1000000) (hB : B ≤ w.heap.size) :
    Calls Tryd.prog 10 #[.pointer (some ⟨sb, 0, none⟩), .int .i64 s] w fun e w' => e = .returned (.tuple #[.bool true, .nilIface]) ∧ ∃ v' mv', AddPost 3 76 B w sb v mv m (ks ++ [.int .i64 s]) (vs ++ [.int .i64 s]) w' v' mv' ∧ RowStays v vs.length w w' ∧ ∀ b, mv = .map (some b) → mv' = mv := by
  have hnone : idxOf ks (.int .i64 s) = none := by simpa using hin
  have hget := seti_has B sb v mv m ks vs s w hs h
  rw [hin] at hget
  generalize (idxOf ks (.int .i64 s)).getD 0 = c at *
  have ho := Only.of_alloc w (.cells #[.int .i64 c] 85)
  have hI1 := h.only ho (fun _ _ x => x)
  have hroom := seti_room B sb v mv m ks vs (w.alloc (.cells #[.int .i64 c] 85)) hI1
  have hne : ((m - (ks.length : Int)) == 0) = false := by simp; omega
  generalize m - (ks.length : Int) = d at *
  have Hget := Lib.hid hget
  have Hroom := Lib.hid hroom
  have Hh := Lib.hid h
  have HI1 := Lib.hid hI1
  have Hn := Lib.hid hnone
  clear hget hroom h hin hI1 hnone
  go_enter Tryd.func10, Tryd.ntmps10
  go_wp2_with (first | (go_at_call 15; refine Hget.out.mono ?_; rintro e w' ⟨rfl, rfl⟩) | (go_at_call 14; refine Hroom.out.mono ?_; rintro e w' ⟨rfl, nq, hw1⟩))
  have ho2 : Only (fun _ => False) w w' := by rw [← hw1]; exact ho.trans (Only.of_drewN _ nq) (fun _ h => h) (fun _ h => .inl h)
  have hI2 : SetI 3 76 B w' sb v mv m ks vs := by rw [← hw1]; exact HI1.out.only (Only.of_drewN _ nq) (fun _ _ x => x)
  clear hw1 HI1 Hroom Hget ho
  have hsz : w.heap.size ≤ w'.heap.size := ho2.size
  have c1 := hI2.cell1
  have c2 := hI2.cell2
  obtain ⟨a0, cp, rfl⟩ := ownsRow_shape hI2.row
  have Ho2 := Lib.hid ho2
  have HI2 := Lib.hid hI2
  clear ho2 hI2
  rw [← Hh.out.len] at c1
  go_still_tail 9, (by kernel_rfl)
  change wpList _ _ _ _ _ w'.drew
  generalize hwd : w'.drew = w2 at *
  have Ho3 : Hid (Only (fun _ => False) w w2) := by rw [← hwd]; exact Ho2.out.trans (Only.of_drew _) (fun _ h => h) (fun _ h => .inl h)
  have HI3 : Hid (SetI 3 76 B w2 sb (.slice a0 vs.length cp) mv m ks vs) := by rw [← hwd]; exact HI2.out.only (Only.of_drew _) (fun _ _ x => x)
  clear Ho2 HI2 c1 c2 hwd hsz
  go_wp2_with fail
  refine (ixi_put2 sb 2 #[.int .i64 m, .slice a0 vs.length cp, mv] 76 s ks.length w2 mv ks.length (idxOf ks) hs (by unfold maxLen; omega) HI3.out.cells rfl HI3.out.ix).mono ?_
  rintro e w3 ⟨rfl, mv', hp, hsame⟩
  have Hsame := Lib.hid hsame
  clear hsame
  have hcs : w3.heap[sb]? = some (.cells #[.int .i64 m, .slice a0 vs.length cp, mv'] 76 (0, 0)) := hp.cells
  have hsz2 : w.heap.size ≤ w2.heap.size := Ho3.out.size
  have hsz3 : w2.heap.size ≤ w3.heap.size := hp.only.size
  have hap := HI3.out.apart (by decide)
  have hrow3 : w3.ownsRow B 3 1 (.slice a0 vs.length cp) vs.length vs := ownsRow_only HI3.out.row hp.only hap
  have hlv := HI3.out.len
  have c1 : w3.cell? ⟨sb, 1, none⟩ = some (.slice a0 vs.length cp) := by simp [World.cell?, hcs]
  obtain ⟨i0, hi, hz0, hz1, hz2⟩ := info_parts Tryd.info3
  have HP := Lib.hid hp
  have Hcs := Lib.hid hcs
  have Hlv := Lib.hid hlv
  have Hap := Lib.hid hap
  clear hp hcs hlv hap
  have hsm : vs.length < 1000000 := by rw [← Hlv.out]; exact hsmall
  go_wp2_with (first | (at_builtin; refine wpList_append_keeps rfl _ _ 22 rfl B 3 i0 (.int .i64 0) 8 Tryd.under22 hi hz0 hz1 hz2 rfl _ _ _ rfl (hrow3.alloc _) ⟨w3.heap.size, 0, none⟩ 1 1 [.int .i64 s] rfl rfl (cell_one_new _ _ _) ?c2 ?c3 ?c4 ?c5 ?_))
  case c2 => intro u hu; simp at hu; subst hu; rfl
  case c3 => unfold maxLen; omega
  case c4 => omega
  case c5 => simp; omega
  intro v' w4 hown4 hgrow4 hloc hst4
  have hstay : RowStays (.slice a0 vs.length cp) vs.length w (w4.setCell ⟨sb, 1, none⟩ v') :=
    ((((RowStays.of_only Ho3.out (fun _ _ h => h)).trans (RowStays.of_only HP.out.only Hap.out)).trans (RowStays.of_only (Only.of_alloc w3 _) (fun _ _ h => h))).trans hst4).trans (RowStays.of_only (Only.of_setCell w4 ⟨sb, 1, none⟩ v') (fun b hb e => Hap.out b hb (.inl e)))
  have Hstay := Lib.hid hstay
  clear hst4 hstay
  have hpost := addPost_mk (by decide) HI3.out Ho3.out hB hfull Hn.out HP.out hown4 hgrow4 (fun b hb => by
    rcases hloc with h | h
    · exact .inl (h ▸ hb)
    · rw [h] at hb; cases hb; exact .inr (by simp))
  have Hpost := Lib.hid hpost
  have c4 : w4.cell? ⟨sb, 1, none⟩ = some (.slice a0 vs.length cp) := by
    rw [World.cell?_of_block (w := w3.alloc (.cells #[.int .i64 s] 3)) (hgrow4.block sb (by have := lt_of_block Hcs.out; simp; omega) (fun e => Hap.out sb e.symm (.inl rfl))), World.cell?_alloc_past _ _ _ (by exact lt_of_block Hcs.out)]
    exact c1
  have f4 : w4.frozen? ⟨sb, 1, none⟩ = false := by
    rw [World.frozen?_of_block (w := w3.alloc (.cells #[.int .i64 s] 3)) (hgrow4.block sb (by have := lt_of_block Hcs.out; simp; omega) (fun e => Hap.out sb e.symm (.inl rfl))), World.frozen?_of_block (Below.heap_alloc _ _ _ (by exact lt_of_block Hcs.out))]
    simp [World.frozen?, Hcs.out]
  obtain ⟨a4, cp4, rfl⟩ := ownsRow_shape hown4
  clear hown4 hgrow4 hloc hpost hrow3 c1
  go_wp2
  go_ret2
  exact ⟨rfl, _, _, Hpost.out, Hstay.out, Hsame.out⟩
end Go.Proofs.YtgkdemdpknljkaaDoor
