/- Add of a set of texts: the three ways, by contracts. -/
import Derived.Test.YtgkdemdpknljkaaDoorSets
import Derived.StillTailTactics
import Derived.Maps.AppendAt
namespace Go.Proofs.YtgkdemdpknljkaaDoor
open Go.RowKit Go.Maps Go.WideMaps Go.WideElems Go.ChangeShapes Go.WideShapes

theorem Tryd.under57 : Tryd.prog.underlying 57 = some (.slice 9) := by kernel_rfl
theorem Tryd.info9 : (Tryd.prog.info? 9).map (fun i => (i.zero, i.size, i.bytes)) = some (some (.string ⟨#[]⟩), 1, 16) := by kernel_rfl

theorem idxOf_snoc {ks : List Lit} {l : Lit} (hn : idxOf ks l = none) : idxOf (ks ++ [l]) = upd (idxOf ks) l ks.length := by
  funext m
  unfold upd
  split
  · rename_i h
    obtain rfl := WideAt.sameKey_eq h
    unfold idxOf at hn ⊢
    rw [List.findIdx?_append]
    simp only [Option.map_eq_none_iff] at hn
    rw [hn]
    simp [h]
  · rename_i h
    unfold idxOf
    rw [List.findIdx?_append]
    cases hf : ks.findIdx? (fun k => m.sameKey k) <;> simp [h]

/-- What Add leaves where the key is new. -/
structure AddPost (k T : TypeId) (B : Nat) (w : World) (sb : Nat) (v mv : Value) (m : Int) (ks : List Lit) (vs : List Value) (w' : World) (v' mv' : Value) : Prop where
  set : SetI k T B w' sb v' mv' m ks vs
  only : Only (foot sb v mv) w w'
  from' : ∀ i, foot sb v' mv' i → foot sb v mv i ∨ w.heap.size ≤ i

set_option maxHeartbeats 400000 in
theorem sets_add_has (B sb : Nat) (v mv : Value) (m : Int) (ks : List Lit) (vs : List Value) (s : ByteArray) (w : World) (hs : s.size ≤ maxLen) (h : SetI 9 80 B w sb v mv m ks vs) (hin : (idxOf ks (.string s.data.toList)).isSome = true) :
    Calls Tryd.prog 29 #[.pointer (some ⟨sb, 0, none⟩), .string s] w fun e w' => e = .returned (.tuple #[.bool false, .nilIface]) ∧ Only (fun _ => False) w w' := by
  have hget := sets_has B sb v mv m ks vs s w hs h
  rw [hin] at hget
  generalize (idxOf ks (.string s.data.toList)).getD 0 = c at *
  have Hget := Lib.hid hget
  clear hget h hin
  go_enter Tryd.func29, Tryd.ntmps29
  go_wp2_with (go_at_call 32; refine Hget.out.mono ?_; rintro e w' ⟨rfl, rfl⟩)
  go_ret2
  exact ⟨rfl, Only.of_alloc _ _⟩

set_option maxHeartbeats 400000 in
theorem sets_add_full (B sb : Nat) (v mv : Value) (m : Int) (ks : List Lit) (vs : List Value) (s : ByteArray) (w : World) (ev : Value) (hs : s.size ≤ maxLen) (h : SetI 9 80 B w sb v mv m ks vs) (hin : (idxOf ks (.string s.data.toList)).isSome = false) (hfull : (ks.length : Int) = m)
    (hg : w.cell? ⟨0, 0, none⟩ = some ev) (hB : 0 < w.heap.size) :
    Calls Tryd.prog 29 #[.pointer (some ⟨sb, 0, none⟩), .string s] w fun e w' => e = .returned (.tuple #[.bool false, ev]) ∧ Only (fun _ => False) w w' := by
  have hget := sets_has B sb v mv m ks vs s w hs h
  rw [hin] at hget
  generalize (idxOf ks (.string s.data.toList)).getD 0 = c at *
  have ho := Only.of_alloc w (.cells #[.int .i64 c] 85)
  have hroom := sets_room B sb v mv m ks vs (w.alloc (.cells #[.int .i64 c] 85)) (h.only ho (fun _ _ x => x))
  rw [show m - (ks.length : Int) = 0 by omega] at hroom
  have Hget := Lib.hid hget
  have Hroom := Lib.hid hroom
  have hg1 : (w.alloc (.cells #[.int .i64 c] 85)).cell? ⟨0, 0, none⟩ = some ev := by rw [World.cell?_alloc_past _ _ _ (by exact hB)]; exact hg
  clear hget hroom h hin hfull
  go_enter Tryd.func29, Tryd.ntmps29
  go_wp2_with (first | (go_at_call 32; refine Hget.out.mono ?_; rintro e w' ⟨rfl, rfl⟩) | (go_at_call 30; refine Hroom.out.mono ?_; rintro e w' ⟨rfl, nq, rfl⟩))
  go_quiet (fail)
  go_wp2
  go_ret2
  exact ⟨rfl, (ho.trans (Only.of_drewN _ _) (fun _ h => h) (fun _ h => .inl h)).trans (Only.of_drewN _ _) (fun _ h => h) (fun _ h => .inl h)⟩

theorem SetI.apart {k T : TypeId} {B : Nat} {w : World} {sb : Nat} {v mv : Value} {m : Int} {ks : List Lit} {vs : List Value} (hT : T ≠ k) (h : SetI k T B w sb v mv m ks vs) : ∀ b, v.ownBlock = some b → ¬ (b = sb ∨ mapBlock mv = some b) := by
  intro b hb
  rcases h.row.2 with ⟨e1, _⟩ | ⟨g, cap, cur, e1, _, hgg, _⟩
  · rw [e1] at hb; cases hb
  · rw [e1] at hb; cases hb
    rintro (rfl | hm)
    · have := h.cells
      rw [hgg] at this
      simp at this
      exact hT this.2.symm
    · rcases h.ix with ⟨e2, _⟩ | ⟨b', D, e2, ⟨es, clock, hb', _⟩, _⟩
      · rw [e2] at hm; cases hm
      · rw [e2] at hm; cases hm
        rw [hgg] at hb'; cases hb'

/-- The step from a set's invariant, a Put on its index and an append on its list to its invariant behind them. -/
theorem addPost_mk {k T : TypeId} {B : Nat} {w w2 w3 w4 : World} {sb : Nat} {v mv mv' v' : Value} {m : Int} {ks : List Lit} {vs : List Value} {l : Lit} {x : Value} {o : Obj} (hT : T ≠ k)
    (h2 : SetI k T B w2 sb v mv m ks vs) (ho2 : Only (fun _ => False) w w2) (hB : B ≤ w.heap.size) (hfull : (ks.length : Int) < m) (hn : idxOf ks l = none)
    (hp : IxPut k sb 2 #[.int .i64 m, v, mv] T mv (ks.length + 1) (upd (idxOf ks) l ks.length) w2 w3 mv')
    (hown : w4.ownsRow B k 1 v' (vs.length + 1) (vs ++ [x])) (hg : (w3.alloc o).grownBy w4 v.ownBlock) (hv' : ∀ b, v'.ownBlock = some b → v.ownBlock = some b ∨ w3.heap.size ≤ b) :
    AddPost k T B w sb v mv m (ks ++ [l]) (vs ++ [x]) (w4.setCell ⟨sb, 1, none⟩ v') v' mv' := by
  have hlt2 := lt_of_block h2.cells
  have hs23 := hp.only.size
  have hs02 := ho2.size
  have hap := h2.apart hT
  have o3 : Only (fun i => v.ownBlock = some i) w3 w4 := (Only.of_alloc w3 o).trans (Only.of_grown hg) (fun _ (h : False) => h.elim) (fun _ h => .inl h)
  have hs34 := o3.size
  have c3 : w3.heap[sb]? = some (.cells #[.int .i64 m, v, mv'] T (0, 0)) := hp.cells
  have c4 : w4.heap[sb]? = some (.cells #[.int .i64 m, v, mv'] T (0, 0)) := by rw [o3.block sb (lt_of_block c3) (fun e => hap sb e (.inl rfl))]; exact c3
  have c5 : (w4.setCell ⟨sb, 1, none⟩ v').heap[sb]? = some (.cells #[.int .i64 m, v', mv'] T (0, 0)) := heap_setCell_cells c4 v'
  have o5 := Only.of_setCell w4 ⟨sb, 1, none⟩ v'
  have hmfree : ∀ b, mapBlock mv' = some b → ¬ (v.ownBlock = some b) := by
    intro b hb hv
    rcases hp.from' b hb with h | h
    · exact hap b hv (.inr h)
    · have := (h2.row.lt b hv).2; omega
  have i4 : IxI Tryd.prog k w4 mv' (ks.length + 1) (upd (idxOf ks) l ks.length) := hp.ix.only o3 hmfree
  have hmsb : ∀ b, mapBlock mv' = some b → b ≠ sb := by
    rintro b hb rfl
    rcases hp.ix with ⟨e2, _⟩ | ⟨b', D, e2, ⟨es, clock, hb', _⟩, _⟩
    · rw [e2] at hb; cases hb
    · rw [e2] at hb; cases hb
      rw [c3] at hb'; cases hb'
  have i5 := i4.only o5 (fun b hb e => hmsb b hb e)
  have hrsb : ∀ b, v'.ownBlock = some b → b ≠ sb := by
    rintro b hb rfl
    rcases hown.2 with ⟨e1, _⟩ | ⟨g, cap, cur, e1, _, hgg, _⟩
    · rw [e1] at hb; cases hb
    · rw [e1] at hb; cases hb
      rw [c4] at hgg
      simp at hgg
      exact hT hgg.2
  refine ⟨⟨c5, ?_, ?_, by simp [h2.len], by simp; omega, h2.most, h2.base, ?_⟩, ?_, ?_⟩
  · rw [List.length_append]
    exact ownsRow_only hown o5 (fun b hb e => hrsb b hb e)
  · rw [idxOf_snoc hn, List.length_append]
    exact i5
  · intro b hb
    rcases hp.from' b hb with h | h
    · exact h2.mbase b h
    · omega
  · refine (((ho2.trans hp.only (H := foot sb v mv) (fun _ (h : False) => h.elim) ?_).trans o3 (fun _ h => h) ?_).trans o5 (fun _ h => h) ?_)
    · rintro i (h | h)
      · exact .inl (.inl h)
      · exact .inl (.inr (.inr h))
    · exact fun i h => .inl (.inr (.inl h))
    · exact fun i h => .inl (.inl h)
  · rintro i (h | h | h)
    · exact .inl (.inl h)
    · rcases hv' i h with h' | h'
      · exact .inl (.inr (.inl h'))
      · exact .inr (by omega)
    · rcases hp.from' i h with h' | h'
      · exact .inl (.inr (.inr h'))
      · exact .inr (by omega)

set_option maxHeartbeats 800000 in
theorem sets_add_new (B sb : Nat) (v mv : Value) (m : Int) (ks : List Lit) (vs : List Value) (s : ByteArray) (w : World) (hs : s.size ≤ maxLen) (h : SetI 9 80 B w sb v mv m ks vs) (hin : (idxOf ks (.string s.data.toList)).isSome = false) (hfull : (ks.length : Int) < m)
    (hsmall : ks.length < 1000000) (hB : B ≤ w.heap.size) :
    Calls Tryd.prog 29 #[.pointer (some ⟨sb, 0, none⟩), .string s] w fun e w' => e = .returned (.tuple #[.bool true, .nilIface]) ∧ ∃ v' mv', AddPost 9 80 B w sb v mv m (ks ++ [.string s.data.toList]) (vs ++ [.string s]) w' v' mv' := by
  have hnone : idxOf ks (.string s.data.toList) = none := by simpa using hin
  have hget := sets_has B sb v mv m ks vs s w hs h
  rw [hin] at hget
  generalize (idxOf ks (.string s.data.toList)).getD 0 = c at *
  have ho := Only.of_alloc w (.cells #[.int .i64 c] 85)
  have hI1 := h.only ho (fun _ _ x => x)
  have hroom := sets_room B sb v mv m ks vs (w.alloc (.cells #[.int .i64 c] 85)) hI1
  have hne : ((m - (ks.length : Int)) == 0) = false := by simp; omega
  generalize m - (ks.length : Int) = d at *
  have Hget := Lib.hid hget
  have Hroom := Lib.hid hroom
  have Hh := Lib.hid h
  have HI1 := Lib.hid hI1
  have Hn := Lib.hid hnone
  clear hget hroom h hin hI1 hnone
  go_enter Tryd.func29, Tryd.ntmps29
  go_wp2_with (first | (go_at_call 32; refine Hget.out.mono ?_; rintro e w' ⟨rfl, rfl⟩) | (go_at_call 30; refine Hroom.out.mono ?_; rintro e w' ⟨rfl, nq, hw1⟩))
  have ho2 : Only (fun _ => False) w w' := by rw [← hw1]; exact ho.trans (Only.of_drewN _ nq) (fun _ h => h) (fun _ h => .inl h)
  have hI2 : SetI 9 80 B w' sb v mv m ks vs := by rw [← hw1]; exact HI1.out.only (Only.of_drewN _ nq) (fun _ _ x => x)
  clear hw1 HI1 Hroom Hget ho
  have hsz : w.heap.size ≤ w'.heap.size := ho2.size
  have c1 := hI2.cell1
  have c2 := hI2.cell2
  obtain ⟨a0, cp, rfl⟩ := ownsRow_shape hI2.row
  have Ho2 := Lib.hid ho2
  have HI2 := Lib.hid hI2
  clear ho2 hI2
  rw [← Hh.out.len] at c1
  go_still_tail 9, (by kernel_rfl)
  change wpList _ _ _ _ _ w'.drew
  generalize hwd : w'.drew = w2 at *
  have Ho3 : Hid (Only (fun _ => False) w w2) := by rw [← hwd]; exact Ho2.out.trans (Only.of_drew _) (fun _ h => h) (fun _ h => .inl h)
  have HI3 : Hid (SetI 9 80 B w2 sb (.slice a0 vs.length cp) mv m ks vs) := by rw [← hwd]; exact HI2.out.only (Only.of_drew _) (fun _ _ x => x)
  clear Ho2 HI2 c1 c2 hwd hsz
  go_wp2_with fail
  refine (ixs_put sb 2 #[.int .i64 m, .slice a0 vs.length cp, mv] 80 s ks.length w2 mv ks.length (idxOf ks) hs (by unfold maxLen; omega) HI3.out.cells rfl HI3.out.ix).mono ?_
  rintro e w3 ⟨rfl, mv', hp⟩
  have hcs : w3.heap[sb]? = some (.cells #[.int .i64 m, .slice a0 vs.length cp, mv'] 80 (0, 0)) := hp.cells
  have hsz2 : w.heap.size ≤ w2.heap.size := Ho3.out.size
  have hsz3 : w2.heap.size ≤ w3.heap.size := hp.only.size
  have hap := HI3.out.apart (by decide)
  have hrow3 : w3.ownsRow B 9 1 (.slice a0 vs.length cp) vs.length vs := ownsRow_only HI3.out.row hp.only hap
  have hlv := HI3.out.len
  have c1 : w3.cell? ⟨sb, 1, none⟩ = some (.slice a0 vs.length cp) := by simp [World.cell?, hcs]
  obtain ⟨i0, hi, hz0, hz1, hz2⟩ := info_parts Tryd.info9
  have HP := Lib.hid hp
  have Hcs := Lib.hid hcs
  have Hlv := Lib.hid hlv
  have Hap := Lib.hid hap
  clear hp hcs hlv hap
  have hsm : vs.length < 1000000 := by rw [← Hlv.out]; exact hsmall
  go_wp2_with (first | (at_builtin; refine wpList_append_own_at _ rfl _ _ 57 rfl B 9 i0 (.string ⟨#[]⟩) 1 16 Tryd.under57 hi hz0 hz1 hz2 rfl (by decide) _ _ _ rfl (hrow3.alloc _) ⟨w3.heap.size, 0, none⟩ 1 1 [.string s] rfl rfl (cell_one_new _ _ _) ?c2 ?c3 ?c4 ?c5 ?_))
  case c2 => intro u hu; simp at hu; subst hu; rfl
  case c3 => unfold maxLen; omega
  case c4 => omega
  case c5 => simp; omega
  intro v' w4 hown4 hgrow4 _ hloc
  have hpost := addPost_mk (by decide) HI3.out Ho3.out hB hfull Hn.out HP.out hown4 hgrow4 (fun b hb => by
    rcases hloc with h | h
    · exact .inl (h ▸ hb)
    · rw [h] at hb; cases hb; exact .inr (by simp))
  have Hpost := Lib.hid hpost
  have c4 : w4.cell? ⟨sb, 1, none⟩ = some (.slice a0 vs.length cp) := by
    rw [World.cell?_of_block (w := w3.alloc (.cells #[.string s] 9)) (hgrow4.block sb (by have := lt_of_block Hcs.out; simp; omega) (fun e => Hap.out sb e.symm (.inl rfl))), World.cell?_alloc_past _ _ _ (by exact lt_of_block Hcs.out)]
    exact c1
  have f4 : w4.frozen? ⟨sb, 1, none⟩ = false := by
    rw [World.frozen?_of_block (w := w3.alloc (.cells #[.string s] 9)) (hgrow4.block sb (by have := lt_of_block Hcs.out; simp; omega) (fun e => Hap.out sb e.symm (.inl rfl))), World.frozen?_of_block (Below.heap_alloc _ _ _ (by exact lt_of_block Hcs.out))]
    simp [World.frozen?, Hcs.out]
  obtain ⟨a4, cp4, rfl⟩ := ownsRow_shape hown4
  clear hown4 hgrow4 hloc hpost hrow3 c1
  go_wp2
  go_ret2
  exact ⟨rfl, _, _, Hpost.out⟩
end Go.Proofs.YtgkdemdpknljkaaDoor
