/- The calls of a set of numbers: Place, Has, Room, Add, by contracts. -/
import Derived.Test.YtgkdemdpknljkaaDoorIxi
namespace Go.Proofs.YtgkdemdpknljkaaDoor
open Go.RowKit Go.Maps Go.WideMaps Go.WideElems Go.ChangeShapes Go.WideShapes

set_option maxHeartbeats 400000 in
theorem seti_place (B sb : Nat) (v mv : Value) (m : Int) (ks : List Lit) (vs : List Value) (s : Int) (w : World) (hs : (Lit.int .i64 s).wf = true) (h : SetI 3 76 B w sb v mv m ks vs) :
    Calls Tryd.prog 12 #[.pointer (some ⟨sb, 0, none⟩), .int .i64 s] w fun e w' => e = .returned (.tuple #[.int .i64 ((idxOf ks (.int .i64 s)).getD 0), .bool (idxOf ks (.int .i64 s)).isSome]) ∧ w.alloc (.cells #[.int .i64 ((idxOf ks (.int .i64 s)).getD 0)] 85) = w' := by
  have hget := ixi_get ⟨sb, 2, none⟩ s w mv ks.length (idxOf ks) hs h.cell2 h.ix
  generalize (idxOf ks (.int .i64 s)).getD 0 = c at *
  generalize (idxOf ks (.int .i64 s)).isSome = b at *
  have Hget := Lib.hid hget
  clear hget
  go_enter Tryd.func12, Tryd.ntmps12
  go_wp2_with (go_at_call 39; refine Hget.out.mono ?_; rintro e w' ⟨rfl, rfl⟩)
  go_ret2
  exact ⟨rfl, rfl⟩

set_option maxHeartbeats 400000 in
theorem seti_has (B sb : Nat) (v mv : Value) (m : Int) (ks : List Lit) (vs : List Value) (s : Int) (w : World) (hs : (Lit.int .i64 s).wf = true) (h : SetI 3 76 B w sb v mv m ks vs) :
    Calls Tryd.prog 15 #[.pointer (some ⟨sb, 0, none⟩), .int .i64 s] w fun e w' => e = .returned (.bool (idxOf ks (.int .i64 s)).isSome) ∧ w.alloc (.cells #[.int .i64 ((idxOf ks (.int .i64 s)).getD 0)] 85) = w' := by
  have hget := seti_place B sb v mv m ks vs s w hs h
  generalize (idxOf ks (.int .i64 s)).getD 0 = c at *
  generalize (idxOf ks (.int .i64 s)).isSome = b at *
  have Hget := Lib.hid hget
  clear hget h
  go_enter Tryd.func15, Tryd.ntmps15
  go_wp2_with (go_at_call 12; refine Hget.out.mono ?_; rintro e w' ⟨rfl, rfl⟩)
  go_ret
  exact ⟨rfl, rfl⟩

set_option maxHeartbeats 400000 in
theorem seti_room (B sb : Nat) (v mv : Value) (m : Int) (ks : List Lit) (vs : List Value) (w : World) (h : SetI 3 76 B w sb v mv m ks vs) :
    Calls Tryd.prog 14 #[.pointer (some ⟨sb, 0, none⟩)] w fun e w' => e = .returned (.int .i64 (m - ks.length)) ∧ ∃ n, w.drewN n = w' := by
  obtain ⟨a, c, rfl⟩ := ownsRow_shape h.row
  have h0 := h.cell0
  have h1 := h.cell1
  have hr := h.room
  have hm := h.most
  rw [← h.len] at h1
  clear h
  go_enter Tryd.func14, Tryd.ntmps14
  go_wp2
  go_quiet (fail)
  go_wp2
  go_ret
  exact ⟨rfl, _, rfl⟩

set_option maxHeartbeats 400000 in
theorem seti_add_has (B sb : Nat) (v mv : Value) (m : Int) (ks : List Lit) (vs : List Value) (s : Int) (w : World) (hs : (Lit.int .i64 s).wf = true) (h : SetI 3 76 B w sb v mv m ks vs) (hin : (idxOf ks (.int .i64 s)).isSome = true) :
    Calls Tryd.prog 10 #[.pointer (some ⟨sb, 0, none⟩), .int .i64 s] w fun e w' => e = .returned (.tuple #[.bool false, .nilIface]) ∧ Only (fun _ => False) w w' := by
  have hget := seti_has B sb v mv m ks vs s w hs h
  rw [hin] at hget
  generalize (idxOf ks (.int .i64 s)).getD 0 = c at *
  have Hget := Lib.hid hget
  clear hget h hin
  go_enter Tryd.func10, Tryd.ntmps10
  go_wp2_with (go_at_call 15; refine Hget.out.mono ?_; rintro e w' ⟨rfl, rfl⟩)
  go_ret2
  exact ⟨rfl, Only.of_alloc _ _⟩

set_option maxHeartbeats 400000 in
theorem seti_add_full (B sb : Nat) (v mv : Value) (m : Int) (ks : List Lit) (vs : List Value) (s : Int) (w : World) (ev : Value) (hs : (Lit.int .i64 s).wf = true) (h : SetI 3 76 B w sb v mv m ks vs) (hin : (idxOf ks (.int .i64 s)).isSome = false) (hfull : (ks.length : Int) = m)
    (hg : w.cell? ⟨0, 0, none⟩ = some ev) (hB : 0 < w.heap.size) :
    Calls Tryd.prog 10 #[.pointer (some ⟨sb, 0, none⟩), .int .i64 s] w fun e w' => e = .returned (.tuple #[.bool false, ev]) ∧ Only (fun _ => False) w w' := by
  have hget := seti_has B sb v mv m ks vs s w hs h
  rw [hin] at hget
  generalize (idxOf ks (.int .i64 s)).getD 0 = c at *
  have ho := Only.of_alloc w (.cells #[.int .i64 c] 85)
  have hroom := seti_room B sb v mv m ks vs (w.alloc (.cells #[.int .i64 c] 85)) (h.only ho (fun _ _ x => x))
  rw [show m - (ks.length : Int) = 0 by omega] at hroom
  have Hget := Lib.hid hget
  have Hroom := Lib.hid hroom
  have hg1 : (w.alloc (.cells #[.int .i64 c] 85)).cell? ⟨0, 0, none⟩ = some ev := by rw [World.cell?_alloc_past _ _ _ (by exact hB)]; exact hg
  clear hget hroom h hin hfull
  go_enter Tryd.func10, Tryd.ntmps10
  go_wp2_with (first | (go_at_call 15; refine Hget.out.mono ?_; rintro e w' ⟨rfl, rfl⟩) | (go_at_call 14; refine Hroom.out.mono ?_; rintro e w' ⟨rfl, nq, rfl⟩))
  go_quiet (fail)
  go_wp2
  go_ret2
  exact ⟨rfl, (ho.trans (Only.of_drewN _ _) (fun _ h => h) (fun _ h => .inl h)).trans (Only.of_drewN _ _) (fun _ h => h) (fun _ h => .inl h)⟩

set_option maxHeartbeats 800000 in
theorem seti_add_new (B sb : Nat) (v mv : Value) (m : Int) (ks : List Lit) (vs : List Value) (s : Int) (w : World) (hs : (Lit.int .i64 s).wf = true) (h : SetI 3 76 B w sb v mv m ks vs) (hin : (idxOf ks (.int .i64 s)).isSome = false) (hfull : (ks.length : Int) < m)
    (hsmall : ks.length < 1000000) (hB : B ≤ w.heap.size) :
    Calls Tryd.prog 10 #[.pointer (some ⟨sb, 0, none⟩), .int .i64 s] w fun e w' => e = .returned (.tuple #[.bool true, .nilIface]) ∧ ∃ v' mv', AddPost 3 76 B w sb v mv m (ks ++ [.int .i64 s]) (vs ++ [.int .i64 s]) w' v' mv' := by
  have hnone : idxOf ks (.int .i64 s) = none := by simpa using hin
  have hget := seti_has B sb v mv m ks vs s w hs h
  rw [hin] at hget
  generalize (idxOf ks (.int .i64 s)).getD 0 = c at *
  have ho := Only.of_alloc w (.cells #[.int .i64 c] 85)
  have hI1 := h.only ho (fun _ _ x => x)
  have hroom := seti_room B sb v mv m ks vs (w.alloc (.cells #[.int .i64 c] 85)) hI1
  have hne : ((m - (ks.length : Int)) == 0) = false := by simp; omega
  generalize m - (ks.length : Int) = d at *
  have Hget := Lib.hid hget
  have Hroom := Lib.hid hroom
  have Hh := Lib.hid h
  have HI1 := Lib.hid hI1
  have Hn := Lib.hid hnone
  clear hget hroom h hin hI1 hnone
  go_enter Tryd.func10, Tryd.ntmps10
  go_wp2_with (first | (go_at_call 15; refine Hget.out.mono ?_; rintro e w' ⟨rfl, rfl⟩) | (go_at_call 14; refine Hroom.out.mono ?_; rintro e w' ⟨rfl, nq, hw1⟩))
  have ho2 : Only (fun _ => False) w w' := by rw [← hw1]; exact ho.trans (Only.of_drewN _ nq) (fun _ h => h) (fun _ h => .inl h)
  have hI2 : SetI 3 76 B w' sb v mv m ks vs := by rw [← hw1]; exact HI1.out.only (Only.of_drewN _ nq) (fun _ _ x => x)
  clear hw1 HI1 Hroom Hget ho
  have hsz : w.heap.size ≤ w'.heap.size := ho2.size
  have c1 := hI2.cell1
  have c2 := hI2.cell2
  obtain ⟨a0, cp, rfl⟩ := ownsRow_shape hI2.row
  have Ho2 := Lib.hid ho2
  have HI2 := Lib.hid hI2
  clear ho2 hI2
  rw [← Hh.out.len] at c1
  go_still_tail 9, (by kernel_rfl)
  change wpList _ _ _ _ _ w'.drew
  generalize hwd : w'.drew = w2 at *
  have Ho3 : Hid (Only (fun _ => False) w w2) := by rw [← hwd]; exact Ho2.out.trans (Only.of_drew _) (fun _ h => h) (fun _ h => .inl h)
  have HI3 : Hid (SetI 3 76 B w2 sb (.slice a0 vs.length cp) mv m ks vs) := by rw [← hwd]; exact HI2.out.only (Only.of_drew _) (fun _ _ x => x)
  clear Ho2 HI2 c1 c2 hwd hsz
  go_wp2_with fail
  refine (ixi_put sb 2 #[.int .i64 m, .slice a0 vs.length cp, mv] 76 s ks.length w2 mv ks.length (idxOf ks) hs (by unfold maxLen; omega) HI3.out.cells rfl HI3.out.ix).mono ?_
  rintro e w3 ⟨rfl, mv', hp⟩
  have hcs : w3.heap[sb]? = some (.cells #[.int .i64 m, .slice a0 vs.length cp, mv'] 76 (0, 0)) := hp.cells
  have hsz2 : w.heap.size ≤ w2.heap.size := Ho3.out.size
  have hsz3 : w2.heap.size ≤ w3.heap.size := hp.only.size
  have hap := HI3.out.apart (by decide)
  have hrow3 : w3.ownsRow B 3 1 (.slice a0 vs.length cp) vs.length vs := ownsRow_only HI3.out.row hp.only hap
  have hlv := HI3.out.len
  have c1 : w3.cell? ⟨sb, 1, none⟩ = some (.slice a0 vs.length cp) := by simp [World.cell?, hcs]
  obtain ⟨i0, hi, hz0, hz1, hz2⟩ := info_parts Tryd.info3
  have HP := Lib.hid hp
  have Hcs := Lib.hid hcs
  have Hlv := Lib.hid hlv
  have Hap := Lib.hid hap
  clear hp hcs hlv hap
  have hsm : vs.length < 1000000 := by rw [← Hlv.out]; exact hsmall
  go_wp2_with (first | (at_builtin; refine wpList_append_own_at _ rfl _ _ 22 rfl B 3 i0 (.int .i64 0) 1 8 Tryd.under22 hi hz0 hz1 hz2 rfl (by decide) _ _ _ rfl (hrow3.alloc _) ⟨w3.heap.size, 0, none⟩ 1 1 [.int .i64 s] rfl rfl (cell_one_new _ _ _) ?c2 ?c3 ?c4 ?c5 ?_))
  case c2 => intro u hu; simp at hu; subst hu; rfl
  case c3 => unfold maxLen; omega
  case c4 => omega
  case c5 => simp; omega
  intro v' w4 hown4 hgrow4 _ hloc
  have hpost := addPost_mk (by decide) HI3.out Ho3.out hB hfull Hn.out HP.out hown4 hgrow4 (fun b hb => by
    rcases hloc with h | h
    · exact .inl (h ▸ hb)
    · rw [h] at hb; cases hb; exact .inr (by simp))
  have Hpost := Lib.hid hpost
  have c4 : w4.cell? ⟨sb, 1, none⟩ = some (.slice a0 vs.length cp) := by
    rw [World.cell?_of_block (w := w3.alloc (.cells #[.int .i64 s] 3)) (hgrow4.block sb (by have := lt_of_block Hcs.out; simp; omega) (fun e => Hap.out sb e.symm (.inl rfl))), World.cell?_alloc_past _ _ _ (by exact lt_of_block Hcs.out)]
    exact c1
  have f4 : w4.frozen? ⟨sb, 1, none⟩ = false := by
    rw [World.frozen?_of_block (w := w3.alloc (.cells #[.int .i64 s] 3)) (hgrow4.block sb (by have := lt_of_block Hcs.out; simp; omega) (fun e => Hap.out sb e.symm (.inl rfl))), World.frozen?_of_block (Below.heap_alloc _ _ _ (by exact lt_of_block Hcs.out))]
    simp [World.frozen?, Hcs.out]
  obtain ⟨a4, cp4, rfl⟩ := ownsRow_shape hown4
  clear hown4 hgrow4 hloc hpost hrow3 c1
  go_wp2
  go_ret2
  exact ⟨rfl, _, _, Hpost.out⟩
end Go.Proofs.YtgkdemdpknljkaaDoor
