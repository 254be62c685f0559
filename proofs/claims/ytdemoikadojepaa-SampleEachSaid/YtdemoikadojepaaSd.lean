/- Objects laid in: the builder's objects, the document's registers, by contracts. -/
import Derived.Test.YtdemoikadojepaaSb
import Derived.Test.YtdemoikadojepaaSc
namespace Go.Proofs.Ytdemoikadojepaa
open Go.RowKit Go.Maps Go.WideMaps Go.WideElems Go.ChangeShapes Go.WideShapes

/-- Objects of these kinds, as numbers. -/
def objs (ks : List Int) : List Int := ks.flatMap fun k => [k, 0]
theorem objs_succ (ks : List Int) (k : Nat) (h : k < ks.length) : objs (ks.take (k + 1)) = objs (ks.take k) ++ [ks[k], 0] := by
  unfold objs
  rw [List.take_succ_eq_append_getElem h, List.flatMap_append]
  rfl
theorem setCell_two {W : World} {p : Nat} {x y : Value} {t : TypeId} (h : W.heap[p]? = some (.cells #[x, y] t)) (v : Value) : (W.setCell ⟨p, 0, none⟩ v).heap[p]? = some (.cells #[v, y] t) := heap_setCell_same W p 0 _ _ _ h

set_option maxHeartbeats 4000000 in
theorem objs_any (p q : Nat) (ks : List Int) (hn : ks.length ≤ 10) (hq : q ≠ p) (n c : Nat) (hnn : ks.length = n) (w : World) (hp : w.heap[p]? = some (.cells #[.slice none 0 0, .slice none 0 0] 60)) (hk : w.heap[q]? = some (.cells (ints ks).toArray 3)) :
    Calls Try.prog 26 #[.pointer (some ⟨p, 0, none⟩), .slice (some ⟨q, 0, none⟩) n c] w fun e w' => ∃ vo, e = .returned (.tuple #[]) ∧ Hid (w'.heap[p]? = some (.cells #[vo, .slice none 0 0] 60) ∧ w'.ownsRow w.heap.size 52 2 vo n (ints (objs ks)) ∧ Told p (.slice none 0 0) w vo w') := by
  obtain ⟨i0, hi, hz0, hz1, hz2⟩ := info_parts elem52
  have Hp := Lib.hid hp
  have hpl : Hid (p < w.heap.size) := (Array.getElem?_eq_some_iff.1 hp).1
  have hql : Hid (q < w.heap.size) := (Array.getElem?_eq_some_iff.1 hk).1
  have Hk := Lib.hid hk
  have Hnn := Lib.hid hnn
  have Hq := Lib.hid hq
  have hn1 : n ≤ 10 := by omega
  clear hp hk hn hnn hq
  go_enter Try.func26, Try.ntmps26
  go_wp2_with fail
  go_loopw [8] (fun i wr => ∃ (k : Nat) (vo : Value), k ≤ n ∧ i = .int .i64 k ∧ Hid (wr.heap[p]? = some (.cells #[vo, .slice none 0 0] 60) ∧ wr.ownsRow w.heap.size 52 2 vo k (ints (objs (ks.take k))) ∧ Told p (.slice none 0 0) w vo wr)) (fun i _ => n - (intOf i).toNat)
  case atStart => exact ⟨0, .slice none 0 0, Nat.zero_le _, rfl, Hp.out, World.ownsRow_nil _ _ _ _, Told.refl _ _ _⟩
  case round =>
    obtain ⟨k, vo, hk, rfl, HR⟩ := hrel
    by_cases hlt : k < n
    · have hkl : k < ks.length := by rw [Hnn.out]; exact hlt
      obtain ⟨x, hx⟩ : ∃ x, ks[k] = x := ⟨_, rfl⟩
      have hkq : wr.heap[q]? = some (.cells (ints ks).toArray 3) := (HR.out.2.2.block q hql.out Hq.out (by simp [Value.ownBlock])).trans Hk.out
      have c0 : wr.cell? ⟨q, k, none⟩ = some (.int .i64 x) := by rw [cell_of_row _ _ k _ _ _ hkq]; simp [hkl, hx]
      obtain ⟨c1, -⟩ := row_two HR.out.1
      have hbs : Hid (w.heap.size ≤ wr.heap.size) := HR.out.2.2.size
      have Hobj : Hid (objs (ks.take (k + 1)) = objs (ks.take k) ++ [x, 0]) := by rw [← hx]; exact objs_succ ks k hkl
      clear hkq hx hkl
      obtain ⟨W4, hW4, Hb4, hs4, -⟩ := cells_new wr #[.int .i64 x, .int .i64 0] 52
      have Hr4 := Lib.hid (row_below HR.out.2.1 Hb4.out)
      have Hnews := Lib.hid (hW4 ▸ news_new wr #[.int .i64 x, .int .i64 0] 52)
      have HB4 : Hid (w.heap.size ≤ W4.heap.size) := Nat.le_trans hbs.out Hb4.out.size
      go_wp2_with (first
        | (at_builtin; refine wpList_append_own _ rfl _ _ 23 rfl w.heap.size 52 i0 _ 2 16 Try.underlying23 hi hz0 hz1 hz2 rfl (by decide) vo k _ rfl Hr4.out ⟨wr.heap.size, 0, none⟩ 1 1 (ints [x, 0]) rfl rfl Hnews.out (ints_one _) (by unfold maxLen; omega) (by omega) HB4.out ?_
           intro v5 w5 hown5 hgrow5 hnil5
           have hnb : some p ≠ vo.ownBlock := fun e => (by have h1 := (Hr4.out.lt p e.symm).1; have h2 := hpl.out; omega)
           have HP5 : Hid (w5.heap[p]? = some (.cells #[vo, .slice none 0 0] 60)) := (hgrow5.block p (Nat.lt_of_lt_of_le hpl.out HB4.out) hnb).trans ((Hb4.out.block p (Nat.lt_of_lt_of_le hpl.out hbs.out)).trans HR.out.1)
           obtain ⟨p0, -⟩ := row_two HP5.out
           have p2 := frozen_of_row _ _ 0 _ _ HP5.out
           obtain ⟨a5, c5, rfl, -, -⟩ := row_sl hown5
           have Ho5 := Lib.hid hown5
           have Hg5 := Lib.hid hgrow5
           clear hown5 hgrow5 hnil5 hnb)
        | go_in)
      have Hend : Hid ((w5.setCell ⟨p, 0, none⟩ (.slice a5 (k + 1) c5)).heap[p]? = some (.cells #[(.slice a5 (k + 1) c5), .slice none 0 0] 60) ∧ (w5.setCell ⟨p, 0, none⟩ (.slice a5 (k + 1) c5)).ownsRow w.heap.size 52 2 (.slice a5 (k + 1) c5) (k + 1) (ints (objs (ks.take (k + 1)))) ∧ Told p (.slice none 0 0) w (.slice a5 (k + 1) c5) (w5.setCell ⟨p, 0, none⟩ (.slice a5 (k + 1) c5))) := by
        have h3 : Below w.heap.size wr w5 := below_own (Hb4.out.mono hbs.out) Hg5.out Hr4.out HB4.out
        have h5 := (Below.refl 0 w5).setCell (p := ⟨p, 0, none⟩) (Nat.zero_le _) (.slice a5 (k + 1) c5)
        have h6 := HR.out.2.2
        refine ⟨setCell_two HP5.out _, ?_, ⟨h5.os.trans (h3.os.trans h6.os), h5.tape.trans (h3.tape.trans h6.tape), h5.output.trans (h3.output.trans h6.output), Nat.le_trans h6.size (Nat.le_trans h3.size h5.size), fun j hj hjp hjv => ?_, .inr fun j hj => ?_⟩⟩
        · refine ownsRow_setCell_below (row_eq Ho5.out rfl ?_) hpl.out _
          rw [Hobj.out]; simp
        · exact (Below.heap_setCell w5 ⟨p, 0, none⟩ _ j hjp).trans ((h3.block j hj).trans (h6.block j hj hjp hjv))
        · exact (Ho5.out.lt j hj).1
      clear Ho5 Hg5 HP5 p0 p2
      generalize w5.setCell ⟨p, 0, none⟩ (.slice a5 (k + 1) c5) = w6 at Hend ⊢
      go_roundw
      case rel => exact ⟨k + 1, (.slice a5 (k + 1) c5), by omega, by go_num, Hend.out⟩
      case measure => simp [intOf]; omega
    · have hkn : k = n := by omega
      subst hkn
      clear hlt hk
      go_wp2
      refine bodyPost_end (results_none rfl _ _ _) rfl ?_
      refine ⟨vo, rfl, ?_⟩
      have h7 : ks.take k = ks := List.take_of_length_le (by rw [Hnn.out]; exact Nat.le_refl _)
      rw [h7] at HR
      exact HR
end Go.Proofs.Ytdemoikadojepaa
