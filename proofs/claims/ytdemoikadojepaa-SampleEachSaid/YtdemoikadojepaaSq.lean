/- A number repeated; lists of numbers put one behind the other: by contracts. -/
import Derived.Test.YtdemoikadojepaaSo
import Derived.Laws.CopyOwn
import Derived.IntWalk
namespace Go.Proofs.Ytdemoikadojepaa
open Go.RowKit Go.Maps Go.WideMaps Go.WideElems Go.ChangeShapes Go.WideShapes

set_option maxHeartbeats 1000000 in
theorem mul_lit (n : Int) (hn : n = 3 ∨ n = 8 ∨ n = 2) (w : World) : Calls Try.prog 52 #[.int .u64 1, .int .u64 n] w fun e w' => e = .returned (.tuple #[.int .u64 0, .int .u64 n]) ∧ w = w' := by
  rcases hn with rfl | rfl | rfl <;> (go_enter Try.func52, Try.ntmps52; go_wp2_with (first | go_in); go_ret2; exact ⟨rfl, rfl⟩)

theorem elem3 : (Try.prog.info? 3).map (fun i => (i.zero, i.size, i.bytes)) = some (some (.int .i64 0), 1, 8) := by kernel_rfl
/-- So many zeros, made. -/
theorem make_ints (n : Nat) (hn : n ≤ 1000) (w : World) : ∃ W, (Instr.makeSlice 42 (.int .i64 n) (.int .i64 n)).run Try.prog w = .ok (.slice (some ⟨w.heap.size, 0, none⟩) n n) W ∧ Hid (Below w.heap.size w W) ∧ Hid (w.heap.size < W.heap.size) ∧ Hid (W.heap[w.heap.size]? = some (.cells (List.replicate n (Value.int .i64 0)).toArray 3)) := by
  obtain ⟨i0, hi, hz0, hz1, hz2⟩ := info_parts elem3
  have h := run_makeSlice (P := Try.prog) w 42 3 i0 _ Try.underlying42 hi hz0 .i64 .i64 n n (by omega) (Int.le_refl _) (by simp; rw [hz1]; omega) (by rw [hz2]; omega) (by omega)
  rw [hz1] at h
  simp only [Int.toNat_natCast, Nat.mul_one] at h
  obtain ⟨W, hW, Hb, hs, Hx⟩ := cells_new w (madeCells (Value.int .i64 0).cells n) 3
  refine ⟨W, h.trans (by rw [hW]), Hb, hs, ?_⟩
  have e : madeCells (Value.int .i64 0).cells n = (List.replicate n (Value.int .i64 0)).toArray := by
    unfold madeCells
    apply Array.ext'
    simp [Value.cells, List.eq_replicate_iff, Nat.mod_one]
  show _ = _
  rw [← e]
  exact Hx.out

theorem one_at {W : World} {q : Nat} {u : Value} (h : W.cell? ⟨q, 0, none⟩ = some u) : ∀ j v, [u][j]? = some v → W.cell? ((⟨q, 0, none⟩ : Addr).add j) = some v := by
  intro j v hj
  match j, hj with
  | 0, hj => cases (Option.some.inj hj); exact h
  | j + 1, hj => simp at hj

theorem elem3s : (Try.prog.info? 3).map (·.size) = some 1 := by kernel_rfl
/-- Numbers copied into a row that is known whole. -/
theorem copy_ints (g off dLen dCap q qo sLen sCap : Nat) (W : World) (cur cs : List Value) (hg : W.heap[g]? = some (.cells cur.toArray 3)) (hn : cs.length = Nat.min sLen dLen) (hsrc : ∀ j v, cs[j]? = some v → W.cell? ((⟨q, qo, none⟩ : Addr).add j) = some v) (hfit : off + cs.length ≤ cur.length) (h1 : ∀ v ∈ cs, v.oneCell' = true) :
    ∃ W2, (Builtin.copy_ #[42, 42] 3 #[.slice (some ⟨g, off, none⟩) dLen dCap, .slice (some ⟨q, qo, none⟩) sLen sCap]).run Try.prog W = .ok (.int .i64 cs.length) W2 ∧ Hid (Below g W W2) ∧ Hid (W2.heap[g]? = some (.cells (splice cur off cs).toArray 3)) := by
  refine ⟨_, run_copy_row (P := Try.prog) W 42 42 3 3 g off dLen dCap ⟨q, qo, none⟩ sLen sCap cur.toArray 3 cs Try.underlying42 elem3s hg hn hsrc (by simpa using hfit) h1, below_setRow (Below.refl _ _) (Nat.le_refl _) _, ?_⟩
  show _ = _
  have h := setRow_heap W g (cs := (cur.toArray.toList.take off ++ cs ++ cur.toArray.toList.drop (off + cs.length)).toArray) _ 3 _ hg
  simpa [splice] using h
/-- A row of n cells whose first k are the number. -/
def rowK (n : Nat) (x : Int) (k : Nat) : List Value := splice (List.replicate n (Value.int .i64 0)) 0 (List.replicate k (.int .i64 x))

theorem rowK_eq (n : Nat) (x : Int) (k : Nat) : rowK n x k = List.replicate k (.int .i64 x) ++ List.replicate (n - k) (.int .i64 0) := by
  unfold rowK splice; simp
theorem rowK_len (n : Nat) (x : Int) (k : Nat) (h : k ≤ n) : (rowK n x k).length = n := by rw [rowK_eq]; simp; omega
theorem rowK_full (n : Nat) (x : Int) : rowK n x n = List.replicate n (.int .i64 x) := by rw [rowK_eq]; simp
theorem rowK_more (n : Nat) (x : Int) (k m : Nat) : splice (rowK n x k) k (List.replicate m (.int .i64 x)) = rowK n x (k + m) := by
  rw [rowK_eq, rowK_eq]
  unfold splice
  rw [List.take_left' (by simp), List.drop_append, ← List.append_assoc, List.replicate_append_replicate, List.drop_eq_nil_of_le (by simp), List.nil_append]
  congr 1
  simp
  omega
theorem rowK_at {W : World} {g n k m : Nat} {x : Int} {t : TypeId} (h : W.heap[g]? = some (.cells (rowK n x k).toArray t)) (hm : m ≤ k) : ∀ j v, (List.replicate m (Value.int .i64 x))[j]? = some v → W.cell? ((⟨g, 0, none⟩ : Addr).add j) = some v := by
  intro j v hj
  refine World.news_of_block h j v ?_
  have h0 : j < m := by have := (List.getElem?_eq_some_iff.1 hj).1; rwa [List.length_replicate] at this
  rw [rowK_eq, List.getElem?_append_left (by rw [List.length_replicate]; omega)]
  obtain ⟨h1, rfl⟩ := List.getElem?_eq_some_iff.1 hj
  rw [List.length_replicate] at h1
  rw [List.getElem?_eq_getElem (by simp; omega)]
  simp

set_option maxHeartbeats 400000 in
theorem rep_any (q c : Nat) (n : Nat) (x : Int) (hn : n = 3 ∨ n = 8 ∨ n = 2) (w : World) (hq : w.cell? ⟨q, 0, none⟩ = some (.int .i64 x)) :
    Calls Try.prog 40 #[.slice (some ⟨q, 0, none⟩) 1 c, .int .i64 n] w fun e w' => e = .returned (.slice (some ⟨w.heap.size, 0, none⟩) n n) ∧ Hid (w'.heap[w.heap.size]? = some (.cells (List.replicate n (Value.int .i64 x)).toArray 3) ∧ Below w.heap.size w w') := by
  obtain ⟨i0, hi, hz0, hz1, hz2⟩ := info_parts elem3
  have hsz : (Try.prog.info? 3).map (·.size) = some 1 := by rw [hi]; simp [hz1]
  have HM := Lib.hid (mul_lit n (by omega))
  have hn2 : 2 ≤ n := by omega
  have hn8 : n ≤ 8 := by omega
  obtain ⟨W, hmk, Hb, hs, Hx⟩ := make_ints n (by omega) w
  have Hq : Hid (W.cell? ⟨q, 0, none⟩ = some (.int .i64 x)) := (Hb.out.cell (p := ⟨q, 0, none⟩) (World.block_lt_of_cell? w _ hq)).trans hq
  clear hn hq
  obtain ⟨W2, hcp, HB2, HG2⟩ := copy_ints w.heap.size 0 n n q 0 1 c W (List.replicate n (Value.int .i64 0)) [.int .i64 x] Hx.out (Nat.min_eq_left (show 1 ≤ n by omega)).symm (one_at Hq.out) (by simp; omega) (by simp [Value.oneCell'])
  rw [show splice (List.replicate n (Value.int .i64 0)) 0 [.int .i64 x] = rowK n x 1 from rfl] at HG2
  have HB2 : Hid (Below w.heap.size w W2) := Hb.out.trans HB2.out
  have hcp : (Builtin.copy_ #[42, 42] 3 #[.slice (some ⟨w.heap.size, 0, none⟩) n n, .slice (some ⟨q, 0, none⟩) 1 c]).run Try.prog W = .ok (.int .i64 1) W2 := hcp
  go_enter Try.func40, Try.ntmps40
  go_wp2_with (first
    | (go_at_call 52; refine (HM.out w).mono ?_; rintro e w1 ⟨rfl, rfl⟩))
  go_loopw [8] (fun i wr => ∃ k : Nat, 1 ≤ k ∧ k ≤ n ∧ i = .int .i64 k ∧ Hid (wr.heap[w.heap.size]? = some (.cells (rowK n x k).toArray 3) ∧ Below w.heap.size w wr)) (fun i _ => n - (intOf i).toNat)
  case atStart => exact ⟨1, Nat.le_refl _, by omega, rfl, HG2.out, HB2.out⟩
  case round =>
    obtain ⟨k, hk1, hk, rfl, HR⟩ := hrel
    by_cases hlt : k < n
    · obtain ⟨m, hm⟩ : ∃ m, Nat.min k (n - k) = m := ⟨_, rfl⟩
      have hm1 : 1 ≤ m := by rw [← hm]; exact Nat.le_min.2 ⟨hk1, by omega⟩
      have hm2 : m ≤ k := by rw [← hm]; exact Nat.min_le_left _ _
      have hm3 : k + m ≤ n := by have h9 := Nat.min_le_right k (n - k); rw [show min k (n - k) = m from hm] at h9; omega
      obtain ⟨W3, hcp3, HB3, HG3⟩ := copy_ints w.heap.size k (n - k) (n - k) w.heap.size 0 k n wr.drew (rowK n x k) (List.replicate m (.int .i64 x)) HR.out.1 (by rw [List.length_replicate, ← hm]) (rowK_at HR.out.1 hm2) (by rw [rowK_len _ _ _ hk, List.length_replicate]; exact hm3) (by intro v hv; rw [List.eq_of_mem_replicate hv]; rfl)
      rw [List.length_replicate] at hcp3
      have Hend : Hid (W3.heap[w.heap.size]? = some (.cells (rowK n x (k + m)).toArray 3) ∧ Below w.heap.size w W3) := ⟨by rw [← rowK_more n x k m]; exact HG3.out, (HR.out.2.drew).trans HB3.out⟩
      have hwk : IntKind.i64.wrap ((k : Int) + m) = (k : Int) + m := IntWalk.i64_in _ (by omega)
      have hnk : (n = k) = False := by simp; omega
      clear HB3 HG3 HR hm
      go_wp2
      go_region_with (fail)
      all_goals
        go_wp2
        go_simp
        go_roundw
        case rel => exact ⟨k + m, by omega, hm3, by go_num, Hend.out⟩
        case measure => simp [intOf]; omega
    · have hkn : k = n := by omega
      subst hkn
      clear hlt hk
      go_wp2
      go_ret
      exact ⟨rfl, by rw [← rowK_full k x]; exact HR.out.1, HR.out.2⟩
end Go.Proofs.Ytdemoikadojepaa
