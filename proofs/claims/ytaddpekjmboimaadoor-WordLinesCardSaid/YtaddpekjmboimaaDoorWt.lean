/- The walks of the statement's other answers: texts copied, words joined, a line that says nothing. -/
import Derived.Test.YtaddpekjmboimaaDoorRw
import Derived.Lib.AppendStr
import Derived.Lib.Join
namespace Go.Proofs.YtaddpekjmboimaaDoor
open Go.RowKit Go.Maps Go.WideMaps Go.WideElems Go.ChangeShapes Go.WideShapes

theorem tat_at {w : World} {a : Option Addr} {l : List (List UInt8)} (h : TAt w a l) {k : Nat} (hk : k < l.length) : ∃ b off, a = some ⟨b, off, none⟩ ∧ b < w.heap.size ∧ w.cell? ⟨b, off + k, none⟩ = some (tv (l[k]?.getD [])) := by
  rcases h with e | ⟨b, off, rfl, hc⟩
  · rw [e] at hk; simp at hk
  · exact ⟨b, off, rfl, World.block_lt_of_cell? w _ (hc k hk), hc k hk⟩

theorem tat_cell {w : World} {b off : Nat} {l : List (List UInt8)} (h : TAt w (some ⟨b, off, none⟩) l) {k : Nat} (hk : k < l.length) : w.cell? ⟨b, off + k, none⟩ = some (tv (l[k]?.getD [])) := by
  obtain ⟨b', off', e, _, h⟩ := tat_at h hk
  cases e; exact h

set_option maxRecDepth 100000 in
set_option maxHeartbeats 1000000 in
/-- Texts: a copy in new memory. -/
theorem texts_any (a : Option Addr) (c : Nat) (ls : List (List UInt8)) (w : World) (h : TAt w a ls) (hl : ls.length ≤ 8796093022208) :
    Calls Tryd.prog 10 #[.slice a ls.length c] w fun e w' => ∃ v, e = .returned v ∧ Hid (w'.ownsRow w.heap.size 9 1 v ls.length (tc ls) ∧ Below w.heap.size w w') := by
  obtain ⟨i0, hi, hz0, hz1, hz2⟩ := info_parts infoS
  have H := Lib.hid h
  clear h
  go_enter Tryd.func10, Tryd.ntmps10
  go_wp2_with (first | (at_make; refine wpList_make_own _ rfl _ _ 22 rfl w.heap.size 9 i0 (.string ⟨#[]⟩) 1 under22 hi hz0 hz1 .i64 .i64 _ ls.length rfl rfl rfl (by rw [hz2]; omega) (by unfold maxLen; omega) (Nat.le_refl _) ?_; intro w0 hown0 hgrow0))
  have HP : Hid (w0.ownsRow w.heap.size 9 1 (.slice (some ⟨w.heap.size, 0, none⟩) 0 ls.length) 0 (tc (ls.take 0)) ∧ Below w.heap.size w w0) := ⟨by simpa using hown0, (Below.refl _ _).grown hgrow0 (Nat.le_refl _) (fun k e => by cases e)⟩
  clear hown0 hgrow0
  go_wp2
  go_loopw [4, 3] (fun i v wr => ∃ k : Nat, k ≤ ls.length ∧ i = .int .i64 k ∧ Hid (wr.ownsRow w.heap.size 9 1 v k (tc (ls.take k)) ∧ Below w.heap.size w wr)) (fun i _ _ => ls.length - (intOf i).toNat)
  case atStart => exact ⟨0, Nat.zero_le _, rfl, HP.out⟩
  case round =>
    obtain ⟨k, hk, rfl, HR⟩ := hrel
    clear HP
    by_cases hlt : k < ls.length
    · obtain ⟨b, off, rfl, hb, hc⟩ := tat_at (H.out.below' HR.out.2) hlt
      have hown := HR.out.1
      have hbs := HR.out.2.size
      have hs : tc (ls.take (k + 1)) = tc (ls.take k) ++ [tv (ls[k]?.getD [])] := by
        rw [List.take_succ_eq_append_getElem hlt, List.getElem?_eq_getElem hlt]
        exact List.map_append
      have Hs := Lib.hid hs
      clear hs
      generalize ls[k]?.getD [] = x at *
      go_wp2_with (first | (at_builtin; refine wpList_append_own _ rfl _ _ 22 rfl w.heap.size 9 i0 (.string ⟨#[]⟩) 1 16 under22 hi hz0 hz1 hz2 rfl (by decide) _ _ _ rfl (hown.alloc _) ⟨wr.heap.size, 0, none⟩ 1 1 [tv x] rfl rfl (cell_one_new _ _ _) (by simp [Value.oneCell']) (by unfold maxLen; omega) (by omega) (by simp; omega) ?_; intro v' w1 hown' hgrow' _))
      have HM : Hid (w1.ownsRow w.heap.size 9 1 v' (k + 1) (tc (ls.take (k + 1))) ∧ Below w.heap.size w w1) := ⟨by rw [Hs.out]; exact hown', (HR.out.2.alloc HR.out.2.size _).grown hgrow' (by simp; omega) (fun j e => (hown.lt j e).1)⟩
      clear hown hown' hgrow' hc
      go_wp2
      go_roundw
      case rel => exact ⟨k + 1, by omega, by go_num, HM.out⟩
      case measure => simp [intOf]; omega
    · have hke : k = ls.length := by omega
      subst hke
      go_wp2
      go_ret
      exact ⟨_, rfl, by simpa using HR.out.1, HR.out.2⟩

theorem join_take (ls : List (List UInt8)) (k : Nat) (y : List UInt8) (h : ls[k]? = some y) : Lib.join (ls.take (k + 1)) [32] = (if k = 0 then [] else Lib.join (ls.take k) [32] ++ [32]) ++ y := by
  cases ls with
  | nil => simp at h
  | cons x r =>
    cases k with
    | zero => simp at h; subst h; simp [Lib.join_one]
    | succ k =>
      have h' : r[k]? = some y := by simpa using h
      rw [List.take_succ_cons, List.take_succ_cons, Lib.join_cons, Lib.join_cons, Lib.joinTail_take_succ _ _ _ _ h']
      simp
theorem join_take_le (ls : List (List UInt8)) (k : Nat) : (Lib.join (ls.take k) [32]).length ≤ (Lib.join ls [32]).length := by
  cases ls with
  | nil => simp
  | cons x r =>
    cases k with
    | zero => simp [Lib.join_nil]
    | succ k =>
      rw [List.take_succ_cons, Lib.join_cons, Lib.join_cons]
      have := Lib.joinTail_take_le [32] r k
      simp; omega

/-- The bytes of a text. -/
def un (l : List UInt8) : List Nat := l.map UInt8.toNat
theorem un_app (l l' : List UInt8) : un (l ++ l') = un l ++ un l' := by simp [un]
theorem un_len (l : List UInt8) : (un l).length = l.length := by simp [un]
theorem bc_app (l l' : List Nat) : bc (l ++ l') = bc l ++ bc l' := by simp [bc]
theorem strCells_un (l : List UInt8) : Lib.strCells ⟨l.toArray⟩ = bc (un l) := by simp [Lib.strCells, bc, un]
theorem sB_un (l : List UInt8) : sB (un l) = ⟨l.toArray⟩ := by
  unfold sB un
  rw [List.map_map]
  have : (UInt8.ofNat ∘ UInt8.toNat) = id := by funext x; simp
  rw [this, List.map_id]

set_option maxRecDepth 100000 in
set_option maxHeartbeats 2000000 in
/-- Words joined, by the document's own answer. -/
theorem refJoin_any (a : Option Addr) (c : Nat) (ls : List (List UInt8)) (w : World) (h : TAt w a ls) (hn : ls.length ≤ 140737488355328) (hl : (Lib.join ls [32]).length ≤ 140737488355328) :
    Calls Tryd.prog 15 #[.slice a ls.length c] w fun e w' => e = .returned (tv (Lib.join ls [32])) ∧ Hid (Below w.heap.size w w') := by
  obtain ⟨i0, hi, hz0, hz1, hz2⟩ := info_parts infoB
  have H := Lib.hid h
  clear h
  go_enter Tryd.func15, Tryd.ntmps15
  go_wp2
  go_loopw [4, 3] (fun i v wr => ∃ k : Nat, k ≤ ls.length ∧ i = .int .i64 k ∧ Hid (wr.ownsRow w.heap.size 5 1 v (Lib.join (ls.take k) [32]).length (bc (un (Lib.join (ls.take k) [32]))) ∧ Below w.heap.size w wr)) (fun i _ _ => ls.length - (intOf i).toNat)
  case atStart => exact ⟨0, Nat.zero_le _, rfl, World.ownsRow_nil _ _ _ _, Below.refl _ _⟩
  case round =>
    obtain ⟨k, hk, rfl, HR⟩ := hrel
    by_cases hlt : k < ls.length
    · obtain ⟨b, off, rfl, hb, hc⟩ := tat_at (H.out.below' HR.out.2) hlt
      have hown := HR.out.1
      have hbs := HR.out.2.size
      have hj := join_take ls k (ls[k]?.getD []) (by rw [List.getElem?_eq_getElem hlt]; rfl)
      have hjl := join_take_le ls (k + 1)
      generalize hx : ls[k]?.getD [] = x at *
      have Hx := Lib.hid hx
      clear hx
      generalize hJ : Lib.join (ls.take k) [32] = J at *
      generalize hJ1 : Lib.join (ls.take (k + 1)) [32] = J1 at *
      have HJ := Lib.hid hJ
      have HJ1 := Lib.hid hJ1
      clear hJ hJ1
      have hxs : (⟨x.toArray⟩ : ByteArray).size = x.length := by simp [ByteArray.size]
      by_cases hk0 : k = 0
      · have hd : decide (0 < k) = false := by simp; omega
        rw [if_pos hk0] at hj
        have e0 : J = [] := by rw [← HJ.out, hk0]; rfl
        subst e0
        have e1 : J1 = x := by rw [hj]; simp
        subst e1
        have Hk0 := Lib.hid hk0
        clear hj hk0
        go_wp2_with (first | (at_builtin; refine Lib.wpList_append_own_string _ rfl _ _ 31 9 rfl w.heap.size 5 i0 under31 under9s hi hz0 hz1 hz2 _ _ _ rfl hown ⟨J1.toArray⟩ rfl (by rw [hxs, List.length_nil]; unfold maxLen; omega) (by rw [hxs, List.length_nil]; omega) hbs ?_; intro v' w1 hown' hgrow' _))
        have HM : Hid (w1.ownsRow w.heap.size 5 1 v' J1.length (bc (un J1)) ∧ Below w.heap.size w w1) := ⟨by rw [hxs] at hown'; simpa [strCells_un, un, bc] using hown', HR.out.2.grown hgrow' hbs (fun j e => (hown.lt j e).1)⟩
        clear hown hown' hgrow'
        go_wp2
        go_roundw
        case rel => exact ⟨k + 1, by omega, by go_num, by rw [HJ1.out]; exact HM.out⟩
        case measure => simp [intOf]; omega
      · have hd : decide (0 < k) = true := by simp; omega
        rw [if_neg hk0] at hj
        have hjl2 : J1.length = J.length + 1 + x.length := by rw [hj]; simp; omega
        clear hc
        have Hlt := Lib.hid hlt
        have Hj := Lib.hid hj
        clear hj
        go_wp2_with (first | (at_builtin; refine wpList_append_own _ rfl _ _ 31 rfl w.heap.size 5 i0 (.int .u8 0) 1 1 under31 hi hz0 hz1 hz2 rfl (by decide) _ _ _ rfl (hown.alloc _) ⟨wr.heap.size, 0, none⟩ 1 1 [.int .u8 32] rfl rfl (cell_one_new _ _ _) (by simp [Value.oneCell']) (by unfold maxLen; omega) (by omega) (by simp; omega) ?_; intro v' w1 hown1 hgrow1 _; have hb1 : Below w.heap.size w w1 := (HR.out.2.alloc HR.out.2.size _).grown hgrow1 (by simp; omega) (fun j e => (hown.lt j e).1); have hcc : w1.cell? ⟨b, off + k, none⟩ = some (tv x) := (tat_cell (H.out.below' hb1) Hlt.out).trans (by rw [Hx.out])) | (at_builtin; refine Lib.wpList_append_own_string _ rfl _ _ 31 9 rfl w.heap.size 5 i0 under31 under9s hi hz0 hz1 hz2 _ _ _ rfl hown1 ⟨x.toArray⟩ rfl (by unfold maxLen; rw [hxs]; omega) (by rw [hxs]; omega) hb1.size ?_; intro v2 w2 hown' hgrow' _))
        have HM : Hid (w2.ownsRow w.heap.size 5 1 v2 J1.length (bc (un J1)) ∧ Below w.heap.size w w2) := by
          rw [hxs, strCells_un] at hown'
          refine ⟨?_, hb1.grown hgrow' hb1.size (fun j e => (hown1.lt j e).1)⟩
          rw [hjl2, Hj.out, un_app, un_app, bc_app, bc_app]
          exact hown'
        clear hown hown1 hgrow1 hown' hgrow' hb1 hcc
        go_wp2
        go_roundw
        case rel => exact ⟨k + 1, by have := Hlt.out; omega, by go_num, by rw [HJ1.out]; exact HM.out⟩
        case measure => have := Hlt.out; simp [intOf]; omega
    · have hke : k = ls.length := by omega
      subst hke
      rw [List.take_length] at HR
      have ho := HR.out.1
      rw [← un_len] at ho
      obtain ⟨a3, c3, rfl, ht⟩ := bat_row ho
      have hcv := conv_bytes c3 ht
      rw [sB_un] at hcv
      have HB := Lib.hid HR.out.2
      clear ho ht HR
      go_wp2
      go_ret
      exact ⟨rfl, HB.out⟩
theorem silentL_blank (l : List UInt8) : silentL (32 :: l) = silentL l := by simp [silentL]
theorem silentL_other {c : UInt8} (h : c ≠ 32) (l : List UInt8) : silentL (c :: l) = (c == 35) := by simp [silentL, h]

set_option maxRecDepth 100000 in
set_option maxHeartbeats 1000000 in
/-- Whether a line says nothing, by the document's own answer. -/
theorem refSilent_any (s : ByteArray) (hs : s.size ≤ 9223372036854775807) (w : World) :
    Calls Tryd.prog 17 #[.string s] w fun e w' => e = .returned (.bool (silentL s.data.toList)) ∧ ∃ q, w.drewN q = w' := by
  obtain ⟨S, hS⟩ : ∃ S, S = silentL s.data.toList := ⟨_, rfl⟩
  rw [← hS]
  have Hl := Lib.hid (show s.data.toList.length = s.size by simp)
  have HS : Hid (silentL (s.data.toList.drop 0) = S) := by show _ = _; rw [hS]; rfl
  clear hS
  go_enter Tryd.func17, Tryd.ntmps17
  go_wp2
  go_loopw [3] (fun i wr => ∃ k q : Nat, k ≤ s.size ∧ i = .int .i64 k ∧ Hid (w.drewN q = wr ∧ silentL (s.data.toList.drop k) = S)) (fun i _ => s.size - (intOf i).toNat)
  case atStart => exact ⟨0, 0, Nat.zero_le _, rfl, rfl, HS.out⟩
  case round =>
    obtain ⟨k, q, hk, rfl, HR⟩ := hrel
    clear HS
    by_cases hlt : k < s.size
    · have hdr : s.data.toList.drop k = s[k] :: s.data.toList.drop (k + 1) := List.drop_eq_getElem_cons (by rw [Hl.out]; exact hlt)
      by_cases h32 : s[k] = 32
      · have hx : (((s[k]'hlt).toNat : Int) != 32) = false := by rw [bne, byte32, decide_eq_true h32]; rfl
        have HM : Hid (w.drewN q = wr ∧ silentL (s.data.toList.drop (k + 1)) = S) := ⟨HR.out.1, by rw [← HR.out.2, hdr, h32, silentL_blank]⟩
        clear hdr h32
        go_wp2
        go_roundw
        case rel => exact ⟨k + 1, q, by omega, by go_num, HM.out⟩
        case measure => simp [intOf]; omega
      · have hx : (((s[k]'hlt).toNat : Int) != 32) = true := by rw [bne, byte32, decide_eq_false h32]; rfl
        have HM : Hid (w.drewN q = wr ∧ ((((s[k]'hlt).toNat : Int) == 35) = S)) := ⟨HR.out.1, by
          rw [← HR.out.2, hdr, silentL_other h32]
          by_cases h : s[k] = 35
          · rw [h]; rfl
          · have h2 : s[k].toNat ≠ 35 := fun h2 => h (UInt8.toNat_inj.1 h2)
            have h3 : (s[k] == 35) = false := by simpa using h
            rw [h3]; simp; omega⟩
        clear hdr h32
        go_wp2
        go_ret
        exact ⟨by rw [← HM.out.2]; rfl, q, HM.out.1⟩
    · have HM : Hid (w.drewN q = wr ∧ S = true) := ⟨HR.out.1, by rw [← HR.out.2, List.drop_of_length_le (by rw [Hl.out]; omega)]; rfl⟩
      go_wp2
      go_ret
      exact ⟨by rw [HM.out.2]; rfl, q, HM.out.1⟩
end Go.Proofs.YtaddpekjmboimaaDoor
