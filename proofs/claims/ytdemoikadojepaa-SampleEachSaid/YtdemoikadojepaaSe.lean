/- The document's registers, by a contract. -/
import Derived.Test.YtdemoikadojepaaSd
namespace Go.Proofs.Ytdemoikadojepaa
open Go.RowKit Go.Maps Go.WideMaps Go.WideElems Go.ChangeShapes Go.WideShapes

theorem objs_more (k : Nat) : objs (List.replicate (k + 1) 1) = objs (List.replicate k 1) ++ [1, 0] := by
  rw [List.replicate_succ']
  unfold objs
  rw [List.flatMap_append]
  rfl
set_option maxHeartbeats 4000000 in
theorem regs_any (n : Nat) (hn : n ≤ 10) (w : World) :
    Calls Try.prog 35 #[.int .i64 n] w fun e w' => ∃ vo, e = .returned vo ∧ Hid (w'.ownsRow w.heap.size 52 2 vo n (ints (objs (List.replicate n 1))) ∧ Below w.heap.size w w') := by
  obtain ⟨i0, hi, hz0, hz1, hz2⟩ := info_parts elem52
  go_enter Try.func35, Try.ntmps35
  go_wp2_with fail
  go_loopw [3, 4] (fun v i wr => ∃ (k : Nat), k ≤ n ∧ i = .int .i64 k ∧ Hid (wr.ownsRow w.heap.size 52 2 v k (ints (objs (List.replicate k 1))) ∧ Below w.heap.size w wr)) (fun _ i _ => n - (intOf i).toNat)
  case atStart => exact ⟨0, Nat.zero_le _, rfl, World.ownsRow_nil _ _ _ _, Below.refl _ _⟩
  case round =>
    obtain ⟨k, hk, rfl, HR⟩ := hrel
    obtain ⟨v, hv⟩ : ∃ v, u3 = v := ⟨_, rfl⟩
    rw [hv] at HR ⊢
    by_cases hlt : k < n
    · have HB : Hid (w.heap.size ≤ wr.heap.size) := HR.out.2.size
      go_wp2_with (first
        | (at_builtin; refine wpList_append_own _ rfl _ _ 23 rfl w.heap.size 52 i0 _ 2 16 Try.underlying23 hi hz0 hz1 hz2 rfl (by decide) v k _ rfl (HR.out.1.alloc _) ⟨wr.heap.size, 0, none⟩ 1 1 (ints [1, 0]) rfl rfl (news_new _ _ _) (ints_one _) (by unfold maxLen; omega) (by omega) (alloc_le HB.out _) ?_
           intro v5 w5 hown5 hgrow5 hnil5
           have Ho5 := Lib.hid hown5
           have Hg5 := Lib.hid hgrow5
           clear hown5 hgrow5 hnil5)
        | go_in)
      have Hend : Hid (w5.ownsRow w.heap.size 52 2 v5 (k + 1) (ints (objs (List.replicate (k + 1) 1))) ∧ Below w.heap.size w w5) :=
        ⟨row_eq Ho5.out rfl (by rw [objs_more]; simp), below_own (HR.out.2.alloc HB.out _) Hg5.out (HR.out.1.alloc _) (alloc_le HB.out _)⟩
      clear Ho5 Hg5
      go_roundw
      case rel => exact ⟨k + 1, by omega, by go_num, Hend.out⟩
      case measure => simp [intOf]; omega
    · have hkn : k = n := by omega
      subst hkn
      clear hlt hk
      go_wp2
      go_ret
      exact ⟨v, rfl, HR⟩
end Go.Proofs.Ytdemoikadojepaa
