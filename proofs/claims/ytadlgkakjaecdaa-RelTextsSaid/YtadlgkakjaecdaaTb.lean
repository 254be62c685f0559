/- The comparison of pairs of texts, by a contract. -/
import Derived.Test.YtadlgkakjaecdaaTk
import Derived.Test.YtadlgkakjaecdaaRc
namespace Go.Proofs.Ytadlgkakjaecdaa
open Go.RowKit Go.Maps Go.WideMaps Go.WideElems Go.ChangeShapes Go.WideShapes
open Go.Sort (SWO PermIn SortedIn)

theorem tb_list (x : Int) : (tb x).toList = [120, (97 + x.toNat).toUInt8] := by
  unfold tb ByteArray.toList
  rw [ByteArray.toList.loop, ByteArray.toList.loop, ByteArray.toList.loop]
  rfl
/-- The last byte of a number's text. -/
def kb (x : Int) : Int := ((97 + x.toNat) % 256 : Nat)
theorem kb_fit {x : Int} (h : FitT x) : kb x = 97 + x := by unfold FitT at h; unfold kb; omega
theorem less_tb (a b : Int) : Op.bytesLess (tb a).toList (tb b).toList = decide (kb a < kb b) := by
  rw [tb_list, tb_list]
  simp [Op.bytesLess, kb, UInt8.lt_iff_toNat_lt]
  omega
theorem same_tb (a b : Int) : ((tb a).toList == (tb b).toList) = decide (kb a = kb b) := by
  rw [tb_list, tb_list, Bool.eq_iff_iff]
  simp only [beq_iff_eq, List.cons.injEq, true_and, and_true, kb, ← UInt8.toNat_inj]
  simp
  omega
theorem isNaNT_any (a : ByteArray) (w : World) : Calls Try.prog 54 #[.string a] w fun e w' => e = .returned (.bool false) ∧ w = w' := by
  go_enter Try.func54, Try.ntmps54
  go_wp2
  go_ret
  exact ⟨by simp, rfl⟩
theorem compareT_any (a b : Int) (w : World) : Calls Try.prog 47 #[tv a, tv b] w fun e w' => e = .returned (.int .i64 (cmpI (kb a) (kb b))) ∧ w = w' := by
  have HN := Lib.hid (fun a => isNaNT_any a w)
  have e1 := less_tb a b
  have e2 := same_tb a b
  obtain ⟨R, hR⟩ : ∃ R, R = cmpI (kb a) (kb b) := ⟨_, rfl⟩
  rw [← hR]
  unfold cmpI at hR
  by_cases h1 : kb a < kb b
  · rw [if_pos h1] at hR
    rw [decide_eq_true h1] at e1
    subst hR
    go_enter Try.func47, Try.ntmps47
    go_wp2_with (first | (go_at_call 54; refine (HN.out _).mono ?_; rintro e w2 ⟨rfl, rfl⟩))
    go_ret
    exact ⟨rfl, rfl⟩
  · rw [if_neg h1] at hR
    rw [decide_eq_false h1] at e1
    by_cases h2 : kb b < kb a
    · rw [if_pos h2] at hR
      rw [decide_eq_false (show ¬ kb a = kb b by omega)] at e2
      subst hR
      go_enter Try.func47, Try.ntmps47
      go_wp2_with (first | (go_at_call 54; refine (HN.out _).mono ?_; rintro e w2 ⟨rfl, rfl⟩))
      go_ret
      exact ⟨rfl, rfl⟩
    · rw [if_neg h2] at hR
      rw [decide_eq_true (show kb a = kb b by omega)] at e2
      subst hR
      go_enter Try.func47, Try.ntmps47
      go_wp2_with (first | (go_at_call 54; refine (HN.out _).mono ?_; rintro e w2 ⟨rfl, rfl⟩))
      go_ret
      exact ⟨rfl, rfl⟩
/-- What the comparison of pairs says. -/
def kk (p : Pr) : Pr := (kb p.1, kb p.2)
def cmpQ (p q : Pr) : Int := cmpP (kk p) (kk q)
theorem swoQ : SWO (ltOf cmpQ) where
  irrefl x := swoP.irrefl (kk x)
  trans x y z h1 h2 := swoP.trans (kk x) (kk y) (kk z) h1 h2
  ntrans x y z h1 h2 := swoP.ntrans (kk x) (kk y) (kk z) h1 h2
theorem ltQ_of {p q : Pr} (hp : FitQ p) (hq : FitQ q) : ltOf cmpQ p q = decide (LtP p q) := by
  have h1 : ltOf cmpQ p q = ltOf cmpP (kk p) (kk q) := rfl
  rw [h1, ltP_of]
  refine decide_eq_decide.2 ?_
  unfold LtP kk
  rw [kb_fit hp.1, kb_fit hp.2, kb_fit hq.1, kb_fit hq.2]
  simp only
  omega
set_option maxHeartbeats 2000000 in
theorem cmp_pairsT (p q : Pr) (w : World) : Calls Try.prog 45 #[tpv p, tpv q] w fun e w' => e = .returned (.int .i64 (cmpQ p q)) ∧ Hid (∃ n os', w' = Go.Sort.grow (w.drewN n) os') := by
  have HC := Lib.hid (fun a b w => compareT_any a b w)
  obtain ⟨W1, hW1, hb1, hs1, p0, p1⟩ := two_new w (tv p.1) (tv p.2) 52
  obtain ⟨W, hW, hb2, hs2, q0, q1⟩ := two_new W1 (tv q.1) (tv q.2) 52
  have r0 := (hb2.out.cell (p := ⟨w.heap.size, 0, none⟩) hs1.out).trans p0
  have r1 := (hb2.out.cell (p := ⟨w.heap.size, 1, none⟩) hs1.out).trans p1
  have Hb := Lib.hid (hb1.out.trans (hb2.out.mono hb1.out.size))
  obtain ⟨B, hB⟩ : ∃ B, w.heap.size = B := ⟨_, rfl⟩
  obtain ⟨C, hC⟩ : ∃ C, W1.heap.size = C := ⟨_, rfl⟩
  have HR : Hid (cmpQ p q = orI (cmpI (kb p.1) (kb q.1)) (cmpI (kb p.2) (kb q.2))) := rfl
  clear p0 p1
  generalize cmpQ p q = R at *
  rw [hB] at r0 r1
  rw [hC] at q0 q1
  go_enter Try.func45, Try.ntmps45
  go_wp2
  go_region_held3 (fun w' => w'.cell? ⟨B, 0, none⟩ = some (tv p.1) ∧ w'.cell? ⟨B, 1, none⟩ = some (tv p.2) ∧ w'.cell? ⟨C, 0, none⟩ = some (tv q.1) ∧ w'.cell? ⟨C, 1, none⟩ = some (tv q.2)) (go_keep)
    (first
      | (go_at_call 47; refine (HC.out _ _ _).mono ?_; rintro e w4 ⟨rfl, rfl⟩)
      | (go_at_call 46; refine (or_two _ _ W.heap.size _ (show (W.alloc _).drew.cell? _ = _ from new_c0 W _ _ 3) (show (W.alloc _).drew.cell? _ = _ from new_c1 W _ _ 3)).mono ?_; rintro e w5 ⟨rfl, rfl⟩))
  all_goals
    go_wp2
    go_ret
    refine ⟨(by rw [HR.out]; rfl), 1, #[.cells #[tv p.1, tv p.2] 52, .cells #[tv q.1, tv q.2] 52, .cells #[.int .i64 (cmpI (kb p.1) (kb q.1)), .int .i64 (cmpI (kb p.2) (kb q.2))] 3], ?_⟩
    rw [← hW, ← hW1, Sort.alloc_eq_grow, Sort.alloc_eq_grow, Sort.alloc_eq_grow, Sort.grow_grow, Sort.grow_grow]
    rfl
end Go.Proofs.Ytadlgkakjaecdaa
