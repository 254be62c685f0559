/- Package spec: a map's text cut at a key, by a contract. -/
import Derived.Test.YtcjfcomadcebnaaGreatDoorSa
namespace Go.Proofs.YtcjfcomadcebnaaGreatDoor
open Go.RowKit Go.Maps Go.WideMaps Go.WideElems Go.ChangeShapes Go.WideShapes

variable {T : TypeId} {er : Nat → Addr}

/-- Keys and values that fit. -/
def KvFit (l : List (Int × Int)) : Prop := ∀ p ∈ l, fits64 p.1 ∧ fits64 p.2
/-- The text of the own item. -/
def ownT (k : Int) : Option Int → List UInt8
  | none => []
  | some v => 32 :: item (k, v)
/-- What split answers. -/
def splitV (k : Int) (l : List (Int × Int)) : Value := .tuple #[tv (mtext (spl k l).1), tv (ownT k (spl k l).2.1), tv (mtext (spl k l).2.2)]

theorem splitV_end {k : Int} {pre : List (Int × Int)} (h : ∀ p ∈ pre, p.1 < k) : splitV k (pre ++ []) = .tuple #[tv (mtext pre), tv [], tv []] := by
  unfold splitV
  rw [spl_pre k pre [] h]
  simp [spl, ownT, mtext]
theorem splitV_own {k v : Int} {pre t : List (Int × Int)} (h : ∀ p ∈ pre, p.1 < k) : splitV k (pre ++ (k, v) :: t) = .tuple #[tv (mtext pre), tv (32 :: item (k, v)), tv (mtext t)] := by
  unfold splitV
  rw [spl_pre k pre _ h]
  simp [spl, ownT]
theorem splitV_past {k a v : Int} {pre t : List (Int × Int)} (h : ∀ p ∈ pre, p.1 < k) (ha : k < a) : splitV k (pre ++ (a, v) :: t) = .tuple #[tv (mtext pre), tv [], tv (mtext ((a, v) :: t))] := by
  unfold splitV
  rw [spl_pre k pre _ h]
  have h1 : ¬ a < k := by omega
  have h2 : ¬ a = k := by omega
  simp [spl, ownT, h1, h2]

set_option maxRecDepth 100000 in
set_option maxHeartbeats 4000000 in
theorem split_any (l : List (Int × Int)) (hl : KvFit l) (hm : (mtext l).length ≤ 1000000000) (key : Int) (w : World) (hG : Glob T er w) : Calls Tryz.prog 107 #[tv (mtext l), .int .i64 key] w fun e w' => e = .returned (splitV key l) ∧ Hid (Below w.heap.size w w') := by
  have HG := Lib.hid hG
  have HL := Lib.hid hl
  obtain ⟨L, hL⟩ : ∃ L, L = mtext l := ⟨_, rfl⟩
  obtain ⟨R, hR⟩ : ∃ R, R = splitV key l := ⟨_, rfl⟩
  rw [← hL] at hm ⊢
  rw [← hR]
  have hsz := tv_size L
  have HLe := Lib.hid hL
  have HR := Lib.hid hR
  clear hG hl hL hR
  go_enter Tryz.func107, Tryz.ntmps107
  go_wp2
  go_loopw [7] (fun i wr => ∃ A : Nat, A ≤ L.length ∧ i = .int .i64 A ∧ Hid (Below w.heap.size w wr ∧ ∃ pre rest, l = pre ++ rest ∧ (∀ p ∈ pre, p.1 < key) ∧ A = (mtext pre).length)) (fun i _ => L.length - (intOf i).toNat)
  case atStart => exact ⟨0, Nat.zero_le _, rfl, Below.refl _ _, [], l, rfl, by simp, rfl⟩
  case round =>
    obtain ⟨A, hA, rfl, Hr⟩ := hrel
    obtain ⟨hb, pre, rest, hpr, hpre, hAe⟩ := Hr.out
    have hLs : L = mtext pre ++ mtext rest := by rw [HLe.out, hpr, mtext_app]
    have hto : L.take A = mtext pre := by rw [hLs, hAe]; simp
    have hfrom : L.drop A = mtext rest := by rw [hLs, hAe]; simp
    have Hb := Lib.hid hb
    cases rest with
    | nil =>
      have hAL : A = L.length := by rw [hLs, hAe]; simp [mtext]
      have HR' : Hid (R = .tuple #[tv L, tv [], tv []]) := by
        show _ = _
        rw [HR.out, hpr, splitV_end hpre, hLs]; simp [mtext]
      clear hb hpr hpre hAe hLs hto hfrom Hr HLe HR
      subst hAL
      go_wp2
      refine bodyPost_ret (results_tmp3 (fn := Tryz.f107) rfl _ _ _) rfl ?_
      exact ⟨congrArg _ HR'.out.symm, Hb.out⟩
    | cons p t =>
      obtain ⟨a, v⟩ := p
      have hfit := HL.out (a, v) (by rw [hpr]; simp)
      have hX : mtext ((a, v) :: t) = 32 :: (item (a, v) ++ mtext t) := rfl
      have hE : iendL (mtext ((a, v) :: t)) = (item (a, v)).length + 1 := by rw [hX]; exact iend_item (item_32 _) (mtext_shape t)
      have hlen : L.length = A + ((item (a, v)).length + 1) + (mtext t).length := by rw [hLs, hAe, hX]; simp; omega
      obtain ⟨E, hEe⟩ : ∃ E, E = (item (a, v)).length + 1 := ⟨_, rfl⟩
      rw [← hEe] at hE hlen
      have hmid : (L.drop A).take (A + E - A) = 32 :: item (a, v) := by rw [hfrom, hX, hEe, Nat.add_sub_cancel_left]; simp
      have hend : L.drop (A + E) = mtext t := by
        rw [← List.drop_drop, hfrom, hX, hEe]; simp
      have hs1 : ∀ w, (Instr.slice 9 (tv L) (some (.int .i64 (A : Int))) none none).run Tryz.prog w = .ok (tv (mtext ((a, v) :: t))) w := fun w => by rw [← hfrom]; exact str_from L A hA w
      have hs2 : ∀ w, (Instr.slice 9 (tv L) (some (.int .i64 (A : Int))) (some (.int .i64 ((A : Int) + (E : Int)))) none).run Tryz.prog w = .ok (tv (32 :: item (a, v))) w := fun w => by rw [← hmid]; exact str_mid L A (A + E) (by omega) (by omega) w
      have hs3 : ∀ w, (Instr.slice 9 (tv L) none (some (.int .i64 (A : Int))) none).run Tryz.prog w = .ok (tv (mtext pre)) w := fun w => by rw [← hto]; exact str_to L A hA w
      have hs4 : ∀ w, (Instr.slice 9 (tv L) (some (.int .i64 ((A : Int) + (E : Int)))) none none).run Tryz.prog w = .ok (tv (mtext t)) w := fun w => by rw [← hend]; exact str_from L (A + E) (by omega) w
      have Hie := Lib.hid (fun w => itemEnd_any (mtext ((a, v) :: t)) (by rw [hX]; simp) (by rw [← hfrom]; simp; omega) w)
      rw [hE] at Hie
      have Hpa := Lib.hid (fun W (h : Glob T er W) => pair_any (a, v) hfit.1 hfit.2 W h)
      have hlt : A < L.length := by omega
      have hAE : A + E ≤ L.length := by omega
      have hE1 : 1 ≤ E := by omega
      have Hown := Lib.hid (fun (e : a = key) => (by rw [HR.out, hpr, e]; exact splitV_own hpre : R = .tuple #[tv (mtext pre), tv (32 :: item (key, v)), tv (mtext t)]))
      have Hpast := Lib.hid (fun (e : key < a) => (by rw [HR.out, hpr]; exact splitV_past hpre e : R = .tuple #[tv (mtext pre), tv [], tv (mtext ((a, v) :: t))]))
      have Hgo : Hid (a < key → ∃ pre' rest', l = pre' ++ rest' ∧ (∀ p ∈ pre', p.1 < key) ∧ A + E = (mtext pre').length) := fun e => ⟨pre ++ [(a, v)], t, by rw [hpr]; simp, fun p hp => by
        rcases List.mem_append.1 hp with hp | hp
        · exact hpre p hp
        · simp at hp; subst hp; exact e, by rw [mtext_app, List.length_append, ← hAe, hEe]; simp [mtext]⟩
      generalize mtext ((a, v) :: t) = X at *
      generalize mtext t = Z at *
      generalize mtext pre = Y at *
      have HmE := Lib.hid hEe
      clear hb hpr hpre hAe hLs hto hfrom Hr HLe HR hfit hX hE hEe hmid hend hlen
      by_cases h1 : a = key
      · have HR' := Lib.hid (Hown.out h1)
        subst h1
        clear Hgo Hown Hpast
        generalize item (a, v) = it at *
        go_wp2_with (first
          | (go_at_call 105; refine (Hie.out _).mono ?_; rintro e w' ⟨rfl, rfl⟩)
          | (go_at_call 108; refine (Hpa.out _ (HG.out.below' Hb.out)).mono ?_; rintro e w2 ⟨rfl, hb2⟩; have H2 := Lib.hid (Hb.out.trans (hb2.out.mono Hb.out.size)); clear hb2))
        go_quiet (fail)
        go_wp2
        refine bodyPost_ret (results_tmp3 (fn := Tryz.f107) rfl _ _ _) rfl ?_
        exact ⟨congrArg _ HR'.out.symm, below_drewN H2.out _⟩
      by_cases h2 : key < a
      · have HR' := Lib.hid (Hpast.out h2)
        clear Hgo Hown Hpast
        generalize item (a, v) = it at *
        go_wp2_with (first
          | (go_at_call 105; refine (Hie.out _).mono ?_; rintro e w' ⟨rfl, rfl⟩)
          | (go_at_call 108; refine (Hpa.out _ (HG.out.below' Hb.out)).mono ?_; rintro e w2 ⟨rfl, hb2⟩; have H2 := Lib.hid (Hb.out.trans (hb2.out.mono Hb.out.size)); clear hb2))
        go_quiet (fail)
        go_wp2
        refine bodyPost_ret (results_tmp3 (fn := Tryz.f107) rfl _ _ _) rfl ?_
        exact ⟨congrArg _ HR'.out.symm, below_drewN H2.out _⟩
      · have HN := Lib.hid (Hgo.out (by omega))
        clear Hgo Hown Hpast
        generalize item (a, v) = it at *
        go_wp2_with (first
          | (go_at_call 105; refine (Hie.out _).mono ?_; rintro e w' ⟨rfl, rfl⟩)
          | (go_at_call 108; refine (Hpa.out _ (HG.out.below' Hb.out)).mono ?_; rintro e w2 ⟨rfl, hb2⟩; have H2 := Lib.hid (Hb.out.trans (hb2.out.mono Hb.out.size)); clear hb2))
        go_roundw
        case rel => exact ⟨A + E, hAE, by go_num, H2.out, HN.out⟩
        case measure => simp [intOf]; omega
end Go.Proofs.YtcjfcomadcebnaaGreatDoor
