/- Helpers, joined: Sa, Sb, Sc, Sd, Se, Sg. -/
import Derived.Test.YtcjfcomadcebnaaGreatDoorM1
import Derived.Carry
import Derived.Maps.Keyed
import Derived.Deep.RegionHeld3
import Derived.Deep.RegionWith

/- Package spec: the small functions on numbers and texts, by contracts. -/
namespace Go.Proofs.YtcjfcomadcebnaaGreatDoor
open Go.RowKit Go.Maps Go.WideMaps Go.WideElems Go.ChangeShapes Go.WideShapes

variable {T : TypeId} {er : Nat → Addr}

theorem under9 : Tryz.prog.underlying 9 = some .string := by kernel_rfl
theorem tv_size (l : List UInt8) : (⟨l.toArray⟩ : ByteArray).size = l.length := by simp [ByteArray.size]
theorem tv_data (l : List UInt8) : (⟨l.toArray⟩ : ByteArray).data.toList = l := by simp

set_option maxRecDepth 100000 in
theorem outside_any (n b : Int) (h0 : 0 ≤ b) (h1 : b ≤ 1000000000000000000) (w : World) : Calls Tryz.prog 66 #[.int .i64 n, .int .i64 b] w fun e w' => e = .returned (.bool (!nearB n b)) ∧ w = w' := by
  obtain ⟨R, hR⟩ : ∃ R, R = (!nearB n b) := ⟨_, rfl⟩
  rw [← hR]
  have HR := Lib.hid hR
  clear hR
  by_cases h2 : n < -b
  · have HR' : Hid (R = true) := by show _ = _; rw [HR.out, show nearB n b = false from decide_eq_false (by unfold near; omega)]; rfl
    go_enter Tryz.func66, Tryz.ntmps66
    go_wp2
    go_ret
    exact ⟨by rw [HR'.out]; rfl, rfl⟩
  by_cases h3 : b < n
  · have HR' : Hid (R = true) := by show _ = _; rw [HR.out, show nearB n b = false from decide_eq_false (by unfold near; omega)]; rfl
    go_enter Tryz.func66, Tryz.ntmps66
    go_wp2
    go_ret
    exact ⟨by rw [HR'.out]; rfl, rfl⟩
  · have HR' : Hid (R = false) := by show _ = _; rw [HR.out, show nearB n b = true from decide_eq_true (by unfold near; omega)]; rfl
    go_enter Tryz.func66, Tryz.ntmps66
    go_wp2
    go_ret
    exact ⟨by rw [HR'.out]; rfl, rfl⟩

theorem fieldsFit_any (op key val : Int) (w : World) : Calls Tryz.prog 65 #[.int .i64 op, .int .i64 key, .int .i64 val] w fun e w' => e = .returned (.bool (fitsB op key val)) ∧ w = w' := by
  have Ho := Lib.hid (outside_any val 1000000000 (by decide) (by decide) w)
  have Hk := Lib.hid (keyed_any op w)
  have Hv := Lib.hid (valued_any op w)
  obtain ⟨R, hR⟩ : ∃ R, R = fitsB op key val := ⟨_, rfl⟩
  rw [← hR]
  unfold fitsB at hR
  rw [show decide (near val 1000000000) = nearB val 1000000000 from rfl] at hR
  generalize nearB val 1000000000 = nb at *
  generalize keyedZ op = kb at *
  generalize valuedZ op = vb at *
  have HR := Lib.hid hR
  clear hR
  by_cases h1 : key < 0
  · have HR' : Hid (R = false) := by show _ = _; rw [HR.out, decide_eq_false (by omega : ¬ 0 ≤ key)]; simp
    go_enter Tryz.func65, Tryz.ntmps65
    go_wp2_with (first | (go_at_call 66; refine Ho.out.mono ?_; rintro e w' ⟨rfl, rfl⟩))
    go_ret
    exact ⟨by rw [HR'.out]; rfl, rfl⟩
  by_cases h2 : 1000 < key
  · have HR' : Hid (R = false) := by show _ = _; rw [HR.out, decide_eq_false (by omega : ¬ key ≤ 1000)]; simp
    go_enter Tryz.func65, Tryz.ntmps65
    go_wp2_with (first | (go_at_call 66; refine Ho.out.mono ?_; rintro e w' ⟨rfl, rfl⟩))
    go_ret
    exact ⟨by rw [HR'.out]; rfl, rfl⟩
  have HR1 : Hid (R = (nb && (key == 0 || kb) && (val == 0 || vb))) := by show _ = _; rw [HR.out, decide_eq_true (by omega : 0 ≤ key), decide_eq_true (by omega : key ≤ 1000)]; simp
  clear HR
  cases nb
  · have HR' : Hid (R = false) := by show _ = _; rw [HR1.out]; simp
    go_enter Tryz.func65, Tryz.ntmps65
    go_wp2_with (first | (go_at_call 66; refine Ho.out.mono ?_; rintro e w' ⟨rfl, rfl⟩))
    go_ret
    exact ⟨by rw [HR'.out]; rfl, rfl⟩
  obtain ⟨kz, hkz⟩ : ∃ kz, kz = (key == 0) := ⟨_, rfl⟩
  obtain ⟨vz, hvz⟩ : ∃ vz, vz = (val == 0) := ⟨_, rfl⟩
  rw [← hkz, ← hvz] at HR1
  have hkz' := hkz.symm
  have hvz' := hvz.symm
  clear hkz hvz
  cases kz <;> cases kb <;> cases vz <;> cases vb
  all_goals
    go_enter Tryz.func65, Tryz.ntmps65
    go_wp2_with (first | (go_at_call 66; refine Ho.out.mono ?_; rintro e w' ⟨rfl, rfl⟩) | (go_at_call 89; refine Hk.out.mono ?_; rintro e w' ⟨rfl, rfl⟩) | (go_at_call 90; refine Hv.out.mono ?_; rintro e w' ⟨rfl, rfl⟩))
    go_ret
    exact ⟨by rw [HR1.out]; rfl, rfl⟩

set_option maxRecDepth 100000 in
theorem told_itoa (v : Int) (h0 : -9223372036854775808 ≤ v) (h1 : v ≤ 9223372036854775807) (w : World) : Calls Tryz.prog 106 #[tv (Lib.itoa v)] w fun e w' => e = .returned (.int .i64 v) ∧ Hid (Below w.heap.size w w') := by
  have Ha := Lib.hid (atoi_ok (by have := itoa_len v h0 h1; omega) (atoi_itoa v h0 h1) w)
  generalize Lib.itoa v = l at *
  clear h0 h1
  go_enter Tryz.func106, Tryz.ntmps106
  go_wp2_with (first | (go_at_call 123; refine Ha.out.mono ?_; rintro e w' ⟨rfl, hb⟩))
  go_ret
  exact ⟨rfl, hb⟩

/-- Pieces of a text. -/
theorem arr_of (s : ByteArray) : (⟨s.data.toList.toArray⟩ : ByteArray) = s := by cases s; simp
theorem ext_tv (l : List UInt8) (a b : Nat) : (⟨l.toArray⟩ : ByteArray).extract a b = ⟨((l.drop a).take (b - a)).toArray⟩ := by
  rw [← arr_of ((⟨l.toArray⟩ : ByteArray).extract a b), Lib.extract_data, tv_data]
theorem str_from (l : List UInt8) (a : Nat) (ha : a ≤ l.length) (w : World) : (Instr.slice 9 (tv l) (some (.int .i64 (a : Int))) none none).run Tryz.prog w = .ok (tv (l.drop a)) w := by
  have hs := tv_size l
  simp [Instr.slice, Instr.sliceBounds, Instr.sliceBound, asIntOf, run_underlying under9, ha, hs, ext_tv]
  exact List.take_of_length_le (by simp)
theorem str_to (l : List UInt8) (b : Nat) (hb : b ≤ l.length) (w : World) : (Instr.slice 9 (tv l) none (some (.int .i64 (b : Int))) none).run Tryz.prog w = .ok (tv (l.take b)) w := by
  have hs := tv_size l
  simp [Instr.slice, Instr.sliceBounds, Instr.sliceBound, asIntOf, run_underlying under9, hb, hs, ext_tv]
theorem str_mid (l : List UInt8) (a b : Nat) (hab : a ≤ b) (hb : b ≤ l.length) (w : World) : (Instr.slice 9 (tv l) (some (.int .i64 (a : Int))) (some (.int .i64 (b : Int))) none).run Tryz.prog w = .ok (tv ((l.drop a).take (b - a))) w := by
  have hs := tv_size l
  simp [Instr.slice, Instr.sliceBounds, Instr.sliceBound, asIntOf, run_underlying under9, hab, hb, hs, ext_tv]

set_option maxRecDepth 100000 in
theorem itemEnd_any (l : List UInt8) (hl : 1 ≤ l.length) (hm : l.length ≤ 4294967280) (w : World) : Calls Tryz.prog 105 #[tv l] w fun e w' => e = .returned (.int .i64 (iendL l : Nat)) ∧ w = w' := by
  have hcut := str_from l 1 hl
  have hi := Lib.hid (Tryz.strings_IndexByte ⟨(l.drop 1).toArray⟩ 32 w)
  have hd : (l.drop 1).length = l.length - 1 := by simp
  rw [tv_data] at hi
  have hx : Lib.indexByte (l.drop 1) (Int.toNat 32).toUInt8 = Lib.indexByte (l.drop 1) 32 := rfl
  rw [hx] at hi
  obtain ⟨R, hR⟩ : ∃ R, R = iendL l := ⟨_, rfl⟩
  rw [← hR]
  unfold iendL at hR
  have hge := Lib.indexByte_ge (l.drop 1) 32
  have hle : Lib.indexByte (l.drop 1) 32 < l.length := by
    by_cases h0 : 0 ≤ Lib.indexByte (l.drop 1) 32
    · obtain ⟨i, hi'⟩ : ∃ i : Nat, Lib.indexByte (l.drop 1) 32 = i := ⟨(Lib.indexByte (l.drop 1) 32).toNat, by omega⟩
      have := (ib_split hi').2.2
      omega
    · omega
  generalize Lib.indexByte (l.drop 1) 32 = x at *
  have HR := Lib.hid hR
  have hcut' : ∀ w, (Instr.slice 9 (tv l) (some (.int .i64 1)) none none).run Tryz.prog w = .ok (tv (l.drop 1)) w := hcut
  generalize l.drop 1 = l1 at *
  have hsz := tv_size l
  clear hcut hR hx hd
  by_cases h0 : 0 ≤ x
  · have HR' : Hid (R = x.toNat + 1) := by show _ = _; rw [HR.out, if_pos h0]
    clear HR
    go_enter Tryz.func105, Tryz.ntmps105
    go_wp2_with (first | (go_at_call 122; refine hi.out.mono ?_; rintro e w' ⟨rfl, rfl⟩))
    go_ret
    exact ⟨by rw [HR'.out]; show Ending.returned (.int .i64 (x + 1)) = _; congr 2; omega, rfl⟩
  · have HR' : Hid (R = l.length) := by show _ = _; rw [HR.out, if_neg h0]
    clear HR
    go_enter Tryz.func105, Tryz.ntmps105
    go_wp2_with (first | (go_at_call 122; refine hi.out.mono ?_; rintro e w' ⟨rfl, rfl⟩))
    go_ret
    exact ⟨by rw [HR'.out]; rfl, rfl⟩

theorem cut_item (p : Int × Int) : Lib.cut (item p) [58] = (Lib.itoa p.1, Lib.itoa p.2, true) := by
  have h : Lib.index (item p) [58] = (Lib.itoa p.1).length := by rw [Lib.index_one]; exact ib_hit 58 _ _ (itoa_58 p.1)
  unfold Lib.cut
  rw [h, if_pos (by omega), Int.toNat_natCast]
  have e1 : (item p).take (Lib.itoa p.1).length = Lib.itoa p.1 := by simp [item]
  have e2 : (item p).drop ((Lib.itoa p.1).length + [(58 : UInt8)].length) = Lib.itoa p.2 := by unfold item; rw [List.drop_append]; simp
  rw [e1, e2]
/-- Numbers that fit. -/
def fits64 (n : Int) : Prop := -9223372036854775808 ≤ n ∧ n ≤ 9223372036854775807
theorem item_len (p : Int × Int) (h1 : fits64 p.1) (h2 : fits64 p.2) : (item p).length ≤ 43 := by
  have a := itoa_len p.1 h1.1 h1.2
  have b := itoa_len p.2 h2.1 h2.2
  simp [item]; omega

set_option maxRecDepth 100000 in
theorem pair_any (p : Int × Int) (h1 : fits64 p.1) (h2 : fits64 p.2) (w : World) (hG : Glob T er w) : Calls Tryz.prog 108 #[tv (32 :: item p)] w fun e w' => e = .returned (.tuple #[.int .i64 p.1, .int .i64 p.2]) ∧ Hid (Below w.heap.size w w') := by
  obtain ⟨m, hm⟩ := hG.maxLen
  have hc := Tryz.strings_Cut ⟨(item p).toArray⟩ ⟨#[58]⟩ m w (by rw [tv_size]; have := item_len p h1 h2; omega) hm
  rw [tv_data, show (⟨#[58]⟩ : ByteArray).data.toList = [58] from rfl, cut_item] at hc
  have Hc := Lib.hid hc
  have Ht1 := Lib.hid (fun w => told_itoa p.1 h1.1 h1.2 w)
  have Ht2 := Lib.hid (fun w => told_itoa p.2 h2.1 h2.2 w)
  have hcut : ∀ w, (Instr.slice 9 (tv (32 :: item p)) (some (.int .i64 1)) none none).run Tryz.prog w = .ok (tv (item p)) w := str_from (32 :: item p) 1 (by simp)
  generalize item p = it at *
  generalize Lib.itoa p.1 = x at *
  generalize Lib.itoa p.2 = y at *
  clear hm hc h1 h2 hG
  go_enter Tryz.func108, Tryz.ntmps108
  go_wp2_with (first
    | (go_at_call 124; refine Hc.out.mono ?_; rintro e w' ⟨rfl, q, rfl⟩; have H1 : Hid (Below w.heap.size w (w.drewN q)) := below_drewN (Below.refl _ _) q)
    | (go_at_call 106; first | (refine (Ht1.out _).mono ?_; rintro e w2 ⟨rfl, hb2⟩; clear Ht1; have H2 := Lib.hid (H1.out.trans (hb2.out.mono H1.out.size)); clear hb2) | (refine (Ht2.out _).mono ?_; rintro e w3 ⟨rfl, hb3⟩; clear Ht2; have H3 := Lib.hid (H2.out.trans (hb3.out.mono H2.out.size)); clear hb3)))
  go_ret2
  exact ⟨rfl, H3.out⟩
end Go.Proofs.YtcjfcomadcebnaaGreatDoor

/- Package spec: a map's text cut at a key, by a contract. -/
namespace Go.Proofs.YtcjfcomadcebnaaGreatDoor
open Go.RowKit Go.Maps Go.WideMaps Go.WideElems Go.ChangeShapes Go.WideShapes

variable {T : TypeId} {er : Nat → Addr}

/-- Keys and values that fit. -/
def KvFit (l : List (Int × Int)) : Prop := ∀ p ∈ l, fits64 p.1 ∧ fits64 p.2
/-- The text of the own item. -/
def ownT (k : Int) : Option Int → List UInt8
  | none => []
  | some v => 32 :: item (k, v)
/-- What split answers. -/
def splitV (k : Int) (l : List (Int × Int)) : Value := .tuple #[tv (mtext (spl k l).1), tv (ownT k (spl k l).2.1), tv (mtext (spl k l).2.2)]

theorem splitV_end {k : Int} {pre : List (Int × Int)} (h : ∀ p ∈ pre, p.1 < k) : splitV k (pre ++ []) = .tuple #[tv (mtext pre), tv [], tv []] := by
  unfold splitV
  rw [spl_pre k pre [] h]
  simp [spl, ownT, mtext]
theorem splitV_own {k v : Int} {pre t : List (Int × Int)} (h : ∀ p ∈ pre, p.1 < k) : splitV k (pre ++ (k, v) :: t) = .tuple #[tv (mtext pre), tv (32 :: item (k, v)), tv (mtext t)] := by
  unfold splitV
  rw [spl_pre k pre _ h]
  simp [spl, ownT]
theorem splitV_past {k a v : Int} {pre t : List (Int × Int)} (h : ∀ p ∈ pre, p.1 < k) (ha : k < a) : splitV k (pre ++ (a, v) :: t) = .tuple #[tv (mtext pre), tv [], tv (mtext ((a, v) :: t))] := by
  unfold splitV
  rw [spl_pre k pre _ h]
  have h1 : ¬ a < k := by omega
  have h2 : ¬ a = k := by omega
  simp [spl, ownT, h1, h2]

set_option maxRecDepth 100000 in
set_option maxHeartbeats 4000000 in
theorem split_any (l : List (Int × Int)) (hl : KvFit l) (hm : (mtext l).length ≤ 1000000000) (key : Int) (w : World) (hG : Glob T er w) : Calls Tryz.prog 107 #[tv (mtext l), .int .i64 key] w fun e w' => e = .returned (splitV key l) ∧ Hid (Below w.heap.size w w') := by
  have HG := Lib.hid hG
  have HL := Lib.hid hl
  obtain ⟨L, hL⟩ : ∃ L, L = mtext l := ⟨_, rfl⟩
  obtain ⟨R, hR⟩ : ∃ R, R = splitV key l := ⟨_, rfl⟩
  rw [← hL] at hm ⊢
  rw [← hR]
  have hsz := tv_size L
  have HLe := Lib.hid hL
  have HR := Lib.hid hR
  clear hG hl hL hR
  go_enter Tryz.func107, Tryz.ntmps107
  go_wp2
  go_loopw [7] (fun i wr => ∃ A : Nat, A ≤ L.length ∧ i = .int .i64 A ∧ Hid (Below w.heap.size w wr ∧ ∃ pre rest, l = pre ++ rest ∧ (∀ p ∈ pre, p.1 < key) ∧ A = (mtext pre).length)) (fun i _ => L.length - (intOf i).toNat)
  case atStart => exact ⟨0, Nat.zero_le _, rfl, Below.refl _ _, [], l, rfl, by simp, rfl⟩
  case round =>
    obtain ⟨A, hA, rfl, Hr⟩ := hrel
    obtain ⟨hb, pre, rest, hpr, hpre, hAe⟩ := Hr.out
    have hLs : L = mtext pre ++ mtext rest := by rw [HLe.out, hpr, mtext_app]
    have hto : L.take A = mtext pre := by rw [hLs, hAe]; simp
    have hfrom : L.drop A = mtext rest := by rw [hLs, hAe]; simp
    have Hb := Lib.hid hb
    cases rest with
    | nil =>
      have hAL : A = L.length := by rw [hLs, hAe]; simp [mtext]
      have HR' : Hid (R = .tuple #[tv L, tv [], tv []]) := by
        show _ = _
        rw [HR.out, hpr, splitV_end hpre, hLs]; simp [mtext]
      clear hb hpr hpre hAe hLs hto hfrom Hr HLe HR
      subst hAL
      go_wp2
      refine bodyPost_ret (results_tmp3 (fn := Tryz.f107) rfl _ _ _) rfl ?_
      exact ⟨congrArg _ HR'.out.symm, Hb.out⟩
    | cons p t =>
      obtain ⟨a, v⟩ := p
      have hfit := HL.out (a, v) (by rw [hpr]; simp)
      have hX : mtext ((a, v) :: t) = 32 :: (item (a, v) ++ mtext t) := rfl
      have hE : iendL (mtext ((a, v) :: t)) = (item (a, v)).length + 1 := by rw [hX]; exact iend_item (item_32 _) (mtext_shape t)
      have hlen : L.length = A + ((item (a, v)).length + 1) + (mtext t).length := by rw [hLs, hAe, hX]; simp; omega
      obtain ⟨E, hEe⟩ : ∃ E, E = (item (a, v)).length + 1 := ⟨_, rfl⟩
      rw [← hEe] at hE hlen
      have hmid : (L.drop A).take (A + E - A) = 32 :: item (a, v) := by rw [hfrom, hX, hEe, Nat.add_sub_cancel_left]; simp
      have hend : L.drop (A + E) = mtext t := by
        rw [← List.drop_drop, hfrom, hX, hEe]; simp
      have hs1 : ∀ w, (Instr.slice 9 (tv L) (some (.int .i64 (A : Int))) none none).run Tryz.prog w = .ok (tv (mtext ((a, v) :: t))) w := fun w => by rw [← hfrom]; exact str_from L A hA w
      have hs2 : ∀ w, (Instr.slice 9 (tv L) (some (.int .i64 (A : Int))) (some (.int .i64 ((A : Int) + (E : Int)))) none).run Tryz.prog w = .ok (tv (32 :: item (a, v))) w := fun w => by rw [← hmid]; exact str_mid L A (A + E) (by omega) (by omega) w
      have hs3 : ∀ w, (Instr.slice 9 (tv L) none (some (.int .i64 (A : Int))) none).run Tryz.prog w = .ok (tv (mtext pre)) w := fun w => by rw [← hto]; exact str_to L A hA w
      have hs4 : ∀ w, (Instr.slice 9 (tv L) (some (.int .i64 ((A : Int) + (E : Int)))) none none).run Tryz.prog w = .ok (tv (mtext t)) w := fun w => by rw [← hend]; exact str_from L (A + E) (by omega) w
      have Hie := Lib.hid (fun w => itemEnd_any (mtext ((a, v) :: t)) (by rw [hX]; simp) (by rw [← hfrom]; simp; omega) w)
      rw [hE] at Hie
      have Hpa := Lib.hid (fun W (h : Glob T er W) => pair_any (a, v) hfit.1 hfit.2 W h)
      have hlt : A < L.length := by omega
      have hAE : A + E ≤ L.length := by omega
      have hE1 : 1 ≤ E := by omega
      have Hown := Lib.hid (fun (e : a = key) => (by rw [HR.out, hpr, e]; exact splitV_own hpre : R = .tuple #[tv (mtext pre), tv (32 :: item (key, v)), tv (mtext t)]))
      have Hpast := Lib.hid (fun (e : key < a) => (by rw [HR.out, hpr]; exact splitV_past hpre e : R = .tuple #[tv (mtext pre), tv [], tv (mtext ((a, v) :: t))]))
      have Hgo : Hid (a < key → ∃ pre' rest', l = pre' ++ rest' ∧ (∀ p ∈ pre', p.1 < key) ∧ A + E = (mtext pre').length) := fun e => ⟨pre ++ [(a, v)], t, by rw [hpr]; simp, fun p hp => by
        rcases List.mem_append.1 hp with hp | hp
        · exact hpre p hp
        · simp at hp; subst hp; exact e, by rw [mtext_app, List.length_append, ← hAe, hEe]; simp [mtext]⟩
      generalize mtext ((a, v) :: t) = X at *
      generalize mtext t = Z at *
      generalize mtext pre = Y at *
      have HmE := Lib.hid hEe
      clear hb hpr hpre hAe hLs hto hfrom Hr HLe HR hfit hX hE hEe hmid hend hlen
      by_cases h1 : a = key
      · have HR' := Lib.hid (Hown.out h1)
        subst h1
        clear Hgo Hown Hpast
        generalize item (a, v) = it at *
        go_wp2_with (first
          | (go_at_call 105; refine (Hie.out _).mono ?_; rintro e w' ⟨rfl, rfl⟩)
          | (go_at_call 108; refine (Hpa.out _ (HG.out.below' Hb.out)).mono ?_; rintro e w2 ⟨rfl, hb2⟩; have H2 := Lib.hid (Hb.out.trans (hb2.out.mono Hb.out.size)); clear hb2))
        go_quiet (fail)
        go_wp2
        refine bodyPost_ret (results_tmp3 (fn := Tryz.f107) rfl _ _ _) rfl ?_
        exact ⟨congrArg _ HR'.out.symm, below_drewN H2.out _⟩
      by_cases h2 : key < a
      · have HR' := Lib.hid (Hpast.out h2)
        clear Hgo Hown Hpast
        generalize item (a, v) = it at *
        go_wp2_with (first
          | (go_at_call 105; refine (Hie.out _).mono ?_; rintro e w' ⟨rfl, rfl⟩)
          | (go_at_call 108; refine (Hpa.out _ (HG.out.below' Hb.out)).mono ?_; rintro e w2 ⟨rfl, hb2⟩; have H2 := Lib.hid (Hb.out.trans (hb2.out.mono Hb.out.size)); clear hb2))
        go_quiet (fail)
        go_wp2
        refine bodyPost_ret (results_tmp3 (fn := Tryz.f107) rfl _ _ _) rfl ?_
        exact ⟨congrArg _ HR'.out.symm, below_drewN H2.out _⟩
      · have HN := Lib.hid (Hgo.out (by omega))
        clear Hgo Hown Hpast
        generalize item (a, v) = it at *
        go_wp2_with (first
          | (go_at_call 105; refine (Hie.out _).mono ?_; rintro e w' ⟨rfl, rfl⟩)
          | (go_at_call 108; refine (Hpa.out _ (HG.out.below' Hb.out)).mono ?_; rintro e w2 ⟨rfl, hb2⟩; have H2 := Lib.hid (Hb.out.trans (hb2.out.mono Hb.out.size)); clear hb2))
        go_roundw
        case rel => exact ⟨A + E, hAE, by go_num, H2.out, HN.out⟩
        case measure => simp [intOf]; omega
end Go.Proofs.YtcjfcomadcebnaaGreatDoor

/- A state in memory; the operations of registers and counters, by contracts. -/
namespace Go.Proofs.YtcjfcomadcebnaaGreatDoor
open Go.RowKit Go.Maps Go.WideMaps Go.WideElems Go.ChangeShapes Go.WideShapes

section
variable {P : Program} {md : Region.Mode} {ops : Array Oper} {Q : Exit → Act → World → Prop} {S : World → Prop} {fuel : Nat} {listed : Array Bool} {a : Act} {w : World}
/-- An operation that is passed over. -/
theorem held_skip (i : Nat) (d : Option Tmp) {oi : Oper} (hi : ops[i]? = some oi) (hd : oi.dst = d) (hs : Region.noSelect ops = true) (hf : Region.free md ops listed i = true) (hr : (Region.ready md ops listed).contains i = true)
    (hQ : ∀ c a w, Q (.panic c) (a.put d undef) w → Q (.panic c) a w) (hw : Region.wanted oi (yielded ops a.tmps) = false) (hS : S w)
    (h : wpAnyH P md ops Q S fuel (listed.setIfInBounds i true) (a.put d undef) w) : wpAnyH P md ops Q S (fuel + 1) listed a w := by
  subst hd
  exact wpAnyH_take hi hs hf hr hQ (Or.inr ⟨hw, rfl⟩) hS h
/-- An operation that yields in every world that meets S. -/
theorem held_take (i : Nat) (d : Option Tmp) (v : Value) {oi : Oper} (hi : ops[i]? = some oi) (hd : oi.dst = d) (hs : Region.noSelect ops = true) (hf : Region.free md ops listed i = true) (hr : (Region.ready md ops listed).contains i = true)
    (hQ : ∀ c a w, Q (.panic c) (a.put d v) w → Q (.panic c) a w) (hw : Region.wanted oi (yielded ops a.tmps) = true) (hy : ∀ w, S w → (execOp a.eval oi).run P w = .ok (.value v) w) (hS : S w)
    (h : wpAnyH P md ops Q S fuel (listed.setIfInBounds i true) (a.put d v) w) : wpAnyH P md ops Q S (fuel + 1) listed a w := by
  subst hd
  exact wpAnyH_take hi hs hf hr hQ (Or.inl ⟨hw, hy⟩) hS h
end

variable {T : TypeId} {er : Nat → Addr}

/-- A state's value. -/
abbrev stv (k n : Int) (l : List UInt8) : Value := .agg #[.int .i64 k, .int .i64 n, tv l]
/-- A state lies in a block. -/
structure StAt (w : World) (B : Nat) (k n : Int) (l : List UInt8) : Prop where
  c0 : w.cell? ⟨B, 0, none⟩ = some (.int .i64 k)
  c1 : w.cell? ⟨B, 1, none⟩ = some (.int .i64 n)
  c2 : w.cell? ⟨B, 2, none⟩ = some (tv l)
  free : ∀ i, w.frozen? ⟨B, i, none⟩ = false
theorem StAt.lt {w : World} {B : Nat} {k n : Int} {l : List UInt8} (h : StAt w B k n l) : B < w.heap.size := World.block_lt_of_cell? w _ h.c0
theorem StAt.below {w w' : World} {B C : Nat} {k n : Int} {l : List UInt8} (h : StAt w B k n l) (hb : Below C w w') (hC : B < C) : StAt w' B k n l :=
  ⟨(hb.cell (p := ⟨B, 0, none⟩) hC).trans h.c0, (hb.cell (p := ⟨B, 1, none⟩) hC).trans h.c1, (hb.cell (p := ⟨B, 2, none⟩) hC).trans h.c2, fun i => (hb.frozen (p := ⟨B, i, none⟩) hC).trans (h.free i)⟩
theorem StAt.below' {w w' : World} {B : Nat} {k n : Int} {l : List UInt8} (h : StAt w B k n l) (hb : Below w.heap.size w w') : StAt w' B k n l := h.below hb h.lt
theorem StAt.drewN {w : World} {B : Nat} {k n : Int} {l : List UInt8} (h : StAt w B k n l) (q : Nat) : StAt (w.drewN q) B k n l := ⟨h.c0, h.c1, h.c2, h.free⟩
theorem StAt.drew {w : World} {B : Nat} {k n : Int} {l : List UInt8} (h : StAt w B k n l) : StAt w.drew B k n l := ⟨h.c0, h.c1, h.c2, h.free⟩
theorem stAt_new (w : World) (k n : Int) (l : List UInt8) : StAt (w.alloc (.cells #[.int .i64 k, .int .i64 n, tv l] 34)) w.heap.size k n l :=
  ⟨by rw [World.cell?_alloc_new]; rfl, by rw [World.cell?_alloc_new]; rfl, by rw [World.cell?_alloc_new]; rfl, fun i => World.frozen?_alloc_new ..⟩
/-- A state laid over another one. -/
def World.setSt (w : World) (Z : Nat) (k n : Int) (l : List UInt8) : World := ((w.setCell ⟨Z, 0, none⟩ (.int .i64 k)).setCell ⟨Z, 1, none⟩ (.int .i64 n)).setCell ⟨Z, 2, none⟩ (tv l)
theorem StAt.set {w : World} {Z : Nat} {k n k' n' : Int} {l l' : List UInt8} (h : StAt w Z k n l) : StAt (World.setSt w Z k' n' l') Z k' n' l' := by
  unfold World.setSt
  have o : ∀ (W : World) (i j : Nat) (v : Value), i ≠ j → (W.setCell ⟨Z, i, none⟩ v).cell? ⟨Z, j, none⟩ = W.cell? ⟨Z, j, none⟩ := fun W i j v hij => World.cell?_setCell_other _ _ _ _ (by intro h'; injection h' with _ h2; exact hij h2)
  have a0 : (w.setCell ⟨Z, 0, none⟩ (.int .i64 k')).cell? ⟨Z, 0, none⟩ = some (.int .i64 k') := World.cell?_setCell_same _ _ _ h.c0
  have a1 : ((w.setCell ⟨Z, 0, none⟩ (.int .i64 k')).setCell ⟨Z, 1, none⟩ (.int .i64 n')).cell? ⟨Z, 1, none⟩ = some (.int .i64 n') := World.cell?_setCell_same _ _ _ ((o _ 0 1 _ (by decide)).trans h.c1)
  have a2 := World.cell?_setCell_same ((w.setCell ⟨Z, 0, none⟩ (.int .i64 k')).setCell ⟨Z, 1, none⟩ (.int .i64 n')) ⟨Z, 2, none⟩ (tv l') ((o _ 1 2 _ (by decide)).trans ((o _ 0 2 _ (by decide)).trans h.c2))
  refine ⟨(o _ 2 0 _ (by decide)).trans ((o _ 1 0 _ (by decide)).trans a0), (o _ 2 1 _ (by decide)).trans a1, a2, fun i => ?_⟩
  exact (World.frozen?_setCell ..).trans ((World.frozen?_setCell ..).trans ((World.frozen?_setCell ..).trans (h.free i)))
theorem setSt_below {B : Nat} {a w : World} (h : Below B a w) {Z : Nat} (hZ : B ≤ Z) (k n : Int) (l : List UInt8) : Below B a (World.setSt w Z k n l) :=
  ((h.setCell (p := ⟨Z, 0, none⟩) hZ _).setCell (p := ⟨Z, 1, none⟩) hZ _).setCell (p := ⟨Z, 2, none⟩) hZ _
theorem setSt_far (w : World) (Z : Nat) (k n : Int) (l : List UInt8) (g i : Nat) (h : Z ≠ g) : (World.setSt w Z k n l).cell? ⟨g, i, none⟩ = w.cell? ⟨g, i, none⟩ := by
  unfold World.setSt
  have o : ∀ (W : World) (j : Nat) (v : Value), (W.setCell ⟨Z, j, none⟩ v).cell? ⟨g, i, none⟩ = W.cell? ⟨g, i, none⟩ := fun W j v => World.cell?_setCell_other _ _ _ _ (by intro h'; injection h' with h1; exact h h1)
  rw [o, o, o]
theorem load_st {W : World} {Z : Nat} {k n : Int} {l : List UInt8} (h : StAt W Z k n l) : (loadVar 34 ⟨Z, 0, none⟩).run Tryz.prog W = .ok (stv k n l) W := by
  obtain ⟨c0, c1, c2, _⟩ := h
  go_simp
theorem StAt.far {w : World} {Z : Nat} {k n : Int} {l : List UInt8} (h : StAt w Z k n l) {g i : Nat} (hg : g ≠ Z) (v : Value) : StAt (w.setCell ⟨g, i, none⟩ v) Z k n l := by
  have o : ∀ j, (w.setCell ⟨g, i, none⟩ v).cell? ⟨Z, j, none⟩ = w.cell? ⟨Z, j, none⟩ := fun j => World.cell?_setCell_other _ _ _ _ (by intro h'; injection h' with h1; exact hg h1)
  exact ⟨(o 0).trans h.c0, (o 1).trans h.c1, (o 2).trans h.c2, fun i => (World.frozen?_setCell ..).trans (h.free i)⟩
theorem below_drew {B : Nat} {a w : World} (h : Below B a w) : Below B a w.drew := ⟨h.os, h.tape, h.output, h.size, h.block⟩

/-- Texts put behind one another. -/
theorem cat_tv (x y : List UInt8) : (⟨x.toArray⟩ : ByteArray) ++ ⟨y.toArray⟩ = ⟨(x ++ y).toArray⟩ := by
  rw [← arr_of ((⟨x.toArray⟩ : ByteArray) ++ ⟨y.toArray⟩)]
  congr 2
theorem cat_run (x y : List UInt8) (h : x.length + y.length ≤ 9223372036854775807) (w : World) : (Go.binOp .add 9 (tv x) (tv y)).run Tryz.prog w = .ok (tv (x ++ y)) w := by
  have h1 : ¬ 9223372036854775807 < x.length + y.length := by omega
  have e := cat_tv x y
  go_simp

/-- What an operation's function answers. -/
def OpIs (f : FuncId) (k n : Int) (l : List UInt8) (key val : Int) (k' n' : Int) (l' : List UInt8) (r g : Int) (w : World) : Prop :=
  Calls Tryz.prog f #[stv k n l, .int .i64 key, .int .i64 val] w fun e w' => e = .returned (.tuple #[stv k' n' l', .int .i64 r, .int .i64 g]) ∧ Hid (Below w.heap.size w w')

/-- The boxes of an operation's function. -/
structure Boxes (w W : World) (k n : Int) (l : List UInt8) : Prop where
  below : Below w.heap.size w W
  box : StAt W w.heap.size k n l
  out : StAt W (w.heap.size + 1) 0 0 []
theorem boxes_new (w : World) (k n : Int) (l : List UInt8) : Boxes w ((w.alloc (.cells #[.int .i64 k, .int .i64 n, tv l] 34)).alloc (.cells #[.int .i64 0, .int .i64 0, .string ⟨#[]⟩] 34)) k n l := by
  have h1 : Below w.heap.size w (w.alloc (.cells #[.int .i64 k, .int .i64 n, tv l] 34)) := (Below.refl _ _).alloc (Nat.le_refl _) _
  have hs : (w.alloc (.cells #[.int .i64 k, .int .i64 n, tv l] 34)).heap.size = w.heap.size + 1 := Array.size_push ..
  have h2 : Below (w.alloc (.cells #[.int .i64 k, .int .i64 n, tv l] 34)).heap.size (w.alloc (.cells #[.int .i64 k, .int .i64 n, tv l] 34)) ((w.alloc (.cells #[.int .i64 k, .int .i64 n, tv l] 34)).alloc (.cells #[.int .i64 0, .int .i64 0, .string ⟨#[]⟩] 34)) := (Below.refl _ _).alloc (Nat.le_refl _) _
  refine ⟨h1.trans (h2.mono h1.size), (stAt_new w k n l).below' h2, ?_⟩
  have := stAt_new (w.alloc (.cells #[.int .i64 k, .int .i64 n, tv l] 34)) 0 0 []
  rw [hs] at this
  exact this
theorem res81 (tmps : Array Value) (W : World) (Z : Nat) (k n : Int) (l : List UInt8) (v7 v8 : Value) (h : StAt W Z k n l) (h2 : tmps.getD 6 undef = .pointer (some ⟨Z, 0, none⟩)) (h3 : tmps.getD 7 undef = v7) (h4 : tmps.getD 8 undef = v8) : (results Tryz.f81 tmps).run Tryz.prog W = .ok (.tuple #[stv k n l, v7, v8]) W := by
  have hl := load_st h
  clear h
  have h2' : tmps[6]?.getD undef = .pointer (some ⟨Z, 0, none⟩) := by simpa using h2
  have h3' : tmps[7]?.getD undef = v7 := by simpa using h3
  have h4' : tmps[8]?.getD undef = v8 := by simpa using h4
  simp [results, Tryz.results81, h2', h3', h4', asAddr, hl]
theorem res82 (tmps : Array Value) (W : World) (Z : Nat) (k n : Int) (l : List UInt8) (v7 v8 : Value) (h : StAt W Z k n l) (h2 : tmps.getD 6 undef = .pointer (some ⟨Z, 0, none⟩)) (h3 : tmps.getD 7 undef = v7) (h4 : tmps.getD 8 undef = v8) : (results Tryz.f82 tmps).run Tryz.prog W = .ok (.tuple #[stv k n l, v7, v8]) W := by
  have hl := load_st h
  clear h
  have h2' : tmps[6]?.getD undef = .pointer (some ⟨Z, 0, none⟩) := by simpa using h2
  have h3' : tmps[7]?.getD undef = v7 := by simpa using h3
  have h4' : tmps[8]?.getD undef = v8 := by simpa using h4
  simp [results, Tryz.results82, h2', h3', h4', asAddr, hl]
theorem res83 (tmps : Array Value) (W : World) (Z : Nat) (k n : Int) (l : List UInt8) (v7 v8 : Value) (h : StAt W Z k n l) (h2 : tmps.getD 6 undef = .pointer (some ⟨Z, 0, none⟩)) (h3 : tmps.getD 7 undef = v7) (h4 : tmps.getD 8 undef = v8) : (results Tryz.f83 tmps).run Tryz.prog W = .ok (.tuple #[stv k n l, v7, v8]) W := by
  have hl := load_st h
  clear h
  have h2' : tmps[6]?.getD undef = .pointer (some ⟨Z, 0, none⟩) := by simpa using h2
  have h3' : tmps[7]?.getD undef = v7 := by simpa using h3
  have h4' : tmps[8]?.getD undef = v8 := by simpa using h4
  simp [results, Tryz.results83, h2', h3', h4', asAddr, hl]
theorem res84 (tmps : Array Value) (W : World) (Z : Nat) (k n : Int) (l : List UInt8) (v7 v8 : Value) (h : StAt W Z k n l) (h2 : tmps.getD 6 undef = .pointer (some ⟨Z, 0, none⟩)) (h3 : tmps.getD 7 undef = v7) (h4 : tmps.getD 8 undef = v8) : (results Tryz.f84 tmps).run Tryz.prog W = .ok (.tuple #[stv k n l, v7, v8]) W := by
  have hl := load_st h
  clear h
  have h2' : tmps[6]?.getD undef = .pointer (some ⟨Z, 0, none⟩) := by simpa using h2
  have h3' : tmps[7]?.getD undef = v7 := by simpa using h3
  have h4' : tmps[8]?.getD undef = v8 := by simpa using h4
  simp [results, Tryz.results84, h2', h3', h4', asAddr, hl]
theorem res85 (tmps : Array Value) (W : World) (Z : Nat) (k n : Int) (l : List UInt8) (v7 v8 : Value) (h : StAt W Z k n l) (h2 : tmps.getD 6 undef = .pointer (some ⟨Z, 0, none⟩)) (h3 : tmps.getD 7 undef = v7) (h4 : tmps.getD 8 undef = v8) : (results Tryz.f85 tmps).run Tryz.prog W = .ok (.tuple #[stv k n l, v7, v8]) W := by
  have hl := load_st h
  clear h
  have h2' : tmps[6]?.getD undef = .pointer (some ⟨Z, 0, none⟩) := by simpa using h2
  have h3' : tmps[7]?.getD undef = v7 := by simpa using h3
  have h4' : tmps[8]?.getD undef = v8 := by simpa using h4
  simp [results, Tryz.results85, h2', h3', h4', asAddr, hl]
theorem res86 (tmps : Array Value) (W : World) (Z : Nat) (k n : Int) (l : List UInt8) (v7 v8 : Value) (h : StAt W Z k n l) (h2 : tmps.getD 6 undef = .pointer (some ⟨Z, 0, none⟩)) (h3 : tmps.getD 7 undef = v7) (h4 : tmps.getD 8 undef = v8) : (results Tryz.f86 tmps).run Tryz.prog W = .ok (.tuple #[stv k n l, v7, v8]) W := by
  have hl := load_st h
  clear h
  have h2' : tmps[6]?.getD undef = .pointer (some ⟨Z, 0, none⟩) := by simpa using h2
  have h3' : tmps[7]?.getD undef = v7 := by simpa using h3
  have h4' : tmps[8]?.getD undef = v8 := by simpa using h4
  simp [results, Tryz.results86, h2', h3', h4', asAddr, hl]
theorem res87 (tmps : Array Value) (W : World) (Z : Nat) (k n : Int) (l : List UInt8) (v7 v8 : Value) (h : StAt W Z k n l) (h2 : tmps.getD 6 undef = .pointer (some ⟨Z, 0, none⟩)) (h3 : tmps.getD 7 undef = v7) (h4 : tmps.getD 8 undef = v8) : (results Tryz.f87 tmps).run Tryz.prog W = .ok (.tuple #[stv k n l, v7, v8]) W := by
  have hl := load_st h
  clear h
  have h2' : tmps[6]?.getD undef = .pointer (some ⟨Z, 0, none⟩) := by simpa using h2
  have h3' : tmps[7]?.getD undef = v7 := by simpa using h3
  have h4' : tmps[8]?.getD undef = v8 := by simpa using h4
  simp [results, Tryz.results87, h2', h3', h4', asAddr, hl]
theorem res88 (tmps : Array Value) (W : World) (Z : Nat) (k n : Int) (l : List UInt8) (v7 v8 : Value) (h : StAt W Z k n l) (h2 : tmps.getD 6 undef = .pointer (some ⟨Z, 0, none⟩)) (h3 : tmps.getD 7 undef = v7) (h4 : tmps.getD 8 undef = v8) : (results Tryz.f88 tmps).run Tryz.prog W = .ok (.tuple #[stv k n l, v7, v8]) W := by
  have hl := load_st h
  clear h
  have h2' : tmps[6]?.getD undef = .pointer (some ⟨Z, 0, none⟩) := by simpa using h2
  have h3' : tmps[7]?.getD undef = v7 := by simpa using h3
  have h4' : tmps[8]?.getD undef = v8 := by simpa using h4
  simp [results, Tryz.results88, h2', h3', h4', asAddr, hl]


set_option maxRecDepth 100000 in
theorem number_op (k n : Int) (l : List UInt8) (key val : Int) (w : World) : OpIs 81 k n l key val k n l 3 n w := by
  have hB := boxes_new w k n l
  generalize hW : (w.alloc (.cells #[.int .i64 k, .int .i64 n, tv l] 34)).alloc (.cells #[.int .i64 0, .int .i64 0, .string ⟨#[]⟩] 34) = W at hB
  have HB := Lib.hid hB
  obtain ⟨c0, c1, c2, fr⟩ := hB.box
  obtain ⟨d0, d1, d2, fz⟩ := hB.out
  clear hB
  go_enter Tryz.func81, Tryz.ntmps81
  go_wp2
  clear hW
  refine wp_region_held_drew (S := (fun w' => w'.cell? ⟨w.heap.size, 0, none⟩ = some (.int .i64 k) ∧ w'.cell? ⟨w.heap.size, 1, none⟩ = some (.int .i64 n) ∧ w'.cell? ⟨w.heap.size, 2, none⟩ = some (tv l))) (by kernel_rfl) ⟨c0, c1, c2⟩ (fun hHeld => ?_)
  refine held_take 0 (some 9) ?_ rfl rfl (by kernel_rfl) (by kernel_rfl) (by kernel_rfl) (fun _ _ _ h => h) (by kernel_rfl) ?_ (by assumption) ?_
  rotate_left
  · intro w hSw; obtain ⟨s0, s1, s2⟩ := hSw; go_simp <;> (try with_reducible rfl)
  simp only [Act.put, List.setIfInBounds_toArray, List.set_cons_zero, List.set_cons_succ]
  refine held_take 1 (some 10) ?_ rfl rfl (by kernel_rfl) (by kernel_rfl) (by kernel_rfl) (fun _ _ _ h => h) (by kernel_rfl) ?_ (by assumption) ?_
  rotate_left
  · intro w hSw; obtain ⟨s0, s1, s2⟩ := hSw; go_simp <;> (try with_reducible rfl)
  simp only [Act.put, List.setIfInBounds_toArray, List.set_cons_zero, List.set_cons_succ]
  refine held_take 2 (some 11) ?_ rfl rfl (by kernel_rfl) (by kernel_rfl) (by kernel_rfl) (fun _ _ _ h => h) (by kernel_rfl) ?_ (by assumption) ?_
  rotate_left
  · intro w hSw; obtain ⟨s0, s1, s2⟩ := hSw; go_simp <;> (try with_reducible rfl)
  simp only [Act.put, List.setIfInBounds_toArray, List.set_cons_zero, List.set_cons_succ]
  refine wpAnyH_ready (rs := [3]) (by kernel_rfl) (by simp) (AllReadyH.cons rfl (fun K hK => ?_) AllReadyH.nil)
  go_simp
  refine hK.out _ _ ?_ (fun hHeld => ?_)
  · (try dsimp only); exact ⟨(World.cell?_drew ..).trans ((setSt_far W (w.heap.size + 1) k n l w.heap.size 0 (by omega)).trans c0), (World.cell?_drew ..).trans ((setSt_far W (w.heap.size + 1) k n l w.heap.size 1 (by omega)).trans c1), (World.cell?_drew ..).trans ((setSt_far W (w.heap.size + 1) k n l w.heap.size 2 (by omega)).trans c2)⟩
  clear hK K
  try simp only [Act.put, List.setIfInBounds_toArray, List.set_cons_zero, List.set_cons_succ]
  refine held_take 4 (some 7) ?_ rfl rfl (by kernel_rfl) (by kernel_rfl) (by kernel_rfl) (fun _ _ _ h => h) (by kernel_rfl) ?_ (by assumption) ?_
  rotate_left
  · intro w hSw; obtain ⟨s0, s1, s2⟩ := hSw; go_simp <;> (try with_reducible rfl)
  simp only [Act.put, List.setIfInBounds_toArray, List.set_cons_zero, List.set_cons_succ]
  refine held_take 5 (some 8) ?_ rfl rfl (by kernel_rfl) (by kernel_rfl) (by kernel_rfl) (fun _ _ _ h => h) (by kernel_rfl) ?_ (by assumption) ?_
  rotate_left
  · intro w hSw; obtain ⟨s0, s1, s2⟩ := hSw; go_simp <;> (try with_reducible rfl)
  simp only [Act.put, List.setIfInBounds_toArray, List.set_cons_zero, List.set_cons_succ]
  refine wpAnyH_done (by kernel_rfl) ?_ _
  go_wp2
  exact bodyPost_ret (res81 _ _ (w.heap.size + 1) k n l _ _ HB.out.out.set.drew rfl rfl rfl) rfl ⟨rfl, below_drew (setSt_below HB.out.below (by omega) _ _ _)⟩

set_option maxRecDepth 100000 in
theorem write_op (k n : Int) (l : List UInt8) (key val : Int) (w : World) : OpIs 82 k n l key val k val l 1 0 w := by
  have hB := boxes_new w k n l
  generalize hW : (w.alloc (.cells #[.int .i64 k, .int .i64 n, tv l] 34)).alloc (.cells #[.int .i64 0, .int .i64 0, .string ⟨#[]⟩] 34) = W at hB
  have HB := Lib.hid hB
  obtain ⟨c0, c1, c2, fr⟩ := hB.box
  obtain ⟨d0, d1, d2, fz⟩ := hB.out
  clear hB
  go_enter Tryz.func82, Tryz.ntmps82
  go_wp2
  exact bodyPost_ret (res82 _ _ (w.heap.size + 1) k val l _ _ (HB.out.out.far (by omega) _).set rfl rfl rfl) rfl ⟨rfl, setSt_below (HB.out.below.setCell (p := ⟨w.heap.size, 1, none⟩) (Nat.le_refl _) _) (by omega) _ _ _⟩

set_option maxRecDepth 100000 in
theorem add_op (k n : Int) (l : List UInt8) (key val : Int) (h0 : -9223372036854775808 ≤ n + val) (h1 : n + val ≤ 9223372036854775807) (w : World) : OpIs 83 k n l key val k (n + val) l 1 0 w := by
  have hB := boxes_new w k n l
  generalize hW : (w.alloc (.cells #[.int .i64 k, .int .i64 n, tv l] 34)).alloc (.cells #[.int .i64 0, .int .i64 0, .string ⟨#[]⟩] 34) = W at hB
  have HB := Lib.hid hB
  obtain ⟨c0, c1, c2, fr⟩ := hB.box
  obtain ⟨d0, d1, d2, fz⟩ := hB.out
  clear hB
  go_enter Tryz.func83, Tryz.ntmps83
  go_wp2
  exact bodyPost_ret (res83 _ _ (w.heap.size + 1) k (n + val) l _ _ (HB.out.out.far (by omega) _).set rfl rfl rfl) rfl ⟨rfl, setSt_below (HB.out.below.setCell (p := ⟨w.heap.size, 1, none⟩) (Nat.le_refl _) _) (by omega) _ _ _⟩

set_option maxRecDepth 100000 in
theorem enq_op (k n : Int) (l : List UInt8) (key val : Int) (hv : fits64 val) (w : World) (hG : Glob T er w) (hlen : l.length ≤ 1000000000) : OpIs 85 k n l key val k n (l ++ 32 :: Lib.itoa val) 1 0 w := by
  have Hp := Lib.hid (fun W (h : Glob T er W) => print_any val hv.1 hv.2 W h)
  have HG := Lib.hid hG
  clear hG
  have hB := boxes_new w k n l
  generalize hW : (w.alloc (.cells #[.int .i64 k, .int .i64 n, tv l] 34)).alloc (.cells #[.int .i64 0, .int .i64 0, .string ⟨#[]⟩] 34) = W at hB
  have HB := Lib.hid hB
  obtain ⟨c0, c1, c2, fr⟩ := hB.box
  obtain ⟨d0, d1, d2, fz⟩ := hB.out
  clear hB
  have HGW := Lib.hid (HG.out.below' HB.out.below)
  have hil := itoa_len val hv.1 hv.2
  have hcat : (⟨l.toArray⟩ : ByteArray) ++ (⟨#[32]⟩ ++ ⟨(Lib.itoa val).toArray⟩) = ⟨(l ++ 32 :: Lib.itoa val).toArray⟩ := by
    rw [show (⟨#[32]⟩ : ByteArray) = ⟨[32].toArray⟩ from rfl, cat_tv, cat_tv]; rfl
  generalize l ++ 32 :: Lib.itoa val = l2 at *
  generalize Lib.itoa val = l0 at *
  go_enter Tryz.func85, Tryz.ntmps85
  go_wp2
  clear hW
  go_region_with (first | (go_at_call 40; refine (Hp.out _ HGW.out.drew).mono ?_; rintro e w2 ⟨rfl, hb2⟩; have H2 : Hid (Boxes w w2 k n l) := ⟨(below_drew HB.out.below).trans (hb2.out.mono HB.out.below.size), HB.out.box.drew.below' hb2.out, HB.out.out.drew.below' hb2.out⟩; clear hb2 c0 c1 c2 fr d0 d1 d2 fz; obtain ⟨c0, c1, c2, fr⟩ := H2.out.box; obtain ⟨d0, d1, d2, fz⟩ := H2.out.out))
  all_goals
    try rw [hcat]
    go_wp2
    exact bodyPost_ret (res85 _ _ (w.heap.size + 1) k n l2 _ _ (H2.out.out.far (by omega) _).set rfl rfl rfl) rfl ⟨rfl, setSt_below (H2.out.below.setCell (p := ⟨w.heap.size, 2, none⟩) (Nat.le_refl _) _) (by omega) _ _ _⟩
end Go.Proofs.YtcjfcomadcebnaaGreatDoor

/- The operations of queues and maps, by contracts. -/
namespace Go.Proofs.YtcjfcomadcebnaaGreatDoor
open Go.RowKit Go.Maps Go.WideMaps Go.WideElems Go.ChangeShapes Go.WideShapes

variable {T : TypeId} {er : Nat → Addr}

set_option maxRecDepth 100000 in
theorem deq_none (k n : Int) (key val : Int) (w : World) (hG : Glob T er w) : OpIs 84 k n [] key val k n [] 2 0 w := by
  have HG := Lib.hid hG
  clear hG
  obtain ⟨L, hL⟩ : ∃ L : List UInt8, L = [] := ⟨_, rfl⟩
  have hLe : L.isEmpty = true := by rw [hL]; rfl
  have HL := Lib.hid hL
  rw [← hL]
  clear hL
  have hB := boxes_new w k n L
  generalize hW : (w.alloc (.cells #[.int .i64 k, .int .i64 n, tv L] 34)).alloc (.cells #[.int .i64 0, .int .i64 0, .string ⟨#[]⟩] 34) = W at hB
  have HB := Lib.hid hB
  obtain ⟨c0, c1, c2, fr⟩ := hB.box
  obtain ⟨d0, d1, d2, fz⟩ := hB.out
  clear hB
  have HGW := Lib.hid (HG.out.below' HB.out.below)
  go_enter Tryz.func84, Tryz.ntmps84
  go_wp2
  exact bodyPost_ret (res84 _ _ (w.heap.size + 1) k n L _ _ HB.out.out.set rfl rfl rfl) rfl ⟨rfl, setSt_below HB.out.below (by omega) _ _ _⟩

set_option maxRecDepth 100000 in
set_option maxHeartbeats 1000000 in
theorem deq_some (k n v : Int) (r : List UInt8) (hv : fits64 v) (hr : r = [] ∨ ∃ x, r = 32 :: x) (hlen : r.length ≤ 1000000000) (key val : Int) (w : World) (hG : Glob T er w) : OpIs 84 k n (32 :: (Lib.itoa v ++ r)) key val k n r 3 v w := by
  have HG := Lib.hid hG
  clear hG
  have hE := iend_item (itoa_32 v) hr
  have hil := itoa_len v hv.1 hv.2
  obtain ⟨L, hL⟩ : ∃ L : List UInt8, L = 32 :: (Lib.itoa v ++ r) := ⟨_, rfl⟩
  rw [← hL] at hE ⊢
  have hLl : L.length = (Lib.itoa v).length + 1 + r.length := by rw [hL]; simp; omega
  have hLe : L.isEmpty = false := by rw [hL]; rfl
  have hie := fun w => itemEnd_any L (by omega) (by omega) w
  rw [hE] at hie
  obtain ⟨E, hEe⟩ : ∃ E, E = (Lib.itoa v).length + 1 := ⟨_, rfl⟩
  have hm : (L.drop 1).take (E - 1) = Lib.itoa v := by rw [hL, hEe]; simp
  have hd : L.drop E = r := by rw [hL, hEe]; simp
  have hs1 : ∀ w, (Instr.slice 9 (tv L) (some (.int .i64 1)) (some (.int .i64 (E : Int))) none).run Tryz.prog w = .ok (tv (Lib.itoa v)) w := fun w => by rw [← hm]; exact str_mid L 1 E (by omega) (by omega) w
  have hs2 : ∀ w, (Instr.slice 9 (tv L) (some (.int .i64 (E : Int))) none none).run Tryz.prog w = .ok (tv r) w := fun w => by
    have := str_from L E (by omega) w
    rw [hd] at this; exact this
  rw [← hEe] at hie
  have hEl : E ≤ L.length := by omega
  have hE1 : 1 ≤ E := by omega
  have Hie := Lib.hid hie
  have Ht := Lib.hid (fun W => told_itoa v hv.1 hv.2 W)
  generalize Lib.itoa v = x at *
  have Hr := Lib.hid hr
  clear hie hE hm hd hL hr hEe
  have hB := boxes_new w k n L
  generalize hW : (w.alloc (.cells #[.int .i64 k, .int .i64 n, tv L] 34)).alloc (.cells #[.int .i64 0, .int .i64 0, .string ⟨#[]⟩] 34) = W at hB
  have HB := Lib.hid hB
  obtain ⟨c0, c1, c2, fr⟩ := hB.box
  obtain ⟨d0, d1, d2, fz⟩ := hB.out
  clear hB
  have HGW := Lib.hid (HG.out.below' HB.out.below)
  go_enter Tryz.func84, Tryz.ntmps84
  go_wp2_with (first
    | (go_at_call 105; refine (Hie.out _).mono ?_; rintro e w' ⟨rfl, rfl⟩)
    | (go_at_call 106; refine (Ht.out _).mono ?_; rintro e w2 ⟨rfl, hb2⟩; have H2 : Hid (Boxes w w2 k n L) := ⟨HB.out.below.trans (hb2.out.mono HB.out.below.size), HB.out.box.below' hb2.out, HB.out.out.below' hb2.out⟩; clear hb2 c0 c1 c2 fr d0 d1 d2 fz; obtain ⟨c0, c1, c2, fr⟩ := H2.out.box; obtain ⟨d0, d1, d2, fz⟩ := H2.out.out))
  exact bodyPost_ret (res84 _ _ (w.heap.size + 1) k n r _ _ (H2.out.out.far (by omega) _).set rfl rfl rfl) rfl ⟨rfl, setSt_below (H2.out.below.setCell (p := ⟨w.heap.size, 2, none⟩) (Nat.le_refl _) _) (by omega) _ _ _⟩

theorem put_text (key val : Int) (l : List (Int × Int)) : mtext (mput key val l) = mtext (spl key l).1 ++ (32 :: (Lib.itoa key ++ 58 :: (Lib.itoa val ++ mtext (spl key l).2.2))) := by
  rw [mput_spl, mtext_app]
  simp [mtext, item]
theorem spl_len (k : Int) : ∀ l : List (Int × Int), (mtext (spl k l).1).length + (mtext (spl k l).2.2).length ≤ (mtext l).length
  | [] => by simp [spl, mtext]
  | (a, v) :: t => by
    have := spl_len k t
    unfold spl
    split
    · simp [mtext]; omega
    · split
      · simp [mtext]; omega
      · simp [mtext]

set_option maxRecDepth 100000 in
set_option maxHeartbeats 1000000 in
theorem put_op (k n : Int) (l : List (Int × Int)) (hl : KvFit l) (hm : (mtext l).length ≤ 1000000000) (key val : Int) (hk : fits64 key) (hv : fits64 val) (w : World) (hG : Glob T er w) : OpIs 86 k n (mtext l) key val k n (mtext (mput key val l)) 1 0 w := by
  have HG := Lib.hid hG
  clear hG
  have Hs := Lib.hid (fun W (h : Glob T er W) => split_any l hl hm key W h)
  have Hp1 := Lib.hid (fun W (h : Glob T er W) => print_any key hk.1 hk.2 W h)
  have Hp2 := Lib.hid (fun W (h : Glob T er W) => print_any val hv.1 hv.2 W h)
  have hsl := spl_len key l
  have hi1 := itoa_len key hk.1 hk.2
  have hi2 := itoa_len val hv.1 hv.2
  have ht := put_text key val l
  unfold splitV at Hs
  generalize mtext (spl key l).1 = X at *
  generalize mtext (spl key l).2.2 = Z at *
  generalize ownT key (spl key l).2.1 = Y at *
  generalize mtext (mput key val l) = R at *
  obtain ⟨L, hL⟩ : ∃ L : List UInt8, L = mtext l := ⟨_, rfl⟩
  rw [← hL] at Hs hm hsl ⊢
  have hcat : ((((((⟨X.toArray⟩ : ByteArray) ++ ⟨#[32]⟩) ++ ⟨(Lib.itoa key).toArray⟩) ++ ⟨#[58]⟩) ++ ⟨(Lib.itoa val).toArray⟩) ++ ⟨Z.toArray⟩) = ⟨R.toArray⟩ := by
    rw [show (⟨#[32]⟩ : ByteArray) = ⟨[32].toArray⟩ from rfl, show (⟨#[58]⟩ : ByteArray) = ⟨[58].toArray⟩ from rfl, cat_tv, cat_tv, cat_tv, cat_tv, cat_tv, ht]
    simp
  generalize Lib.itoa key = x1 at *
  generalize Lib.itoa val = x2 at *
  clear hL ht hl
  have hB := boxes_new w k n L
  generalize hW : (w.alloc (.cells #[.int .i64 k, .int .i64 n, tv L] 34)).alloc (.cells #[.int .i64 0, .int .i64 0, .string ⟨#[]⟩] 34) = W at hB
  have HB := Lib.hid hB
  obtain ⟨c0, c1, c2, fr⟩ := hB.box
  obtain ⟨d0, d1, d2, fz⟩ := hB.out
  clear hB
  have HGW := Lib.hid (HG.out.below' HB.out.below)
  go_enter Tryz.func86, Tryz.ntmps86
  go_wp2_with (first
    | (go_at_call 107; refine (Hs.out _ HGW.out).mono ?_; rintro e w2 ⟨rfl, hb2⟩; have HG2 := Lib.hid (HGW.out.below' hb2.out); have H2 : Hid (Boxes w w2 k n L) := ⟨HB.out.below.trans (hb2.out.mono HB.out.below.size), HB.out.box.below' hb2.out, HB.out.out.below' hb2.out⟩; clear hb2 c0 c1 c2 fr d0 d1 d2 fz; obtain ⟨c0, c1, c2, fr⟩ := H2.out.box; obtain ⟨d0, d1, d2, fz⟩ := H2.out.out)
    | (go_at_call 40; first | (refine (Hp1.out _ HG2.out).mono ?_; rintro e w3 ⟨rfl, hb3⟩; clear Hp1; have HG3 := Lib.hid (HG2.out.below' hb3.out); have H3 : Hid (Boxes w w3 k n L) := ⟨H2.out.below.trans (hb3.out.mono H2.out.below.size), H2.out.box.below' hb3.out, H2.out.out.below' hb3.out⟩; clear hb3 c0 c1 c2 fr d0 d1 d2 fz; obtain ⟨c0, c1, c2, fr⟩ := H3.out.box; obtain ⟨d0, d1, d2, fz⟩ := H3.out.out) | (refine (Hp2.out _ HG3.out).mono ?_; rintro e w4 ⟨rfl, hb4⟩; clear Hp2; have H4 : Hid (Boxes w w4 k n L) := ⟨H3.out.below.trans (hb4.out.mono H3.out.below.size), H3.out.box.below' hb4.out, H3.out.out.below' hb4.out⟩; clear hb4 c0 c1 c2 fr d0 d1 d2 fz; obtain ⟨c0, c1, c2, fr⟩ := H4.out.box; obtain ⟨d0, d1, d2, fz⟩ := H4.out.out)))
  exact bodyPost_ret (res86 _ _ (w.heap.size + 1) k n R _ _ (H4.out.out.far (by omega) _).set rfl rfl rfl) rfl ⟨rfl, setSt_below (H4.out.below.setCell (p := ⟨w.heap.size, 2, none⟩) (Nat.le_refl _) _) (by omega) _ _ _⟩

/-- What look answers. -/
def lookR (key : Int) (l : List (Int × Int)) : Int × Int := match mget key l with | none => (2, 0) | some v => (3, v)
theorem mget_mem {k v : Int} : ∀ {l : List (Int × Int)}, mget k l = some v → (k, v) ∈ l
  | [], h => by cases h
  | (a, x) :: t, h => by
    unfold mget at h
    split at h
    · have := mget_mem h; simp [this]
    · split at h
      · rename_i h2; cases h; subst h2; simp
      · cases h

set_option maxRecDepth 100000 in
set_option maxHeartbeats 1000000 in
theorem look_op (k n : Int) (l : List (Int × Int)) (hl : KvFit l) (hm : (mtext l).length ≤ 1000000000) (key val : Int) (w : World) (hG : Glob T er w) : OpIs 87 k n (mtext l) key val k n (mtext l) (lookR key l).1 (lookR key l).2 w := by
  have HG := Lib.hid hG
  clear hG
  have Hs := Lib.hid (fun W (h : Glob T er W) => split_any l hl hm key W h)
  unfold splitV at Hs
  obtain ⟨L, hL⟩ : ∃ L : List UInt8, L = mtext l := ⟨_, rfl⟩
  rw [← hL] at Hs hm ⊢
  unfold lookR
  cases hg : mget key l with
  | none =>
    have ho : (spl key l).2.1 = none := by rw [← mget_spl]; exact hg
    rw [ho] at Hs
    generalize mtext (spl key l).1 = X at *
    generalize mtext (spl key l).2.2 = Z at *
    obtain ⟨Y, hY⟩ : ∃ Y : List UInt8, Y = ownT key none := ⟨_, rfl⟩
    rw [← hY] at Hs
    have hYe : Y.isEmpty = true := by rw [hY]; rfl
    clear hL hl hg ho hY
    show OpIs 87 k n L key val k n L 2 0 w
    have hB := boxes_new w k n L
    generalize hW : (w.alloc (.cells #[.int .i64 k, .int .i64 n, tv L] 34)).alloc (.cells #[.int .i64 0, .int .i64 0, .string ⟨#[]⟩] 34) = W at hB
    have HB := Lib.hid hB
    obtain ⟨c0, c1, c2, fr⟩ := hB.box
    obtain ⟨d0, d1, d2, fz⟩ := hB.out
    clear hB
    have HGW := Lib.hid (HG.out.below' HB.out.below)
    go_enter Tryz.func87, Tryz.ntmps87
    go_wp2_with (first
      | (go_at_call 107; refine (Hs.out _ HGW.out).mono ?_; rintro e w2 ⟨rfl, hb2⟩; have HG2 := Lib.hid (HGW.out.below' hb2.out); have H2 : Hid (Boxes w w2 k n L) := ⟨HB.out.below.trans (hb2.out.mono HB.out.below.size), HB.out.box.below' hb2.out, HB.out.out.below' hb2.out⟩; clear hb2 c0 c1 c2 fr d0 d1 d2 fz; obtain ⟨c0, c1, c2, fr⟩ := H2.out.box; obtain ⟨d0, d1, d2, fz⟩ := H2.out.out))
    exact bodyPost_ret (res87 _ _ (w.heap.size + 1) k n L _ _ H2.out.out.set rfl rfl rfl) rfl ⟨rfl, setSt_below H2.out.below (by omega) _ _ _⟩
  | some v =>
    have ho : (spl key l).2.1 = some v := by rw [← mget_spl]; exact hg
    rw [ho] at Hs
    generalize mtext (spl key l).1 = X at *
    generalize mtext (spl key l).2.2 = Z at *
    have hf := hl _ (mget_mem hg)
    have Hp := Lib.hid (fun W (h : Glob T er W) => pair_any (key, v) hf.1 hf.2 W h)
    obtain ⟨Y, hY⟩ : ∃ Y : List UInt8, Y = 32 :: item (key, v) := ⟨_, rfl⟩
    rw [← hY] at Hp
    rw [show ownT key (some v) = Y from hY.symm] at Hs
    have hYe : Y.isEmpty = false := by rw [hY]; rfl
    clear hL hl hg ho hY hf
    show OpIs 87 k n L key val k n L 3 v w
    have hB := boxes_new w k n L
    generalize hW : (w.alloc (.cells #[.int .i64 k, .int .i64 n, tv L] 34)).alloc (.cells #[.int .i64 0, .int .i64 0, .string ⟨#[]⟩] 34) = W at hB
    have HB := Lib.hid hB
    obtain ⟨c0, c1, c2, fr⟩ := hB.box
    obtain ⟨d0, d1, d2, fz⟩ := hB.out
    clear hB
    have HGW := Lib.hid (HG.out.below' HB.out.below)
    go_enter Tryz.func87, Tryz.ntmps87
    go_wp2_with (first
      | (go_at_call 107; refine (Hs.out _ HGW.out).mono ?_; rintro e w2 ⟨rfl, hb2⟩; have HG2 := Lib.hid (HGW.out.below' hb2.out); have H2 : Hid (Boxes w w2 k n L) := ⟨HB.out.below.trans (hb2.out.mono HB.out.below.size), HB.out.box.below' hb2.out, HB.out.out.below' hb2.out⟩; clear hb2 c0 c1 c2 fr d0 d1 d2 fz; obtain ⟨c0, c1, c2, fr⟩ := H2.out.box; obtain ⟨d0, d1, d2, fz⟩ := H2.out.out)
      | (go_at_call 108; refine (Hp.out _ HG2.out).mono ?_; rintro e w3 ⟨rfl, hb3⟩; have H3 : Hid (Boxes w w3 k n L) := ⟨H2.out.below.trans (hb3.out.mono H2.out.below.size), H2.out.box.below' hb3.out, H2.out.out.below' hb3.out⟩; clear hb3 c0 c1 c2 fr d0 d1 d2 fz; obtain ⟨c0, c1, c2, fr⟩ := H3.out.box; obtain ⟨d0, d1, d2, fz⟩ := H3.out.out))
    exact bodyPost_ret (res87 _ _ (w.heap.size + 1) k n L _ _ H3.out.out.set rfl rfl rfl) rfl ⟨rfl, setSt_below H3.out.below (by omega) _ _ _⟩

theorem del_text (key : Int) (l : List (Int × Int)) : mtext (mdel key l) = mtext (spl key l).1 ++ mtext (spl key l).2.2 := by rw [mdel_spl, mtext_app]

set_option maxRecDepth 100000 in
set_option maxHeartbeats 1000000 in
theorem del_op (k n : Int) (l : List (Int × Int)) (hl : KvFit l) (hm : (mtext l).length ≤ 1000000000) (key val : Int) (w : World) (hG : Glob T er w) : OpIs 88 k n (mtext l) key val k n (mtext (mdel key l)) (lookR key l).1 (lookR key l).2 w := by
  have HG := Lib.hid hG
  clear hG
  have Hs := Lib.hid (fun W (h : Glob T er W) => split_any l hl hm key W h)
  have Hl := Lib.hid (fun W (h : Glob T er W) => look_op k n l hl hm key 0 W h)
  have hsl := spl_len key l
  have ht := del_text key l
  unfold splitV at Hs
  unfold OpIs at Hl
  generalize mtext (spl key l).1 = X at *
  generalize mtext (spl key l).2.2 = Z at *
  generalize ownT key (spl key l).2.1 = Y at *
  generalize mtext (mdel key l) = R at *
  generalize (lookR key l).1 = r at *
  generalize (lookR key l).2 = g at *
  obtain ⟨L, hL⟩ : ∃ L : List UInt8, L = mtext l := ⟨_, rfl⟩
  rw [← hL] at Hs Hl hm hsl ⊢
  have hcat : (⟨X.toArray⟩ : ByteArray) ++ ⟨Z.toArray⟩ = ⟨R.toArray⟩ := by rw [cat_tv, ht]
  clear hL ht hl
  have hB := boxes_new w k n L
  generalize hW : (w.alloc (.cells #[.int .i64 k, .int .i64 n, tv L] 34)).alloc (.cells #[.int .i64 0, .int .i64 0, .string ⟨#[]⟩] 34) = W at hB
  have HB := Lib.hid hB
  obtain ⟨c0, c1, c2, fr⟩ := hB.box
  obtain ⟨d0, d1, d2, fz⟩ := hB.out
  clear hB
  have HGW := Lib.hid (HG.out.below' HB.out.below)
  go_enter Tryz.func88, Tryz.ntmps88
  go_wp2_with (first
    | (go_at_call 87; refine (Hl.out _ HGW.out).mono ?_; rintro e w2 ⟨rfl, hb2⟩; have HG2 := Lib.hid (HGW.out.below' hb2.out); have H2 : Hid (Boxes w w2 k n L) := ⟨HB.out.below.trans (hb2.out.mono HB.out.below.size), HB.out.box.below' hb2.out, HB.out.out.below' hb2.out⟩; clear hb2 c0 c1 c2 fr d0 d1 d2 fz; obtain ⟨c0, c1, c2, fr⟩ := H2.out.box; obtain ⟨d0, d1, d2, fz⟩ := H2.out.out; have hal : Hid (Below w2.heap.size w2 (w2.alloc (.cells #[.int .i64 k, .int .i64 n, tv L] 34))) := (Below.refl _ _).alloc (Nat.le_refl _) _; have HG2a := Lib.hid (HG2.out.below' hal.out); have H2a : Hid (Boxes w (w2.alloc (.cells #[.int .i64 k, .int .i64 n, tv L] 34)) k n L) := ⟨H2.out.below.trans (hal.out.mono H2.out.below.size), H2.out.box.below' hal.out, H2.out.out.below' hal.out⟩; clear c0 c1 c2 fr d0 d1 d2 fz; obtain ⟨c0, c1, c2, fr⟩ := H2a.out.box; obtain ⟨d0, d1, d2, fz⟩ := H2a.out.out)
    | (go_at_call 107; refine (Hs.out _ HG2a.out).mono ?_; rintro e w3 ⟨rfl, hb3⟩; have H3 : Hid (Boxes w w3 k n L) := ⟨H2a.out.below.trans (hb3.out.mono H2a.out.below.size), H2a.out.box.below' hb3.out, H2a.out.out.below' hb3.out⟩; clear hb3 c0 c1 c2 fr d0 d1 d2 fz; obtain ⟨c0, c1, c2, fr⟩ := H3.out.box; obtain ⟨d0, d1, d2, fz⟩ := H3.out.out))
  exact bodyPost_ret (res88 _ _ (w.heap.size + 1) k n R _ _ (H3.out.out.far (by omega) _).set rfl rfl rfl) rfl ⟨rfl, setSt_below (H3.out.below.setCell (p := ⟨w.heap.size, 2, none⟩) (Nat.le_refl _) _) (by omega) _ _ _⟩
end Go.Proofs.YtcjfcomadcebnaaGreatDoor

/- The operations of a kind; Do, by a contract. -/
namespace Go.Proofs.YtcjfcomadcebnaaGreatDoor
open Go.RowKit Go.Maps Go.WideMaps Go.WideElems Go.ChangeShapes Go.WideShapes

variable {T : TypeId} {er : Nat → Addr}

theorem under119 : Tryz.prog.underlying 119 = some (.map 3 117) := by kernel_rfl
theorem under3i : Tryz.prog.underlying 3 = some (.int .i64) := by kernel_rfl
theorem check_int (w : World) (b : Bool) (k : Int) : (Instr.checkKey b 10000 3 (.int .i64 k)).run Tryz.prog w = .ok () w := by
  show (Instr.checkKey b (9999 + 1) 3 (.int .i64 k)).run Tryz.prog w = _
  unfold Instr.checkKey
  simp [run_underlying under3i]
theorem find_int (w : World) (es : List MapEntry) (k : Int) (r : Option (Nat × Value)) (h : Instr.findNow (.int .i64) (.int .i64 k) es 0 = some r) : (Instr.findKey 3 (.int .i64 k) es).run Tryz.prog w = .ok r w := by
  unfold Instr.findKey
  simp [run_underlying under3i, h]
/-- A key is laid into a map of whole numbers that has just been made. -/
theorem insert_new (w : World) (es : Array MapEntry) (c : Nat) (k : Int) (v : Value) (h : Instr.findNow (.int .i64) (.int .i64 k) es.toList 0 = some none) :
    (Instr.mapUpdate 119 (.map (some w.heap.size)) (.int .i64 k) v).run Tryz.prog (w.alloc (.map es c)) = .ok () (w.alloc (.map (es.push ⟨.int .i64 k, v, c⟩) (c + 1))) := by
  have hb : (w.alloc (.map es c)).heap[w.heap.size]? = some (.map es c) := Array.getElem?_push_size
  simp [Instr.mapUpdate, run_underlying under119, MapKept.run_getObj_map hb, check_int, find_int _ _ _ _ h, MapKept.run_setObj_map _ hb, Result.andThen]
  simp only [World.alloc, Array.setIfInBounds_def]
  rw [dif_pos (by simp)]
  congr 1
  apply Array.ext'
  simp
theorem lookup_is (W : World) (b : Nat) (es : Array MapEntry) (c : Nat) (k : Int) (i : Nat) (v : Value) (hb : W.heap[b]? = some (.map es c)) (h : Instr.findNow (.int .i64) (.int .i64 k) es.toList 0 = some (some (i, v))) :
    (Instr.lookup 119 (.map (some b)) (.int .i64 k) true).run Tryz.prog W = .ok (.tuple #[v, .bool true]) W := by
  simp [Instr.lookup, run_underlying under119, MapKept.run_getObj_map hb, check_int, find_int _ _ _ _ h, Result.andThen]
theorem lookup_no (W : World) (b : Nat) (es : Array MapEntry) (c : Nat) (k : Int) (hb : W.heap[b]? = some (.map es c)) (h : Instr.findNow (.int .i64) (.int .i64 k) es.toList 0 = some none) :
    (Instr.lookup 119 (.map (some b)) (.int .i64 k) true).run Tryz.prog W = .ok (.tuple #[.nilFunc, .bool false]) W := by
  have hz : ∀ w : World, (zeroValue 117).run Tryz.prog w = .ok .nilFunc w := fun w => by kernel_rfl
  simp [Instr.lookup, run_underlying under119, MapKept.run_getObj_map hb, check_int, find_int _ _ _ _ h, hz, Result.andThen]

/-- A function that stands in a map's entry. -/
abbrev fv (g : Nat) : Value := .func (.func g) #[] #[]
/-- The function of an operation. -/
def opFn (kind op : Int) : Option Nat :=
  if kind = 1 then (if op = 1 then some 81 else if op = 2 then some 82 else none)
  else if kind = 2 then (if op = 4 then some 81 else if op = 3 then some 83 else none)
  else if kind = 3 then (if op = 6 then some 84 else if op = 5 then some 85 else none)
  else if kind = 4 then (if op = 7 then some 86 else if op = 8 then some 87 else if op = 9 then some 88 else none)
  else none
def lookV : Option Nat → Value
  | some g => .tuple #[fv g, .bool true]
  | none => .tuple #[.nilFunc, .bool false]
/-- The entries of a kind. -/
def kes (kind : Int) : Array MapEntry :=
  if kind = 1 then #[⟨.int .i64 1, fv 81, 0⟩, ⟨.int .i64 2, fv 82, 1⟩]
  else if kind = 2 then #[⟨.int .i64 4, fv 81, 0⟩, ⟨.int .i64 3, fv 83, 1⟩]
  else if kind = 3 then #[⟨.int .i64 6, fv 84, 0⟩, ⟨.int .i64 5, fv 85, 1⟩]
  else #[⟨.int .i64 7, fv 86, 0⟩, ⟨.int .i64 8, fv 87, 1⟩, ⟨.int .i64 9, fv 88, 2⟩]
/-- What a call of operations gives. -/
def OpsIs (kind : Int) (w : World) (e : Ending) (w' : World) : Prop := ∃ b, e = .returned (.map (some b)) ∧ Hid (Below w.heap.size w w' ∧ ∃ c, w'.heap[b]? = some (.map (kes kind) c))

set_option maxRecDepth 100000 in
theorem ops_1 (w : World) : Calls Tryz.prog 64 #[.int .i64 1] w (OpsIs 1 w) := by
  have I0 : ∀ w : World, (Instr.mapUpdate 119 (.map (some w.heap.size)) (.int .i64 1) (fv 81)).run Tryz.prog (w.alloc (.map #[] 0)) = .ok () (w.alloc (.map #[⟨.int .i64 1, fv 81, 0⟩] 1)) := fun w => insert_new w #[] 0 1 (fv 81) rfl
  have I1 : ∀ w : World, (Instr.mapUpdate 119 (.map (some w.heap.size)) (.int .i64 2) (fv 82)).run Tryz.prog (w.alloc (.map #[⟨.int .i64 1, fv 81, 0⟩] 1)) = .ok () (w.alloc (.map #[⟨.int .i64 1, fv 81, 0⟩, ⟨.int .i64 2, fv 82, 1⟩] 2)) := fun w => insert_new w #[⟨.int .i64 1, fv 81, 0⟩] 1 2 (fv 82) rfl
  have hmm := @run_makeMap Tryz.prog
  go_enter Tryz.func64, Tryz.ntmps64
  go_wp2
  go_ret
  exact ⟨_, rfl, (Below.refl _ _).alloc (Nat.le_refl _) _, _, Array.getElem?_push_size⟩
theorem ops_2 (w : World) : Calls Tryz.prog 64 #[.int .i64 2] w (OpsIs 2 w) := by
  have I0 : ∀ w : World, (Instr.mapUpdate 119 (.map (some w.heap.size)) (.int .i64 4) (fv 81)).run Tryz.prog (w.alloc (.map #[] 0)) = .ok () (w.alloc (.map #[⟨.int .i64 4, fv 81, 0⟩] 1)) := fun w => insert_new w #[] 0 4 (fv 81) rfl
  have I1 : ∀ w : World, (Instr.mapUpdate 119 (.map (some w.heap.size)) (.int .i64 3) (fv 83)).run Tryz.prog (w.alloc (.map #[⟨.int .i64 4, fv 81, 0⟩] 1)) = .ok () (w.alloc (.map #[⟨.int .i64 4, fv 81, 0⟩, ⟨.int .i64 3, fv 83, 1⟩] 2)) := fun w => insert_new w #[⟨.int .i64 4, fv 81, 0⟩] 1 3 (fv 83) rfl
  have hmm := @run_makeMap Tryz.prog
  go_enter Tryz.func64, Tryz.ntmps64
  go_wp2
  go_ret
  exact ⟨_, rfl, (Below.refl _ _).alloc (Nat.le_refl _) _, _, Array.getElem?_push_size⟩
set_option maxRecDepth 100000 in
theorem ops_3 (w : World) : Calls Tryz.prog 64 #[.int .i64 3] w (OpsIs 3 w) := by
  have I0 : ∀ w : World, (Instr.mapUpdate 119 (.map (some w.heap.size)) (.int .i64 6) (fv 84)).run Tryz.prog (w.alloc (.map #[] 0)) = .ok () (w.alloc (.map #[⟨.int .i64 6, fv 84, 0⟩] 1)) := fun w => insert_new w #[] 0 6 (fv 84) rfl
  have I1 : ∀ w : World, (Instr.mapUpdate 119 (.map (some w.heap.size)) (.int .i64 5) (fv 85)).run Tryz.prog (w.alloc (.map #[⟨.int .i64 6, fv 84, 0⟩] 1)) = .ok () (w.alloc (.map #[⟨.int .i64 6, fv 84, 0⟩, ⟨.int .i64 5, fv 85, 1⟩] 2)) := fun w => insert_new w #[⟨.int .i64 6, fv 84, 0⟩] 1 5 (fv 85) rfl
  have hmm := @run_makeMap Tryz.prog
  go_enter Tryz.func64, Tryz.ntmps64
  go_wp2
  go_ret
  exact ⟨_, rfl, (Below.refl _ _).alloc (Nat.le_refl _) _, _, Array.getElem?_push_size⟩
theorem ops_4 (w : World) : Calls Tryz.prog 64 #[.int .i64 4] w (OpsIs 4 w) := by
  have I0 : ∀ w : World, (Instr.mapUpdate 119 (.map (some w.heap.size)) (.int .i64 7) (fv 86)).run Tryz.prog (w.alloc (.map #[] 0)) = .ok () (w.alloc (.map #[⟨.int .i64 7, fv 86, 0⟩] 1)) := fun w => insert_new w #[] 0 7 (fv 86) rfl
  have I1 : ∀ w : World, (Instr.mapUpdate 119 (.map (some w.heap.size)) (.int .i64 8) (fv 87)).run Tryz.prog (w.alloc (.map #[⟨.int .i64 7, fv 86, 0⟩] 1)) = .ok () (w.alloc (.map #[⟨.int .i64 7, fv 86, 0⟩, ⟨.int .i64 8, fv 87, 1⟩] 2)) := fun w => insert_new w #[⟨.int .i64 7, fv 86, 0⟩] 1 8 (fv 87) rfl
  have I2 : ∀ w : World, (Instr.mapUpdate 119 (.map (some w.heap.size)) (.int .i64 9) (fv 88)).run Tryz.prog (w.alloc (.map #[⟨.int .i64 7, fv 86, 0⟩, ⟨.int .i64 8, fv 87, 1⟩] 2)) = .ok () (w.alloc (.map #[⟨.int .i64 7, fv 86, 0⟩, ⟨.int .i64 8, fv 87, 1⟩, ⟨.int .i64 9, fv 88, 2⟩] 3)) := fun w => insert_new w #[⟨.int .i64 7, fv 86, 0⟩, ⟨.int .i64 8, fv 87, 1⟩] 2 9 (fv 88) rfl
  have hmm := @run_makeMap Tryz.prog
  go_enter Tryz.func64, Tryz.ntmps64
  go_wp2
  go_ret
  exact ⟨_, rfl, (Below.refl _ _).alloc (Nat.le_refl _) _, _, Array.getElem?_push_size⟩
theorem ops_any (kind : Int) (h : 1 ≤ kind ∧ kind ≤ 4) (w : World) : Calls Tryz.prog 64 #[.int .i64 kind] w (OpsIs kind w) := by
  have : kind = 1 ∨ kind = 2 ∨ kind = 3 ∨ kind = 4 := by omega
  rcases this with rfl | rfl | rfl | rfl
  · exact ops_1 w
  · exact ops_2 w
  · exact ops_3 w
  · exact ops_4 w

theorem look_kes (kind op : Int) (h : 1 ≤ kind ∧ kind ≤ 4) (W : World) (b c : Nat) (hb : W.heap[b]? = some (.map (kes kind) c)) : (Instr.lookup 119 (.map (some b)) (.int .i64 op) true).run Tryz.prog W = .ok (lookV (opFn kind op)) W := by
  have hk : kind = 1 ∨ kind = 2 ∨ kind = 3 ∨ kind = 4 := by omega
  have ne : ∀ {a b : Int}, a ≠ b → (a == b) = false := fun h => by simpa using h
  rcases hk with rfl | rfl | rfl | rfl
  · by_cases h0 : op = 1
    · subst h0; exact lookup_is W b _ c 1 0 (fv 81) hb rfl
    by_cases h1 : op = 2
    · subst h1; exact lookup_is W b _ c 2 1 (fv 82) hb rfl
    have e : opFn 1 op = none := by simp [opFn, h0, h1]
    rw [e]
    exact lookup_no W b _ c op hb (by simp [kes, Instr.findNow, Instr.sameNow, ne h0, ne h1])
  · by_cases h0 : op = 4
    · subst h0; exact lookup_is W b _ c 4 0 (fv 81) hb rfl
    by_cases h1 : op = 3
    · subst h1; exact lookup_is W b _ c 3 1 (fv 83) hb rfl
    have e : opFn 2 op = none := by simp [opFn, h0, h1]
    rw [e]
    exact lookup_no W b _ c op hb (by simp [kes, Instr.findNow, Instr.sameNow, ne h0, ne h1])
  · by_cases h0 : op = 6
    · subst h0; exact lookup_is W b _ c 6 0 (fv 84) hb rfl
    by_cases h1 : op = 5
    · subst h1; exact lookup_is W b _ c 5 1 (fv 85) hb rfl
    have e : opFn 3 op = none := by simp [opFn, h0, h1]
    rw [e]
    exact lookup_no W b _ c op hb (by simp [kes, Instr.findNow, Instr.sameNow, ne h0, ne h1])
  · by_cases h0 : op = 7
    · subst h0; exact lookup_is W b _ c 7 0 (fv 86) hb rfl
    by_cases h1 : op = 8
    · subst h1; exact lookup_is W b _ c 8 1 (fv 87) hb rfl
    by_cases h2 : op = 9
    · subst h2; exact lookup_is W b _ c 9 2 (fv 88) hb rfl
    have e : opFn 4 op = none := by simp [opFn, h0, h1, h2]
    rw [e]
    exact lookup_no W b _ c op hb (by simp [kes, Instr.findNow, Instr.sameNow, ne h0, ne h1, ne h2])

theorem res49 (tmps : Array Value) (W : World) (Z : Nat) (k n : Int) (l : List UInt8) (v9 v10 v11 : Value) (h : StAt W Z k n l) (h2 : tmps.getD 8 undef = .pointer (some ⟨Z, 0, none⟩)) (h3 : tmps.getD 9 undef = v9) (h4 : tmps.getD 10 undef = v10) (h5 : tmps.getD 11 undef = v11) : (results Tryz.f49 tmps).run Tryz.prog W = .ok (.tuple #[stv k n l, v9, v10, v11]) W := by
  have hl := load_st h
  clear h
  have h2' : tmps[8]?.getD undef = .pointer (some ⟨Z, 0, none⟩) := by simpa using h2
  have h3' : tmps[9]?.getD undef = v9 := by simpa using h3
  have h4' : tmps[10]?.getD undef = v10 := by simpa using h4
  have h5' : tmps[11]?.getD undef = v11 := by simpa using h5
  simp [results, Tryz.results49, h2', h3', h4', h5', asAddr, hl]
/-- An error. -/
abbrev errE (T : TypeId) (er : Nat → Addr) (n : Nat) : Value := .iface T (.pointer (some (er n)))
/-- What Do answers. -/
def DoIs (k n : Int) (L : List UInt8) (op key val : Int) (v : Value) (w : World) : Prop :=
  Calls Tryz.prog 49 #[stv k n L, .int .i64 op, .int .i64 key, .int .i64 val] w fun e w' => e = .returned v ∧ Hid (Below w.heap.size w w')

set_option maxRecDepth 100000 in
set_option maxHeartbeats 1000000 in
theorem do_noop (k n : Int) (hk : 1 ≤ k ∧ k ≤ 4) (L : List UInt8) (op key val : Int) (hop : opFn k op = none) (w : World) (hG : Glob T er w) : DoIs k n L op key val (.tuple #[stv 0 0 [], .int .i64 0, .int .i64 0, errE T er 0]) w := by
  have HG := Lib.hid hG
  clear hG
  have Ho := Lib.hid (fun W => ops_any k hk W)
  have Hlk := Lib.hid (fun W b c (hb : W.heap[b]? = some (.map (kes k) c)) => look_kes k op hk W b c hb)
  rw [hop] at Hlk
  clear hop hk
  have hB := boxes_new w k n L
  generalize hW : (w.alloc (.cells #[.int .i64 k, .int .i64 n, tv L] 34)).alloc (.cells #[.int .i64 0, .int .i64 0, .string ⟨#[]⟩] 34) = W at hB
  have HB := Lib.hid hB
  obtain ⟨c0, c1, c2, fr⟩ := hB.box
  obtain ⟨d0, d1, d2, fz⟩ := hB.out
  clear hB
  have HGW := Lib.hid (HG.out.below' HB.out.below)
  go_enter Tryz.func49, Tryz.ntmps49
  go_wp2_with (first
    | (go_at_call 64; refine (Ho.out _).mono ?_; rintro e w1 ⟨b, rfl, hb1⟩; have H2 : Hid (Boxes w w1 k n L) := ⟨HB.out.below.trans (hb1.out.1.mono HB.out.below.size), HB.out.box.below' hb1.out.1, HB.out.out.below' hb1.out.1⟩; obtain ⟨cc, hcc⟩ := hb1.out.2; have hl := Hlk.out w1 b cc hcc; simp only [lookV] at hl; have e0 := (HGW.out.below' hb1.out.1).eOp; clear hb1 hcc c0 c1 c2 fr d0 d1 d2 fz; obtain ⟨c0, c1, c2, fr⟩ := H2.out.box; obtain ⟨d0, d1, d2, fz⟩ := H2.out.out))
  refine wp_region_held_drew (S := (fun w' => w'.cell? ⟨2, 0, none⟩ = some (.iface T (.pointer (some (er 0)))))) (by kernel_rfl) e0 (fun hHeld => ?_)
  refine held_take 0 (some 27) ?_ rfl rfl (by kernel_rfl) (by kernel_rfl) (by kernel_rfl) (fun _ _ _ h => h) (by kernel_rfl) ?_ (by assumption) ?_
  rotate_left
  · intro w hSw; (try dsimp only at hSw); go_simp <;> (try with_reducible rfl)
  simp only [Act.put, List.setIfInBounds_toArray, List.set_cons_zero, List.set_cons_succ]
  refine held_take 1 (some 28) ?_ rfl rfl (by kernel_rfl) (by kernel_rfl) (by kernel_rfl) (fun _ _ _ h => h) (by kernel_rfl) ?_ (by assumption) ?_
  rotate_left
  · intro w hSw; (try dsimp only at hSw); go_simp <;> (try with_reducible rfl)
  simp only [Act.put, List.setIfInBounds_toArray, List.set_cons_zero, List.set_cons_succ]
  refine wpAnyH_ready (rs := [2]) (by kernel_rfl) (by simp) (AllReadyH.cons rfl (fun K hK => ?_) AllReadyH.nil)
  go_simp
  refine hK.out _ _ ?_ (fun hHeld => ?_)
  · (try dsimp only); exact (World.cell?_drew ..).trans ((setSt_far w1 (w.heap.size + 1) 0 0 [] 2 0 (by have := HG.out.size; omega)).trans e0)
  clear hK K
  try simp only [Act.put, List.setIfInBounds_toArray, List.set_cons_zero, List.set_cons_succ]
  refine held_take 3 (some 9) ?_ rfl rfl (by kernel_rfl) (by kernel_rfl) (by kernel_rfl) (fun _ _ _ h => h) (by kernel_rfl) ?_ (by assumption) ?_
  rotate_left
  · intro w hSw; (try dsimp only at hSw); go_simp <;> (try with_reducible rfl)
  simp only [Act.put, List.setIfInBounds_toArray, List.set_cons_zero, List.set_cons_succ]
  refine held_take 4 (some 10) ?_ rfl rfl (by kernel_rfl) (by kernel_rfl) (by kernel_rfl) (fun _ _ _ h => h) (by kernel_rfl) ?_ (by assumption) ?_
  rotate_left
  · intro w hSw; (try dsimp only at hSw); go_simp <;> (try with_reducible rfl)
  simp only [Act.put, List.setIfInBounds_toArray, List.set_cons_zero, List.set_cons_succ]
  refine held_take 5 (some 11) ?_ rfl rfl (by kernel_rfl) (by kernel_rfl) (by kernel_rfl) (fun _ _ _ h => h) (by kernel_rfl) ?_ (by assumption) ?_
  rotate_left
  · intro w hSw; (try dsimp only at hSw); go_simp <;> (try with_reducible rfl)
  simp only [Act.put, List.setIfInBounds_toArray, List.set_cons_zero, List.set_cons_succ]
  refine wpAnyH_done (by kernel_rfl) ?_ _
  go_wp2
  exact bodyPost_ret (res49 _ _ (w.heap.size + 1) 0 0 [] _ _ _ H2.out.out.set.drew rfl rfl rfl rfl) rfl ⟨rfl, below_drew (setSt_below H2.out.below (by omega) _ _ _)⟩
end Go.Proofs.YtcjfcomadcebnaaGreatDoor

/- Do, where a call is none, or goes through, by contracts. -/
namespace Go.Proofs.YtcjfcomadcebnaaGreatDoor
open Go.RowKit Go.Maps Go.WideMaps Go.WideElems Go.ChangeShapes Go.WideShapes

variable {T : TypeId} {er : Nat → Addr}

set_option maxRecDepth 100000 in
set_option maxHeartbeats 1000000 in
theorem do_unfit (k n : Int) (hk : 1 ≤ k ∧ k ≤ 4) (L : List UInt8) (op key val : Int) (g : Nat) (hop : opFn k op = some g) (hf : fitsB op key val = false) (w : World) (hG : Glob T er w) : DoIs k n L op key val (.tuple #[stv 0 0 [], .int .i64 0, .int .i64 0, errE T er 2]) w := by
  have HG := Lib.hid hG
  clear hG
  have Ho := Lib.hid (fun W => ops_any k hk W)
  have Hlk := Lib.hid (fun W b c (hb : W.heap[b]? = some (.map (kes k) c)) => look_kes k op hk W b c hb)
  rw [hop] at Hlk
  have Hff := Lib.hid (fun W => fieldsFit_any op key val W)
  rw [hf] at Hff
  clear hop hk hf
  have hB := boxes_new w k n L
  generalize hW : (w.alloc (.cells #[.int .i64 k, .int .i64 n, tv L] 34)).alloc (.cells #[.int .i64 0, .int .i64 0, .string ⟨#[]⟩] 34) = W at hB
  have HB := Lib.hid hB
  obtain ⟨c0, c1, c2, fr⟩ := hB.box
  obtain ⟨d0, d1, d2, fz⟩ := hB.out
  clear hB
  have HGW := Lib.hid (HG.out.below' HB.out.below)
  go_enter Tryz.func49, Tryz.ntmps49
  go_wp2_with (first | (go_at_call 64; refine (Ho.out _).mono ?_; rintro e w1 ⟨b, rfl, hb1⟩; have H2 : Hid (Boxes w w1 k n L) := ⟨HB.out.below.trans (hb1.out.1.mono HB.out.below.size), HB.out.box.below' hb1.out.1, HB.out.out.below' hb1.out.1⟩; obtain ⟨cc, hcc⟩ := hb1.out.2; have hl := Hlk.out w1 b cc hcc; simp only [lookV] at hl; have HG2 := Lib.hid (HGW.out.below' hb1.out.1); have e2 := HG2.out.eEvent; clear hb1 hcc c0 c1 c2 fr d0 d1 d2 fz; obtain ⟨c0, c1, c2, fr⟩ := H2.out.box; obtain ⟨d0, d1, d2, fz⟩ := H2.out.out) | (go_at_call 65; refine (Hff.out _).mono ?_; rintro e w' ⟨rfl, rfl⟩))
  refine wp_region_held_drew (S := (fun w' => w'.cell? ⟨3, 0, none⟩ = some (.iface T (.pointer (some (er 2)))))) (by kernel_rfl) e2 (fun hHeld => ?_)
  refine held_take 0 (some 46) ?_ rfl rfl (by kernel_rfl) (by kernel_rfl) (by kernel_rfl) (fun _ _ _ h => h) (by kernel_rfl) ?_ (by assumption) ?_
  rotate_left
  · intro w hSw; (try dsimp only at hSw); go_simp <;> (try with_reducible rfl)
  simp only [Act.put, List.setIfInBounds_toArray, List.set_cons_zero, List.set_cons_succ]
  refine held_take 1 (some 47) ?_ rfl rfl (by kernel_rfl) (by kernel_rfl) (by kernel_rfl) (fun _ _ _ h => h) (by kernel_rfl) ?_ (by assumption) ?_
  rotate_left
  · intro w hSw; (try dsimp only at hSw); go_simp <;> (try with_reducible rfl)
  simp only [Act.put, List.setIfInBounds_toArray, List.set_cons_zero, List.set_cons_succ]
  refine wpAnyH_ready (rs := [2]) (by kernel_rfl) (by simp) (AllReadyH.cons rfl (fun K hK => ?_) AllReadyH.nil)
  go_simp
  refine hK.out _ _ ?_ (fun hHeld => ?_)
  · (try dsimp only); exact (World.cell?_drew ..).trans ((setSt_far w1 (w.heap.size + 1) 0 0 [] 3 0 (by have := HG.out.size; omega)).trans e2)
  clear hK K
  try simp only [Act.put, List.setIfInBounds_toArray, List.set_cons_zero, List.set_cons_succ]
  refine held_take 3 (some 9) ?_ rfl rfl (by kernel_rfl) (by kernel_rfl) (by kernel_rfl) (fun _ _ _ h => h) (by kernel_rfl) ?_ (by assumption) ?_
  rotate_left
  · intro w hSw; (try dsimp only at hSw); go_simp <;> (try with_reducible rfl)
  simp only [Act.put, List.setIfInBounds_toArray, List.set_cons_zero, List.set_cons_succ]
  refine held_take 4 (some 10) ?_ rfl rfl (by kernel_rfl) (by kernel_rfl) (by kernel_rfl) (fun _ _ _ h => h) (by kernel_rfl) ?_ (by assumption) ?_
  rotate_left
  · intro w hSw; (try dsimp only at hSw); go_simp <;> (try with_reducible rfl)
  simp only [Act.put, List.setIfInBounds_toArray, List.set_cons_zero, List.set_cons_succ]
  refine held_take 5 (some 11) ?_ rfl rfl (by kernel_rfl) (by kernel_rfl) (by kernel_rfl) (fun _ _ _ h => h) (by kernel_rfl) ?_ (by assumption) ?_
  rotate_left
  · intro w hSw; (try dsimp only at hSw); go_simp <;> (try with_reducible rfl)
  simp only [Act.put, List.setIfInBounds_toArray, List.set_cons_zero, List.set_cons_succ]
  refine wpAnyH_done (by kernel_rfl) ?_ _
  go_wp2
  exact bodyPost_ret (res49 _ _ (w.heap.size + 1) 0 0 [] _ _ _ H2.out.out.set.drew rfl rfl rfl rfl) rfl ⟨rfl, below_drew (setSt_below H2.out.below (by omega) _ _ _)⟩

set_option maxRecDepth 100000 in
set_option maxHeartbeats 1000000 in
theorem do_over (n : Int) (L : List UInt8) (op key val : Int) (g : Nat) (hop : opFn 2 op = some g) (hf : fitsB op key val = true) (h0 : -9223372036854775808 ≤ n + val) (h1 : n + val ≤ 9223372036854775807) (hn : nearB (n + val) 1000000000000000 = false) (w : World) (hG : Glob T er w) : DoIs 2 n L op key val (.tuple #[stv 0 0 [], .int .i64 0, .int .i64 0, errE T er 2]) w := by
  obtain ⟨k, hk2⟩ : ∃ k : Int, k = 2 := ⟨_, rfl⟩
  rw [← hk2] at hop ⊢
  have hk : 1 ≤ k ∧ k ≤ 4 := by omega
  have HG := Lib.hid hG
  clear hG
  have Ho := Lib.hid (fun W => ops_any k hk W)
  have Hlk := Lib.hid (fun W b c (hb : W.heap[b]? = some (.map (kes k) c)) => look_kes k op hk W b c hb)
  rw [hop] at Hlk
  have Hff := Lib.hid (fun W => fieldsFit_any op key val W)
  rw [hf] at Hff
  have Hou := Lib.hid (fun W => outside_any (n + val) 1000000000000000 (by decide) (by decide) W)
  rw [hn] at Hou
  have hke : (k == 2) = true := by simpa using hk2
  clear hop hk hf hn hk2
  have hB := boxes_new w k n L
  generalize hW : (w.alloc (.cells #[.int .i64 k, .int .i64 n, tv L] 34)).alloc (.cells #[.int .i64 0, .int .i64 0, .string ⟨#[]⟩] 34) = W at hB
  have HB := Lib.hid hB
  obtain ⟨c0, c1, c2, fr⟩ := hB.box
  obtain ⟨d0, d1, d2, fz⟩ := hB.out
  clear hB
  have HGW := Lib.hid (HG.out.below' HB.out.below)
  go_enter Tryz.func49, Tryz.ntmps49
  go_wp2_with (first | (go_at_call 64; refine (Ho.out _).mono ?_; rintro e w1 ⟨b, rfl, hb1⟩; have H2 : Hid (Boxes w w1 k n L) := ⟨HB.out.below.trans (hb1.out.1.mono HB.out.below.size), HB.out.box.below' hb1.out.1, HB.out.out.below' hb1.out.1⟩; obtain ⟨cc, hcc⟩ := hb1.out.2; have hl := Hlk.out w1 b cc hcc; simp only [lookV] at hl; have HG2 := Lib.hid (HGW.out.below' hb1.out.1); have e2 := HG2.out.eEvent; clear hb1 hcc c0 c1 c2 fr d0 d1 d2 fz; obtain ⟨c0, c1, c2, fr⟩ := H2.out.box; obtain ⟨d0, d1, d2, fz⟩ := H2.out.out) | (go_at_call 65; refine (Hff.out _).mono ?_; rintro e w' ⟨rfl, rfl⟩) | (go_at_call 66; refine (Hou.out _).mono ?_; rintro e w' ⟨rfl, rfl⟩))
  refine wp_region_held_drew (S := (fun w' => w'.cell? ⟨3, 0, none⟩ = some (.iface T (.pointer (some (er 2)))))) (by kernel_rfl) e2 (fun hHeld => ?_)
  refine held_take 0 (some 46) ?_ rfl rfl (by kernel_rfl) (by kernel_rfl) (by kernel_rfl) (fun _ _ _ h => h) (by kernel_rfl) ?_ (by assumption) ?_
  rotate_left
  · intro w hSw; (try dsimp only at hSw); go_simp <;> (try with_reducible rfl)
  simp only [Act.put, List.setIfInBounds_toArray, List.set_cons_zero, List.set_cons_succ]
  refine held_take 1 (some 47) ?_ rfl rfl (by kernel_rfl) (by kernel_rfl) (by kernel_rfl) (fun _ _ _ h => h) (by kernel_rfl) ?_ (by assumption) ?_
  rotate_left
  · intro w hSw; (try dsimp only at hSw); go_simp <;> (try with_reducible rfl)
  simp only [Act.put, List.setIfInBounds_toArray, List.set_cons_zero, List.set_cons_succ]
  refine wpAnyH_ready (rs := [2]) (by kernel_rfl) (by simp) (AllReadyH.cons rfl (fun K hK => ?_) AllReadyH.nil)
  go_simp
  refine hK.out _ _ ?_ (fun hHeld => ?_)
  · (try dsimp only); exact (World.cell?_drew ..).trans ((setSt_far w1 (w.heap.size + 1) 0 0 [] 3 0 (by have := HG.out.size; omega)).trans e2)
  clear hK K
  try simp only [Act.put, List.setIfInBounds_toArray, List.set_cons_zero, List.set_cons_succ]
  refine held_take 3 (some 9) ?_ rfl rfl (by kernel_rfl) (by kernel_rfl) (by kernel_rfl) (fun _ _ _ h => h) (by kernel_rfl) ?_ (by assumption) ?_
  rotate_left
  · intro w hSw; (try dsimp only at hSw); go_simp <;> (try with_reducible rfl)
  simp only [Act.put, List.setIfInBounds_toArray, List.set_cons_zero, List.set_cons_succ]
  refine held_take 4 (some 10) ?_ rfl rfl (by kernel_rfl) (by kernel_rfl) (by kernel_rfl) (fun _ _ _ h => h) (by kernel_rfl) ?_ (by assumption) ?_
  rotate_left
  · intro w hSw; (try dsimp only at hSw); go_simp <;> (try with_reducible rfl)
  simp only [Act.put, List.setIfInBounds_toArray, List.set_cons_zero, List.set_cons_succ]
  refine held_take 5 (some 11) ?_ rfl rfl (by kernel_rfl) (by kernel_rfl) (by kernel_rfl) (fun _ _ _ h => h) (by kernel_rfl) ?_ (by assumption) ?_
  rotate_left
  · intro w hSw; (try dsimp only at hSw); go_simp <;> (try with_reducible rfl)
  simp only [Act.put, List.setIfInBounds_toArray, List.set_cons_zero, List.set_cons_succ]
  refine wpAnyH_done (by kernel_rfl) ?_ _
  go_wp2
  exact bodyPost_ret (res49 _ _ (w.heap.size + 1) 0 0 [] _ _ _ H2.out.out.set.drew rfl rfl rfl rfl) rfl ⟨rfl, below_drew (setSt_below H2.out.below (by omega) _ _ _)⟩

/-- The functions that operations have. -/
theorem fn_enter {k op : Int} {g : Nat} (h : opFn k op = some g) : ∀ args w, (callFunc g args).run Tryz.prog w = .ok (.enter g args) w := by
  have : g = 81 ∨ g = 82 ∨ g = 83 ∨ g = 84 ∨ g = 85 ∨ g = 86 ∨ g = 87 ∨ g = 88 := by
    unfold opFn at h
    repeat' split at h
    all_goals first | (cases h; decide) | cases h
  rcases this with rfl | rfl | rfl | rfl | rfl | rfl | rfl | rfl
  · exact enters_of Tryz.func81 (by kernel_rfl) rfl
  · exact enters_of Tryz.func82 (by kernel_rfl) rfl
  · exact enters_of Tryz.func83 (by kernel_rfl) rfl
  · exact enters_of Tryz.func84 (by kernel_rfl) rfl
  · exact enters_of Tryz.func85 (by kernel_rfl) rfl
  · exact enters_of Tryz.func86 (by kernel_rfl) rfl
  · exact enters_of Tryz.func87 (by kernel_rfl) rfl
  · exact enters_of Tryz.func88 (by kernel_rfl) rfl

set_option maxRecDepth 100000 in
set_option maxHeartbeats 1000000 in
theorem do_goes (k n : Int) (hk : 1 ≤ k ∧ k ≤ 4) (L : List UInt8) (op key val : Int) (g : Nat) (hop : opFn k op = some g) (hf : fitsB op key val = true) (hc : k = 2 → (-9223372036854775808 ≤ n + val ∧ n + val ≤ 9223372036854775807) ∧ nearB (n + val) 1000000000000000 = true)
    (k' n' : Int) (L' : List UInt8) (r x : Int) (w : World) (hG : Glob T er w) (hfn : ∀ W, Glob T er W → OpIs g k n L key val k' n' L' r x W) : DoIs k n L op key val (.tuple #[stv k' n' L', .int .i64 r, .int .i64 x, .nilIface]) w := by
  have HG := Lib.hid hG
  clear hG
  have Ho := Lib.hid (fun W => ops_any k hk W)
  have Hlk := Lib.hid (fun W b c (hb : W.heap[b]? = some (.map (kes k) c)) => look_kes k op hk W b c hb)
  rw [hop] at Hlk
  have Hff := Lib.hid (fun W => fieldsFit_any op key val W)
  rw [hf] at Hff
  have Heg := Lib.hid (fn_enter hop)
  have eg := Heg.out
  unfold OpIs at hfn
  have Hfn := Lib.hid hfn
  clear hop hk hf hfn
  by_cases hk2 : k = 2
  · have hke : (k == 2) = true := by simpa using hk2
    obtain ⟨⟨h0, h1⟩, hn⟩ := hc hk2
    have Hou := Lib.hid (fun W => outside_any (n + val) 1000000000000000 (by decide) (by decide) W)
    rw [hn] at Hou
    clear hc hn hk2
    have hB := boxes_new w k n L
    generalize hW : (w.alloc (.cells #[.int .i64 k, .int .i64 n, tv L] 34)).alloc (.cells #[.int .i64 0, .int .i64 0, .string ⟨#[]⟩] 34) = W at hB
    have HB := Lib.hid hB
    obtain ⟨c0, c1, c2, fr⟩ := hB.box
    obtain ⟨d0, d1, d2, fz⟩ := hB.out
    clear hB
    have HGW := Lib.hid (HG.out.below' HB.out.below)
    go_enter Tryz.func49, Tryz.ntmps49
    go_wp2_with (first | (go_at_call 64; refine (Ho.out _).mono ?_; rintro e w1 ⟨b, rfl, hb1⟩; have H2 : Hid (Boxes w w1 k n L) := ⟨HB.out.below.trans (hb1.out.1.mono HB.out.below.size), HB.out.box.below' hb1.out.1, HB.out.out.below' hb1.out.1⟩; obtain ⟨cc, hcc⟩ := hb1.out.2; have hl := Hlk.out w1 b cc hcc; simp only [lookV] at hl; have HG2 := Lib.hid (HGW.out.below' hb1.out.1); have e2 := HG2.out.eEvent; clear hb1 hcc c0 c1 c2 fr d0 d1 d2 fz; obtain ⟨c0, c1, c2, fr⟩ := H2.out.box; obtain ⟨d0, d1, d2, fz⟩ := H2.out.out) | (go_at_call 65; refine (Hff.out _).mono ?_; rintro e w' ⟨rfl, rfl⟩) | (go_at_call 66; refine (Hou.out _).mono ?_; rintro e w' ⟨rfl, rfl⟩) | (refine (Hfn.out _ HG2.out).mono ?_; rintro e w3 ⟨rfl, hb3⟩; have hal : Hid (Below w3.heap.size w3 (w3.alloc (.cells #[.int .i64 k', .int .i64 n', tv L'] 34))) := (Below.refl _ _).alloc (Nat.le_refl _) _; have H3 : Hid (Boxes w (w3.alloc (.cells #[.int .i64 k', .int .i64 n', tv L'] 34)) k n L) := ⟨(H2.out.below.trans (hb3.out.mono H2.out.below.size)).trans (hal.out.mono (Nat.le_trans H2.out.below.size hb3.out.size)), (H2.out.box.below' hb3.out).below' hal.out, (H2.out.out.below' hb3.out).below' hal.out⟩; clear hb3 c0 c1 c2 fr d0 d1 d2 fz; obtain ⟨c0, c1, c2, fr⟩ := H3.out.box; obtain ⟨d0, d1, d2, fz⟩ := H3.out.out))
    exact bodyPost_ret (res49 _ _ (w.heap.size + 1) k' n' L' _ _ _ H3.out.out.set rfl rfl rfl rfl) rfl ⟨rfl, setSt_below H3.out.below (by omega) _ _ _⟩
  · have hke : (k == 2) = false := by simpa using hk2
    clear hc hk2
    have hB := boxes_new w k n L
    generalize hW : (w.alloc (.cells #[.int .i64 k, .int .i64 n, tv L] 34)).alloc (.cells #[.int .i64 0, .int .i64 0, .string ⟨#[]⟩] 34) = W at hB
    have HB := Lib.hid hB
    obtain ⟨c0, c1, c2, fr⟩ := hB.box
    obtain ⟨d0, d1, d2, fz⟩ := hB.out
    clear hB
    have HGW := Lib.hid (HG.out.below' HB.out.below)
    go_enter Tryz.func49, Tryz.ntmps49
    go_wp2_with (first | (go_at_call 64; refine (Ho.out _).mono ?_; rintro e w1 ⟨b, rfl, hb1⟩; have H2 : Hid (Boxes w w1 k n L) := ⟨HB.out.below.trans (hb1.out.1.mono HB.out.below.size), HB.out.box.below' hb1.out.1, HB.out.out.below' hb1.out.1⟩; obtain ⟨cc, hcc⟩ := hb1.out.2; have hl := Hlk.out w1 b cc hcc; simp only [lookV] at hl; have HG2 := Lib.hid (HGW.out.below' hb1.out.1); have e2 := HG2.out.eEvent; clear hb1 hcc c0 c1 c2 fr d0 d1 d2 fz; obtain ⟨c0, c1, c2, fr⟩ := H2.out.box; obtain ⟨d0, d1, d2, fz⟩ := H2.out.out) | (go_at_call 65; refine (Hff.out _).mono ?_; rintro e w' ⟨rfl, rfl⟩) | (refine (Hfn.out _ HG2.out).mono ?_; rintro e w3 ⟨rfl, hb3⟩; have hal : Hid (Below w3.heap.size w3 (w3.alloc (.cells #[.int .i64 k', .int .i64 n', tv L'] 34))) := (Below.refl _ _).alloc (Nat.le_refl _) _; have H3 : Hid (Boxes w (w3.alloc (.cells #[.int .i64 k', .int .i64 n', tv L'] 34)) k n L) := ⟨(H2.out.below.trans (hb3.out.mono H2.out.below.size)).trans (hal.out.mono (Nat.le_trans H2.out.below.size hb3.out.size)), (H2.out.box.below' hb3.out).below' hal.out, (H2.out.out.below' hb3.out).below' hal.out⟩; clear hb3 c0 c1 c2 fr d0 d1 d2 fz; obtain ⟨c0, c1, c2, fr⟩ := H3.out.box; obtain ⟨d0, d1, d2, fz⟩ := H3.out.out))
    exact bodyPost_ret (res49 _ _ (w.heap.size + 1) k' n' L' _ _ _ H3.out.out.set rfl rfl rfl rfl) rfl ⟨rfl, setSt_below H3.out.below (by omega) _ _ _⟩
end Go.Proofs.YtcjfcomadcebnaaGreatDoor
