/- Package spec: the small functions on numbers and texts, by contracts. -/
import Derived.Test.YtcjfcomadcebnaaGreatDoorEw
import Derived.Test.YtcjfcomadcebnaaGreatDoorWg
import Derived.Test.YtcjfcomadcebnaaGreatDoorSf
namespace Go.Proofs.YtcjfcomadcebnaaGreatDoor
open Go.RowKit Go.Maps Go.WideMaps Go.WideElems Go.ChangeShapes Go.WideShapes

variable {T : TypeId} {er : Nat → Addr}

theorem under9 : Tryz.prog.underlying 9 = some .string := by kernel_rfl
theorem tv_size (l : List UInt8) : (⟨l.toArray⟩ : ByteArray).size = l.length := by simp [ByteArray.size]
theorem tv_data (l : List UInt8) : (⟨l.toArray⟩ : ByteArray).data.toList = l := by simp

set_option maxRecDepth 100000 in
theorem outside_any (n b : Int) (h0 : 0 ≤ b) (h1 : b ≤ 1000000000000000000) (w : World) : Calls Tryz.prog 66 #[.int .i64 n, .int .i64 b] w fun e w' => e = .returned (.bool (!nearB n b)) ∧ w = w' := by
  obtain ⟨R, hR⟩ : ∃ R, R = (!nearB n b) := ⟨_, rfl⟩
  rw [← hR]
  have HR := Lib.hid hR
  clear hR
  by_cases h2 : n < -b
  · have HR' : Hid (R = true) := by show _ = _; rw [HR.out, show nearB n b = false from decide_eq_false (by unfold near; omega)]; rfl
    go_enter Tryz.func66, Tryz.ntmps66
    go_wp2
    go_ret
    exact ⟨by rw [HR'.out]; rfl, rfl⟩
  by_cases h3 : b < n
  · have HR' : Hid (R = true) := by show _ = _; rw [HR.out, show nearB n b = false from decide_eq_false (by unfold near; omega)]; rfl
    go_enter Tryz.func66, Tryz.ntmps66
    go_wp2
    go_ret
    exact ⟨by rw [HR'.out]; rfl, rfl⟩
  · have HR' : Hid (R = false) := by show _ = _; rw [HR.out, show nearB n b = true from decide_eq_true (by unfold near; omega)]; rfl
    go_enter Tryz.func66, Tryz.ntmps66
    go_wp2
    go_ret
    exact ⟨by rw [HR'.out]; rfl, rfl⟩

theorem fieldsFit_any (op key val : Int) (w : World) : Calls Tryz.prog 65 #[.int .i64 op, .int .i64 key, .int .i64 val] w fun e w' => e = .returned (.bool (fitsB op key val)) ∧ w = w' := by
  have Ho := Lib.hid (outside_any val 1000000000 (by decide) (by decide) w)
  have Hk := Lib.hid (keyed_any op w)
  have Hv := Lib.hid (valued_any op w)
  obtain ⟨R, hR⟩ : ∃ R, R = fitsB op key val := ⟨_, rfl⟩
  rw [← hR]
  unfold fitsB at hR
  rw [show decide (near val 1000000000) = nearB val 1000000000 from rfl] at hR
  generalize nearB val 1000000000 = nb at *
  generalize keyedZ op = kb at *
  generalize valuedZ op = vb at *
  have HR := Lib.hid hR
  clear hR
  by_cases h1 : key < 0
  · have HR' : Hid (R = false) := by show _ = _; rw [HR.out, decide_eq_false (by omega : ¬ 0 ≤ key)]; simp
    go_enter Tryz.func65, Tryz.ntmps65
    go_wp2_with (first | (go_at_call 66; refine Ho.out.mono ?_; rintro e w' ⟨rfl, rfl⟩))
    go_ret
    exact ⟨by rw [HR'.out]; rfl, rfl⟩
  by_cases h2 : 1000 < key
  · have HR' : Hid (R = false) := by show _ = _; rw [HR.out, decide_eq_false (by omega : ¬ key ≤ 1000)]; simp
    go_enter Tryz.func65, Tryz.ntmps65
    go_wp2_with (first | (go_at_call 66; refine Ho.out.mono ?_; rintro e w' ⟨rfl, rfl⟩))
    go_ret
    exact ⟨by rw [HR'.out]; rfl, rfl⟩
  have HR1 : Hid (R = (nb && (key == 0 || kb) && (val == 0 || vb))) := by show _ = _; rw [HR.out, decide_eq_true (by omega : 0 ≤ key), decide_eq_true (by omega : key ≤ 1000)]; simp
  clear HR
  cases nb
  · have HR' : Hid (R = false) := by show _ = _; rw [HR1.out]; simp
    go_enter Tryz.func65, Tryz.ntmps65
    go_wp2_with (first | (go_at_call 66; refine Ho.out.mono ?_; rintro e w' ⟨rfl, rfl⟩))
    go_ret
    exact ⟨by rw [HR'.out]; rfl, rfl⟩
  obtain ⟨kz, hkz⟩ : ∃ kz, kz = (key == 0) := ⟨_, rfl⟩
  obtain ⟨vz, hvz⟩ : ∃ vz, vz = (val == 0) := ⟨_, rfl⟩
  rw [← hkz, ← hvz] at HR1
  have hkz' := hkz.symm
  have hvz' := hvz.symm
  clear hkz hvz
  cases kz <;> cases kb <;> cases vz <;> cases vb
  all_goals
    go_enter Tryz.func65, Tryz.ntmps65
    go_wp2_with (first | (go_at_call 66; refine Ho.out.mono ?_; rintro e w' ⟨rfl, rfl⟩) | (go_at_call 89; refine Hk.out.mono ?_; rintro e w' ⟨rfl, rfl⟩) | (go_at_call 90; refine Hv.out.mono ?_; rintro e w' ⟨rfl, rfl⟩))
    go_ret
    exact ⟨by rw [HR1.out]; rfl, rfl⟩

set_option maxRecDepth 100000 in
theorem told_itoa (v : Int) (h0 : -9223372036854775808 ≤ v) (h1 : v ≤ 9223372036854775807) (w : World) : Calls Tryz.prog 106 #[tv (Lib.itoa v)] w fun e w' => e = .returned (.int .i64 v) ∧ Hid (Below w.heap.size w w') := by
  have Ha := Lib.hid (atoi_ok (by have := itoa_len v h0 h1; omega) (atoi_itoa v h0 h1) w)
  generalize Lib.itoa v = l at *
  clear h0 h1
  go_enter Tryz.func106, Tryz.ntmps106
  go_wp2_with (first | (go_at_call 123; refine Ha.out.mono ?_; rintro e w' ⟨rfl, hb⟩))
  go_ret
  exact ⟨rfl, hb⟩

/-- Pieces of a text. -/
theorem arr_of (s : ByteArray) : (⟨s.data.toList.toArray⟩ : ByteArray) = s := by cases s; simp
theorem ext_tv (l : List UInt8) (a b : Nat) : (⟨l.toArray⟩ : ByteArray).extract a b = ⟨((l.drop a).take (b - a)).toArray⟩ := by
  rw [← arr_of ((⟨l.toArray⟩ : ByteArray).extract a b), Lib.extract_data, tv_data]
theorem str_from (l : List UInt8) (a : Nat) (ha : a ≤ l.length) (w : World) : (Instr.slice 9 (tv l) (some (.int .i64 (a : Int))) none none).run Tryz.prog w = .ok (tv (l.drop a)) w := by
  have hs := tv_size l
  simp [Instr.slice, Instr.sliceBounds, Instr.sliceBound, asIntOf, run_underlying under9, ha, hs, ext_tv]
  exact List.take_of_length_le (by simp)
theorem str_to (l : List UInt8) (b : Nat) (hb : b ≤ l.length) (w : World) : (Instr.slice 9 (tv l) none (some (.int .i64 (b : Int))) none).run Tryz.prog w = .ok (tv (l.take b)) w := by
  have hs := tv_size l
  simp [Instr.slice, Instr.sliceBounds, Instr.sliceBound, asIntOf, run_underlying under9, hb, hs, ext_tv]
theorem str_mid (l : List UInt8) (a b : Nat) (hab : a ≤ b) (hb : b ≤ l.length) (w : World) : (Instr.slice 9 (tv l) (some (.int .i64 (a : Int))) (some (.int .i64 (b : Int))) none).run Tryz.prog w = .ok (tv ((l.drop a).take (b - a))) w := by
  have hs := tv_size l
  simp [Instr.slice, Instr.sliceBounds, Instr.sliceBound, asIntOf, run_underlying under9, hab, hb, hs, ext_tv]

set_option maxRecDepth 100000 in
theorem itemEnd_any (l : List UInt8) (hl : 1 ≤ l.length) (hm : l.length ≤ 4294967280) (w : World) : Calls Tryz.prog 105 #[tv l] w fun e w' => e = .returned (.int .i64 (iendL l : Nat)) ∧ w = w' := by
  have hcut := str_from l 1 hl
  have hi := Lib.hid (Tryz.strings_IndexByte ⟨(l.drop 1).toArray⟩ 32 w)
  have hd : (l.drop 1).length = l.length - 1 := by simp
  rw [tv_data] at hi
  have hx : Lib.indexByte (l.drop 1) (Int.toNat 32).toUInt8 = Lib.indexByte (l.drop 1) 32 := rfl
  rw [hx] at hi
  obtain ⟨R, hR⟩ : ∃ R, R = iendL l := ⟨_, rfl⟩
  rw [← hR]
  unfold iendL at hR
  have hge := Lib.indexByte_ge (l.drop 1) 32
  have hle : Lib.indexByte (l.drop 1) 32 < l.length := by
    by_cases h0 : 0 ≤ Lib.indexByte (l.drop 1) 32
    · obtain ⟨i, hi'⟩ : ∃ i : Nat, Lib.indexByte (l.drop 1) 32 = i := ⟨(Lib.indexByte (l.drop 1) 32).toNat, by omega⟩
      have := (ib_split hi').2.2
      omega
    · omega
  generalize Lib.indexByte (l.drop 1) 32 = x at *
  have HR := Lib.hid hR
  have hcut' : ∀ w, (Instr.slice 9 (tv l) (some (.int .i64 1)) none none).run Tryz.prog w = .ok (tv (l.drop 1)) w := hcut
  generalize l.drop 1 = l1 at *
  have hsz := tv_size l
  clear hcut hR hx hd
  by_cases h0 : 0 ≤ x
  · have HR' : Hid (R = x.toNat + 1) := by show _ = _; rw [HR.out, if_pos h0]
    clear HR
    go_enter Tryz.func105, Tryz.ntmps105
    go_wp2_with (first | (go_at_call 122; refine hi.out.mono ?_; rintro e w' ⟨rfl, rfl⟩))
    go_ret
    exact ⟨by rw [HR'.out]; show Ending.returned (.int .i64 (x + 1)) = _; congr 2; omega, rfl⟩
  · have HR' : Hid (R = l.length) := by show _ = _; rw [HR.out, if_neg h0]
    clear HR
    go_enter Tryz.func105, Tryz.ntmps105
    go_wp2_with (first | (go_at_call 122; refine hi.out.mono ?_; rintro e w' ⟨rfl, rfl⟩))
    go_ret
    exact ⟨by rw [HR'.out]; rfl, rfl⟩

theorem cut_item (p : Int × Int) : Lib.cut (item p) [58] = (Lib.itoa p.1, Lib.itoa p.2, true) := by
  have h : Lib.index (item p) [58] = (Lib.itoa p.1).length := by rw [Lib.index_one]; exact ib_hit 58 _ _ (itoa_58 p.1)
  unfold Lib.cut
  rw [h, if_pos (by omega), Int.toNat_natCast]
  have e1 : (item p).take (Lib.itoa p.1).length = Lib.itoa p.1 := by simp [item]
  have e2 : (item p).drop ((Lib.itoa p.1).length + [(58 : UInt8)].length) = Lib.itoa p.2 := by unfold item; rw [List.drop_append]; simp
  rw [e1, e2]
/-- Numbers that fit. -/
def fits64 (n : Int) : Prop := -9223372036854775808 ≤ n ∧ n ≤ 9223372036854775807
theorem item_len (p : Int × Int) (h1 : fits64 p.1) (h2 : fits64 p.2) : (item p).length ≤ 43 := by
  have a := itoa_len p.1 h1.1 h1.2
  have b := itoa_len p.2 h2.1 h2.2
  simp [item]; omega

set_option maxRecDepth 100000 in
theorem pair_any (p : Int × Int) (h1 : fits64 p.1) (h2 : fits64 p.2) (w : World) (hG : Glob T er w) : Calls Tryz.prog 108 #[tv (32 :: item p)] w fun e w' => e = .returned (.tuple #[.int .i64 p.1, .int .i64 p.2]) ∧ Hid (Below w.heap.size w w') := by
  obtain ⟨m, hm⟩ := hG.maxLen
  have hc := Tryz.strings_Cut ⟨(item p).toArray⟩ ⟨#[58]⟩ m w (by rw [tv_size]; have := item_len p h1 h2; omega) hm
  rw [tv_data, show (⟨#[58]⟩ : ByteArray).data.toList = [58] from rfl, cut_item] at hc
  have Hc := Lib.hid hc
  have Ht1 := Lib.hid (fun w => told_itoa p.1 h1.1 h1.2 w)
  have Ht2 := Lib.hid (fun w => told_itoa p.2 h2.1 h2.2 w)
  have hcut : ∀ w, (Instr.slice 9 (tv (32 :: item p)) (some (.int .i64 1)) none none).run Tryz.prog w = .ok (tv (item p)) w := str_from (32 :: item p) 1 (by simp)
  generalize item p = it at *
  generalize Lib.itoa p.1 = x at *
  generalize Lib.itoa p.2 = y at *
  clear hm hc h1 h2 hG
  go_enter Tryz.func108, Tryz.ntmps108
  go_wp2_with (first
    | (go_at_call 124; refine Hc.out.mono ?_; rintro e w' ⟨rfl, q, rfl⟩; have H1 : Hid (Below w.heap.size w (w.drewN q)) := below_drewN (Below.refl _ _) q)
    | (go_at_call 106; first | (refine (Ht1.out _).mono ?_; rintro e w2 ⟨rfl, hb2⟩; clear Ht1; have H2 := Lib.hid (H1.out.trans (hb2.out.mono H1.out.size)); clear hb2) | (refine (Ht2.out _).mono ?_; rintro e w3 ⟨rfl, hb3⟩; clear Ht2; have H3 := Lib.hid (H2.out.trans (hb3.out.mono H2.out.size)); clear hb3)))
  go_ret2
  exact ⟨rfl, H3.out⟩
end Go.Proofs.YtcjfcomadcebnaaGreatDoor
