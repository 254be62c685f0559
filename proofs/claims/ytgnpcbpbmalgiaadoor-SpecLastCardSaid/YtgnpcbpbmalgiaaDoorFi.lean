/- The chapter's examples (first), by a contract. -/
import Derived.Test.YtgnpcbpbmalgiaaDoorSy
import Derived.LaidEql
namespace Go.Proofs.YtgnpcbpbmalgiaaDoor
open Go.RowKit Go.Maps Go.WideMaps Go.WideElems Go.ChangeShapes Go.WideShapes

variable {er : Nat → Addr}

theorem info_some {P : Program} {t : TypeId} {b : Bool} (h : (P.info? t).map (fun i => i.comparable) = some b) : ∃ i, P.info? t = some i ∧ i.comparable = b := by
  cases hi : P.info? t with
  | none => rw [hi] at h; cases h
  | some i => rw [hi] at h; exact ⟨i, rfl, Option.some.inj h⟩
theorem eql_err (a : Addr) (w : World) : (Go.binOp .eql 29 (.iface 129 (.pointer (some a))) (.iface 129 (.pointer (some a)))).run Tryd.prog w = .ok (.bool true) w := by
  obtain ⟨i, hi, hc⟩ := info_some (P := Tryd.prog) (t := 129) (b := true) (by kernel_rfl)
  obtain ⟨j, hj, _⟩ := info_some (P := Tryd.prog) (t := 131) (b := true) (by kernel_rfl)
  simp only [Go.binOp]
  simp [Op.equal, Op.maxDepth, run_equalIn_iface_ptr_same w 9998 (te := 131) a Tryd.underlying29 Tryd.underlying129 hi hc hj]

theorem dec_one {u : Nat} (h : u < 10) : Lib.decDigits u = [UInt8.ofNat (48 + u)] := by rw [Lib.decDigits, dif_pos h]
theorem itoa_d (n : Nat) (h : n < 10) : Lib.itoa (n : Int) = [UInt8.ofNat (48 + n)] := by unfold Lib.itoa; rw [if_neg (by omega), Int.toNat_natCast, dec_one h]
theorem itoa_0 : Lib.itoa 0 = [48] := itoa_d 0 (by decide)
theorem itoa_1 : Lib.itoa 1 = [49] := itoa_d 1 (by decide)
theorem itoa_3 : Lib.itoa 3 = [51] := itoa_d 3 (by decide)
theorem itoa_5 : Lib.itoa 5 = [53] := itoa_d 5 (by decide)
theorem itoa_7 : Lib.itoa 7 = [55] := itoa_d 7 (by decide)

/-- The example's map. -/
abbrev ex0 : PS := ⟨4, 0, [], [(3, 7)]⟩
abbrev ex1 : PS := ⟨4, 0, [], [(1, 5), (3, 7)]⟩
theorem ex0_ok : ex0.Ok 0 := ⟨by decide, by decide, by decide, by decide, by decide, by decide, by decide, by decide, by unfold Rises; simp, by decide⟩
theorem ex0_text : ex0.text = [32, 51, 58, 55] := by
  show [] ++ (32 :: ((Lib.itoa 3 ++ 58 :: Lib.itoa 7) ++ [])) = _
  rw [itoa_3, itoa_7]; rfl
theorem ex1_text : ex1.text = [32, 49, 58, 53, 32, 51, 58, 55] := by
  show [] ++ (32 :: ((Lib.itoa 1 ++ 58 :: Lib.itoa 5) ++ (32 :: ((Lib.itoa 3 ++ 58 :: Lib.itoa 7) ++ [])))) = _
  rw [itoa_1, itoa_5, itoa_3, itoa_7]; rfl
theorem ex0_key : keyL ex0 = [109, 97, 112, 32, 51, 58, 55] := by
  show wordL 1 4 ++ ex0.text = _
  rw [ex0_text]; rfl
theorem ex_from : fromK [109, 97, 112, 32, 51, 58, 55] = .ok ex0 := by rw [← ex0_key]; exact fromK_of ex0_ok
theorem prn_01 : prn [48, 49] = none := by
  cases h : prn [48, 49] with
  | none => rfl
  | some v =>
    exfalso
    have h1 := prn_some h
    have ha : Lib.atoiAll [48, 49] = .ok v := by
      unfold prn at h
      split at h
      · rename_i x hx
        split at h
        · cases h; exact hx
        · cases h
      · cases h
    have hv : v = 1 := by
      have e : Lib.atoiAll [48, 49] = .ok 1 := by rfl
      rw [e] at ha; injection ha with ha; exact ha.symm
    subst hv
    rw [itoa_1] at h1
    cases h1
theorem ex_reg : fromK [114, 101, 103, 105, 115, 116, 101, 114, 32, 48, 49] = .error 0 := by
  have h : codeL 1 (headL [114, 101, 103, 105, 115, 116, 101, 114, 32, 48, 49]) = some 1 := by decide
  rw [fromK_1 h, show (([114, 101, 103, 105, 115, 116, 101, 114, 32, 48, 49] : List UInt8).drop (headL [114, 101, 103, 105, 115, 116, 101, 114, 32, 48, 49]).length).drop 1 = [48, 49] by decide, prn_01]

/-- What lies while the examples are gone through. -/
structure ExAt (er : Nat → Addr) (w : World) (b1 b2 : Nat) (l2 : List UInt8) (A : World) : Prop where
  below : Below w.heap.size w A
  glob : Glob 129 er A
  s1 : StAt A b1 4 0 [32, 51, 58, 55]
  s2 : StAt A b2 4 0 l2
theorem ExAt.next {w A A' : World} {b1 b2 : Nat} {l2 : List UInt8} (h : ExAt er w b1 b2 l2 A) (hb : Below A.heap.size A A') : ExAt er w b1 b2 l2 A' :=
  ⟨h.below.trans (hb.mono h.below.size), h.glob.below' hb, h.s1.below' hb, h.s2.below' hb⟩
theorem ExAt.more {w A : World} {b1 b2 : Nat} {l2 : List UInt8} (h : ExAt er w b1 b2 l2 A) (o : Obj) : ExAt er w b1 b2 l2 (A.alloc o) := h.next ((Below.refl _ _).alloc (Nat.le_refl _) _)
theorem ExAt.new {w A : World} {b1 b2 : Nat} {l2 : List UInt8} (h : ExAt er w b1 b2 l2 A) (l3 : List UInt8) : ExAt er w b1 A.heap.size l3 (A.alloc (.cells #[.int .i64 4, .int .i64 0, tv l3] 27)) :=
  ⟨(h.more _).below, (h.more _).glob, (h.more _).s1, stAt_new A 4 0 l3⟩
theorem exAt_first {w w1 : World} (hG : Glob 129 er w) (hb : Below w.heap.size w w1) : ExAt er w w1.heap.size w1.heap.size [32, 51, 58, 55] (w1.alloc (.cells #[.int .i64 4, .int .i64 0, tv [32, 51, 58, 55]] 27)) := by
  have h := hb.alloc hb.size (.cells #[.int .i64 4, .int .i64 0, tv [32, 51, 58, 55]] 27)
  exact ⟨h, hG.below' h, stAt_new w1 4 0 _, stAt_new w1 4 0 _⟩

set_option maxRecDepth 100000 in
set_option maxHeartbeats 4000000 in
theorem first_any (w : World) (hG : Glob 129 er w) : Calls Tryd.prog 7 #[] w fun e w' => e = .returned (.bool true) ∧ Hid (Below w.heap.size w w') := by
  have hf : ∀ W, Glob 129 er W → Calls Tryd.prog 13 #[tv [109, 97, 112, 32, 51, 58, 55]] W fun e w' => e = .returned (.tuple #[stv 4 0 [32, 51, 58, 55], .nilIface]) ∧ Hid (Below W.heap.size W w') := fun W h => by
    have := from_any [109, 97, 112, 32, 51, 58, 55] (by decide) W h
    rw [ex_from] at this
    change Calls Tryd.prog 13 _ W (fun e w' => e = .returned (.tuple #[stv 4 0 ex0.text, .nilIface]) ∧ _) at this
    rw [ex0_text] at this
    exact this
  have hg : ∀ W, Glob 129 er W → Calls Tryd.prog 13 #[tv [114, 101, 103, 105, 115, 116, 101, 114, 32, 48, 49]] W fun e w' => e = .returned (.tuple #[stv 0 0 [], errE 129 er 1]) ∧ Hid (Below W.heap.size W w') := fun W h => by
    have := from_any [114, 101, 103, 105, 115, 116, 101, 114, 32, 48, 49] (by decide) W h
    rw [ex_reg] at this
    exact this
  have hd1 : ∀ W, Glob 129 er W → DoIs 4 0 [32, 51, 58, 55] 7 1 5 (.tuple #[stv 4 0 [32, 49, 58, 53, 32, 51, 58, 55], .int .i64 1, .int .i64 0, .nilIface]) W := fun W h => by
    have := do_any ex0 0 (by decide) ex0_ok 7 1 5 (by unfold fits64; decide) (by unfold fits64; decide) W h
    rw [show doR ex0 7 1 5 = .ok (ex1, 1, 0) from rfl, ex0_text] at this
    change DoIs 4 0 _ 7 1 5 (.tuple #[stv 4 0 ex1.text, .int .i64 1, .int .i64 0, .nilIface]) W at this
    rw [ex1_text] at this
    exact this
  have hd2 : ∀ W, Glob 129 er W → DoIs 4 0 [32, 51, 58, 55] 8 3 0 (.tuple #[stv 4 0 [32, 51, 58, 55], .int .i64 3, .int .i64 7, .nilIface]) W := fun W h => by
    have := do_any ex0 0 (by decide) ex0_ok 8 3 0 (by unfold fits64; decide) (by unfold fits64; decide) W h
    rw [show doR ex0 8 3 0 = .ok (ex0, 3, 7) from rfl, ex0_text] at this
    change DoIs 4 0 _ 8 3 0 (.tuple #[stv 4 0 ex0.text, .int .i64 3, .int .i64 7, .nilIface]) W at this
    rw [ex0_text] at this
    exact this
  have hd3 : ∀ W, Glob 129 er W → DoIs 4 0 [32, 51, 58, 55] 1 0 0 (.tuple #[stv 0 0 [], .int .i64 0, .int .i64 0, errE 129 er 0]) W := fun W h => by
    have := do_any ex0 0 (by decide) ex0_ok 1 0 0 (by unfold fits64; decide) (by unfold fits64; decide) W h
    rw [show doR ex0 1 0 0 = .error 0 from rfl, ex0_text] at this
    exact this
  have hk1 : ∀ W, Glob 129 er W → Calls Tryd.prog 10 #[stv 4 0 [32, 49, 58, 53, 32, 51, 58, 55]] W fun e w' => e = .returned (tv [109, 97, 112, 32, 49, 58, 53, 32, 51, 58, 55]) ∧ Hid (Below W.heap.size W w') := fun W h => by
    have := key_any 4 0 (by unfold fits64; decide) [32, 49, 58, 53, 32, 51, 58, 55] (by decide) W h
    rw [show keyT 4 0 [32, 49, 58, 53, 32, 51, 58, 55] = [109, 97, 112, 32, 49, 58, 53, 32, 51, 58, 55] from rfl] at this
    exact this
  have hk2 : ∀ W, Glob 129 er W → Calls Tryd.prog 10 #[stv 4 0 [32, 51, 58, 55]] W fun e w' => e = .returned (tv [109, 97, 112, 32, 51, 58, 55]) ∧ Hid (Below W.heap.size W w') := fun W h => by
    have := key_any 4 0 (by unfold fits64; decide) [32, 51, 58, 55] (by decide) W h
    rw [show keyT 4 0 [32, 51, 58, 55] = [109, 97, 112, 32, 51, 58, 55] from rfl] at this
    exact this
  unfold DoIs at hd1 hd2 hd3
  have Hf := Lib.hid hf
  have Hg := Lib.hid hg
  have Hd1 := Lib.hid hd1
  have Hd2 := Lib.hid hd2
  have Hd3 := Lib.hid hd3
  have Hk1 := Lib.hid hk1
  have Hk2 := Lib.hid hk2
  have HG := Lib.hid hG
  have eql := fun a w => eql_err a w
  clear hf hg hd1 hd2 hd3 hk1 hk2 hG
  go_enter Tryd.func7, Tryd.ntmps7
  go_wp2_with (first
    | (go_at_call 13; first
      | (refine (Hf.out _ HG.out).mono ?_; rintro e w1 ⟨rfl, hb1⟩; have HA := Lib.hid (exAt_first HG.out hb1.out); clear hb1 Hf; obtain ⟨c0, c1, c2, cz⟩ := HA.out.s1)
      | (refine (Hg.out _ HD.out.glob).mono ?_; rintro e w5 ⟨rfl, hb5⟩; have HE := Lib.hid ((HD.out.next hb5.out).more (.cells #[.int .i64 0, .int .i64 0, tv []] 27)); clear hb5 Hg c0 c1 c2 cz; obtain ⟨c0, c1, c2, cz⟩ := HE.out.s1; obtain ⟨d0, d1, d2, dz⟩ := HE.out.s2))
    | (go_at_call 12; first
      | (refine (Hd1.out _ HA.out.glob).mono ?_; rintro e w2 ⟨rfl, hb2⟩; have HB := Lib.hid ((HA.out.next hb2.out).new [32, 49, 58, 53, 32, 51, 58, 55]); clear hb2 Hd1 c0 c1 c2 cz; obtain ⟨c0, c1, c2, cz⟩ := HB.out.s1)
      | (refine (Hd2.out _ HB.out.glob).mono ?_; rintro e w3 ⟨rfl, hb3⟩; have HC := Lib.hid ((HB.out.next hb3.out).more (.cells #[.int .i64 4, .int .i64 0, tv [32, 51, 58, 55]] 27)); clear hb3 Hd2 c0 c1 c2 cz; obtain ⟨c0, c1, c2, cz⟩ := HC.out.s1)
      | (refine (Hd3.out _ HC.out.glob).mono ?_; rintro e w4 ⟨rfl, hb4⟩; have HD := Lib.hid ((HC.out.next hb4.out).more (.cells #[.int .i64 0, .int .i64 0, tv []] 27)); clear hb4 Hd3 c0 c1 c2 cz; obtain ⟨c0, c1, c2, cz⟩ := HD.out.s1))
    | (go_at_call 10; first
      | (refine (Hk1.out _ HE.out.glob).mono ?_; rintro e w6 ⟨rfl, hb6⟩; have HF := Lib.hid (HE.out.next hb6.out); clear hb6 Hk1 c0 c1 c2 cz d0 d1 d2 dz; obtain ⟨c0, c1, c2, cz⟩ := HF.out.s1; have e0 := HF.out.glob.eOp; have e1 := HF.out.glob.eWord)
      | (refine (Hk2.out _ HF.out.glob).mono ?_; rintro e w7 ⟨rfl, hb7⟩; have HH := Lib.hid (HF.out.next hb7.out))))
  go_ret
  exact ⟨rfl, HH.out.below⟩
end Go.Proofs.YtgnpcbpbmalgiaaDoor
