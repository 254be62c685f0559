/- The chapter's examples (first), by a contract. -/
import Derived.Test.YtcjfcomadcebnaaGreatDoorEc
import Derived.Test.YtcjfcomadcebnaaGreatDoorLr
import Derived.LaidEql
namespace Go.Proofs.YtcjfcomadcebnaaGreatDoor
open Go.RowKit Go.Maps Go.WideMaps Go.WideElems Go.ChangeShapes Go.WideShapes
variable {er : Nat → Addr}

theorem info_some {P : Program} {t : TypeId} {b : Bool} (h : (P.info? t).map (fun i => i.comparable) = some b) : ∃ i, P.info? t = some i ∧ i.comparable = b := by
  cases hi : P.info? t with
  | none => rw [hi] at h; cases h
  | some i => rw [hi] at h; exact ⟨i, rfl, Option.some.inj h⟩
theorem eql_err (a : Addr) (w : World) : (Go.binOp .eql 70 (.iface 212 (.pointer (some a))) (.iface 212 (.pointer (some a)))).run Tryz.prog w = .ok (.bool true) w := by
  obtain ⟨i, hi, hc⟩ := info_some (P := Tryz.prog) (t := 212) (b := true) (by kernel_rfl)
  obtain ⟨j, hj, _⟩ := info_some (P := Tryz.prog) (t := 214) (b := true) (by kernel_rfl)
  simp only [Go.binOp]
  simp [Op.equal, Op.maxDepth, run_equalIn_iface_ptr_same w 9998 (te := 214) a Tryz.underlying70 Tryz.underlying212 hi hc hj]

theorem dec_one {u : Nat} (h : u < 10) : Lib.decDigits u = [UInt8.ofNat (48 + u)] := by rw [Lib.decDigits, dif_pos h]
theorem itoa_d (n : Nat) (h : n < 10) : Lib.itoa (n : Int) = [UInt8.ofNat (48 + n)] := by unfold Lib.itoa; rw [if_neg (by omega), Int.toNat_natCast, dec_one h]
theorem itoa_3 : Lib.itoa 3 = [51] := itoa_d 3 (by decide)
theorem itoa_5 : Lib.itoa 5 = [53] := itoa_d 5 (by decide)

/-- The example's stores. -/
abbrev exS : List P3 := [(1, 5, []), (3, 0, [])]
abbrev exT : List P3 := [(1, 5, []), (3, 0, [32, 51])]
abbrev exQ : PS := ⟨3, 0, [], []⟩
theorem exQ_ok : exQ.Ok 0 := ⟨by decide, by decide, by decide, by decide, by decide, by decide, by decide, by decide, by unfold Rises; simp, by decide⟩
theorem ex_enq {w : World} (hG : Glob 212 er w) : DoIs 3 0 [] 5 0 3 (.tuple #[stv 3 0 [32, 51], .int .i64 1, .int .i64 0, .nilIface]) w := by
  have h := do_any exQ 0 (by decide) exQ_ok 5 0 3 (by unfold fits64; decide) (by unfold fits64; decide) w hG
  have e : doR exQ 5 0 3 = .ok (⟨3, 0, [3], []⟩, 1, 0) := rfl
  rw [e] at h
  have ht : (⟨3, 0, [3], []⟩ : PS).text = [32, 51] := by
    show (32 :: (Lib.itoa 3 ++ [])) ++ [] = _
    rw [itoa_3]; rfl
  change DoIs 3 0 [] 5 0 3 (.tuple #[stv 3 0 (⟨3, 0, [3], []⟩ : PS).text, .int .i64 1, .int .i64 0, .nilIface]) w at h
  rw [ht] at h
  exact h
theorem exS_tells : ∀ s ∈ exS, Tells s := by
  intro s hs
  simp at hs
  rcases hs with rfl | rfl <;> exact ⟨⟨by decide, by decide⟩, by decide⟩
theorem exT_tells : ∀ s ∈ exT, Tells s := by
  intro s hs
  simp at hs
  rcases hs with rfl | rfl <;> exact ⟨⟨by decide, by decide⟩, by decide⟩
theorem exS_key : keyS exS = [114, 101, 103, 105, 115, 116, 101, 114, 32, 53, 59, 32, 113, 117, 101, 117, 101] := by
  show (wordL 1 1 ++ 32 :: Lib.itoa 5) ++ (([59, 32] ++ (wordL 1 3 ++ [])) ++ []) = _
  rw [itoa_5]; rfl
theorem exT_key : keyS exT = [114, 101, 103, 105, 115, 116, 101, 114, 32, 53, 59, 32, 113, 117, 101, 117, 101, 32, 51] := by
  show (wordL 1 1 ++ 32 :: Lib.itoa 5) ++ (([59, 32] ++ (wordL 1 3 ++ [32, 51])) ++ []) = _
  rw [itoa_5]; rfl
theorem sl_new (w : World) (cs : Array Value) (t : TypeId) : SlAt (w.alloc (.cells cs t)) (some ⟨w.heap.size, 0, none⟩) cs.toList :=
  .inr ⟨w.heap.size, 0, rfl, fun _ => by simp, fun j u hj => by
    rw [Nat.zero_add, cell_of_row _ w.heap.size j cs t _ (World.alloc_heap_new w _)]
    simpa using hj⟩
theorem IAt.same {W W' : World} {a : Option Addr} {zs : List Int} (h : IAt W a zs) (e : W'.heap = W.heap) : IAt W' a zs := by
  rcases h with h | ⟨b, off, e1, h⟩
  · exact .inl h
  · exact .inr ⟨b, off, e1, fun k hk => by rw [← h k hk]; simp [World.cell?, e]⟩

/-- What lies while the examples are gone through: both stores, each in its box. -/
structure FsAt (er : Nat → Addr) (w : World) (b1 b3 : Nat) (v1 v3 : Value) (A : World) : Prop where
  below : Below w.heap.size w A
  glob : Glob 212 er A
  box1 : Boxed A b1 29 v1
  box3 : Boxed A b3 29 v3
  sl1 : ∃ a c, v1 = .slice a 2 c ∧ SlAt A a (sts exS)
  sl3 : ∃ a c, v3 = .slice a 2 c ∧ SlAt A a (sts exT)
theorem FsAt.next {w A A' : World} {b1 b3 : Nat} {v1 v3 : Value} (h : FsAt er w b1 b3 v1 v3 A) (hb : Below A.heap.size A A') : FsAt er w b1 b3 v1 v3 A' :=
  ⟨h.below.trans (hb.mono h.below.size), h.glob.below' hb, boxed_below h.box1 hb (Array.getElem?_eq_some_iff.1 h.box1).1, boxed_below h.box3 hb (Array.getElem?_eq_some_iff.1 h.box3).1, by obtain ⟨a, c, e, hs⟩ := h.sl1; exact ⟨a, c, e, hs.below hb⟩, by obtain ⟨a, c, e, hs⟩ := h.sl3; exact ⟨a, c, e, hs.below hb⟩⟩
theorem FsAt.more {w A : World} {b1 b3 : Nat} {v1 v3 : Value} (h : FsAt er w b1 b3 v1 v3 A) (o : Obj) : FsAt er w b1 b3 v1 v3 (A.alloc o) := h.next ((Below.refl _ _).alloc (Nat.le_refl _) _)

theorem ex_do {W : World} (a : Option Addr) (c : Nat) (hs : SlAt W a (stc [(1, 5), (3, 0)])) (hG : Glob 212 er W) :
    Calls Tryz.prog 31 #[.agg #[.slice a 2 c], .int .i64 1, .int .i64 5, .int .i64 0, .int .i64 3] W fun e w' => ∃ v', e = .returned (.tuple #[.agg #[v'], .int .i64 1, .int .i64 0, .nilIface]) ∧ Hid (w'.ownsRow W.heap.size 34 3 v' 2 (sts exT) ∧ Below W.heap.size W w') :=
  sdo_ok a 2 c (stc [(1, 5), (3, 0)]) rfl (stc_one _) (by decide) 1 (by decide) 3 0 [] rfl rfl rfl 5 0 3 3 0 1 0 [32, 51] (fun W h => ex_enq h) W hs hG
theorem ex_out {W : World} (a : Option Addr) (c : Nat) (hG : Glob 212 er W) :
    Calls Tryz.prog 31 #[.agg #[.slice a 2 c], .int .i64 2, .int .i64 1, .int .i64 0, .int .i64 0] W fun e w' => e = .returned (.tuple #[.agg #[.slice none 0 0], .int .i64 0, .int .i64 0, errE 212 er 3]) ∧ Hid (Below W.heap.size W w') :=
  sdo_out a 2 c 2 1 0 0 (by decide) W hG

theorem one2 (x y : Int) : ∀ u ∈ [Value.int .i64 x, .int .i64 y], u.oneCell' = true := by intro u hu; simp at hu; rcases hu with rfl | rfl <;> rfl
theorem one1 (x : Int) : ∀ u ∈ [Value.int .i64 x], u.oneCell' = true := by intro u hu; simp at hu; subst hu; rfl
theorem below_new {W w' : World} (o : Obj) (h : Below (W.alloc o).heap.size (W.alloc o) w') : Below W.heap.size W w' :=
  ((Below.refl _ _).alloc (Nat.le_refl _) o).trans (h.mono (by simp))
/-- A row that was made, read: a slice of so many whole numbers. -/
def IntsV (W W' : World) (xs : List Value) (n : Nat) (v : Value) : Prop := ∃ a c, v = .slice a n c ∧ (a = none → c = 0) ∧ SlAt W' a xs ∧ Below W.heap.size W W'
theorem intsV {W W' : World} {B n : Nat} {v : Value} {xs : List Value} (h : W'.ownsRow B 3 1 v n xs) (hb : Below W.heap.size W W') : IntsV W W' xs n v := by
  obtain ⟨a, c, rfl, hs, _⟩ := row_sl h
  exact ⟨a, c, rfl, (row_sl0 h).2, hs, hb⟩
theorem ex_of2 (W : World) : Calls Tryz.prog 22 #[.slice (some ⟨W.heap.size, 0, none⟩) 2 2] (W.alloc (.cells #[.int .i64 1, .int .i64 2] 3)) fun e w' => ∃ v', e = .returned (.agg #[v']) ∧ IntsV W w' [.int .i64 1, .int .i64 2] 2 v' :=
  (of_int (some ⟨W.heap.size, 0, none⟩) 2 2 [.int .i64 1, .int .i64 2] rfl (one2 _ _) (by decide) _ (sl_new W _ 3)).mono fun _ _ ⟨v', e, h⟩ => ⟨v', e, intsV h.out.1 (below_new _ h.out.2)⟩
theorem ex_of1 (W : World) : Calls Tryz.prog 22 #[.slice (some ⟨W.heap.size, 0, none⟩) 1 1] (W.alloc (.cells #[.int .i64 1] 3)) fun e w' => ∃ v', e = .returned (.agg #[v']) ∧ IntsV W w' [.int .i64 1] 1 v' :=
  (of_int (some ⟨W.heap.size, 0, none⟩) 1 1 [.int .i64 1] rfl (one1 _) (by decide) _ (sl_new W _ 3)).mono fun _ _ ⟨v', e, h⟩ => ⟨v', e, intsV h.out.1 (below_new _ h.out.2)⟩
theorem ex_with (W : World) (a : Option Addr) (c : Nat) (hs : SlAt W a [.int .i64 1, .int .i64 2]) : Calls Tryz.prog 23 #[.agg #[.slice a 2 c], .int .i64 1, .int .i64 7] W fun e w' => ∃ v', e = .returned (.agg #[v']) ∧ IntsV W w' [.int .i64 1, .int .i64 7] 2 v' :=
  (with_int_in a 2 c [.int .i64 1, .int .i64 2] rfl (one2 _ _) (by decide) 1 (by decide) 7 W hs).mono fun _ _ ⟨v', e, h⟩ => ⟨v', e, intsV h.out.1 h.out.2⟩
theorem ex_and (W : World) (a : Option Addr) (c : Nat) (hs : SlAt W a [.int .i64 1]) (hc : a = none → c = 0) : Calls Tryz.prog 24 #[.agg #[.slice a 1 c], .int .i64 2] W fun e w' => ∃ v', e = .returned (.agg #[v']) ∧ IntsV W w' [.int .i64 1, .int .i64 2] 2 v' :=
  (and_int a 1 c [.int .i64 1] rfl (one1 _) (by decide) 2 W hs hc).mono fun _ _ ⟨v', e, h⟩ => ⟨v', e, intsV h.out.1 h.out.2⟩
theorem ex_all (W : World) (a : Option Addr) (c : Nat) (x y : Int) (hs : SlAt W a [.int .i64 x, .int .i64 y]) : Calls Tryz.prog 26 #[.agg #[.slice a 2 c]] W fun e w' => ∃ v', e = .returned v' ∧ IntsV W w' [.int .i64 x, .int .i64 y] 2 v' :=
  (all_int a 2 c [.int .i64 x, .int .i64 y] rfl (one2 _ _) (by decide) W hs).mono fun _ _ ⟨v', e, h⟩ => ⟨v', e, intsV h.out.1 h.out.2⟩
theorem ex_same (W : World) (a : Option Addr) (c : Nat) (x y : Int) (hs : SlAt W a [.int .i64 x, .int .i64 y]) : Calls Tryz.prog 16 #[.slice a 2 c, .slice (some ⟨W.heap.size, 0, none⟩) 2 2] (W.alloc (.cells #[.int .i64 x, .int .i64 y] 3)) fun e w' => e = .returned (.bool true) ∧ Hid (Below W.heap.size W w') := by
  have h1 : IAt (W.alloc (.cells #[.int .i64 x, .int .i64 y] 3)) a [x, y] := SlAt.ints (zs := [x, y]) (hs.below ((Below.refl _ _).alloc (Nat.le_refl _) _))
  have h2 : IAt (W.alloc (.cells #[.int .i64 x, .int .i64 y] 3)) (some ⟨W.heap.size, 0, none⟩) [x, y] := SlAt.ints (zs := [x, y]) (sl_new W _ 3)
  have h := sameInts_any a (some ⟨W.heap.size, 0, none⟩) c 2 [x, y] [x, y] _ h1 h2 (by simp) (by simp)
  rw [decide_eq_true rfl] at h
  exact h.mono fun e w' ⟨e1, q, hq⟩ => ⟨e1, below_new _ (hq ▸ below_drewN (Below.refl _ _) q)⟩
theorem ex_keyS (W : World) (a : Option Addr) (c : Nat) (hs : SlAt W a (sts exS)) (hG : Glob 212 er W) : Calls Tryz.prog 33 #[.agg #[.slice a 2 c]] W fun e w' => e = .returned (tv [114, 101, 103, 105, 115, 116, 101, 114, 32, 53, 59, 32, 113, 117, 101, 117, 101]) ∧ Hid (Below W.heap.size W w') := by
  have h := skey_any a c exS (by decide) exS_tells W hs hG
  rw [exS_key] at h
  exact h
theorem ex_keyT (W : World) (a : Option Addr) (c : Nat) (hs : SlAt W a (sts exT)) (hG : Glob 212 er W) : Calls Tryz.prog 33 #[.agg #[.slice a 2 c]] W fun e w' => e = .returned (tv [114, 101, 103, 105, 115, 116, 101, 114, 32, 53, 59, 32, 113, 117, 101, 117, 101, 32, 51]) ∧ Hid (Below W.heap.size W w') := by
  have h := skey_any a c exT (by decide) exT_tells W hs hG
  rw [exT_key] at h
  exact h

set_option maxRecDepth 100000 in
set_option maxHeartbeats 1000000 in
theorem first_any (w : World) (hG : Glob 212 er w) : Calls Tryz.prog 8 #[] w fun e w' => e = .returned (.bool true) ∧ Hid (Below w.heap.size w w') := by
  have HG := Lib.hid hG
  obtain ⟨W1, hW1, Hb1, hs1, Hp1⟩ := cells_new w #[.int .i64 1, .int .i64 5, .int .i64 3, .int .i64 0] 83
  have HN := Lib.hid (snew_ok (T := 212) (er := er) (some ⟨w.heap.size, 0, none⟩) 2 [(1, 5), (3, 0)] (by decide) (by decide) W1 (hW1 ▸ sl_new w _ 83) (hG.below' Hb1.out))
  have eql := fun a w => eql_err a w
  clear hG
  go_enter Tryz.func8, Tryz.ntmps8
  go_wp2_with (first
    | (go_at_call 34; refine HN.out.mono ?_; rintro e w2 ⟨v2, rfl, h2⟩; obtain ⟨a2, c2, rfl, hsl2, -⟩ := row_sl h2.out.1; obtain ⟨W3, hW3, Hb3, hs3, Hx3⟩ := box_new w2 29 (.slice a2 2 c2); have x3 := Hx3.out.cell; have Hsl3 := Lib.hid (hsl2.below Hb3.out); have HB3 := Lib.hid ((Hb1.out.trans (h2.out.2.mono Hb1.out.size)).trans (Hb3.out.mono (Nat.le_trans Hb1.out.size h2.out.2.size))); have HG3 := Lib.hid (HG.out.below' HB3.out); have HD1 := Lib.hid (ex_do a2 c2 Hsl3.out HG3.out); clear hsl2)
    | (go_at_call 31; first
      | ((with_reducible refine HD1.out.mono ?_); rintro e w4 ⟨v4, rfl, h4⟩; obtain ⟨a4, c4, rfl, hsl4, -⟩ := row_sl h4.out.1; obtain ⟨W5, hW5, Hb5, hs5, Hx5⟩ := box_new w4 29 (.slice a4 2 c4); have HA : Hid (FsAt er w w2.heap.size w4.heap.size (.slice a2 2 c2) (.slice a4 2 c4) W5) := ⟨(HB3.out.trans (h4.out.2.mono HB3.out.size)).trans (Hb5.out.mono (Nat.le_trans HB3.out.size h4.out.2.size)), (HG3.out.below' h4.out.2).below' Hb5.out, boxed_below (boxed_below Hx3.out h4.out.2 hs3.out) Hb5.out (Nat.lt_of_lt_of_le hs3.out h4.out.2.size), Hx5.out, ⟨a2, c2, rfl, (Hsl3.out.below h4.out.2).below Hb5.out⟩, ⟨a4, c4, rfl, hsl4.below Hb5.out⟩⟩; clear hsl4 x3 HD1; have x3 := HA.out.box1.cell; have x5 := HA.out.box3.cell; have HD2 := Lib.hid (ex_out a2 c2 HA.out.glob))
      | ((with_reducible refine HD2.out.mono ?_); rintro e w6 ⟨rfl, h6⟩; obtain ⟨W7, hW7, Hb7, hs7, Hx7⟩ := box_new w6 29 (.slice none 0 0); have x7 := Hx7.out.cell; have f7 := Hx7.out.frozen; obtain ⟨V7, hV7⟩ : ∃ V, W7.setCell ⟨w6.heap.size, 0, none⟩ (.slice none 0 0) = V := ⟨_, rfl⟩; have HV := Lib.hid (HA.out.next (hV7 ▸ ((h6.out.trans (Hb7.out.mono h6.out.size)).setCell (p := ⟨w6.heap.size, 0, none⟩) h6.out.size (.slice none 0 0)))); clear HD2 x3 x5; have HO := Lib.hid (ex_of2 V7)))
    | (go_at_call 22; first
      | ((with_reducible refine HO.out.mono ?_); rintro e w8 ⟨v8, rfl, ⟨a8, c8, rfl, -, s8, b8⟩⟩; have H8 := Lib.hid (HV.out.next b8); have S8 := Lib.hid s8; clear HO b8 s8; have HWi := Lib.hid (ex_with w8 a8 c8 S8.out))
      | ((with_reducible refine HO1.out.mono ?_); rintro e w11 ⟨v11, rfl, ⟨a11, c11, rfl, n11, s11, b11⟩⟩; have H11 := Lib.hid (H10.out.next b11); have S10b := Lib.hid (S10.out.below b11); have HAn := Lib.hid (ex_and w11 a11 c11 s11 n11); clear HO1 b11 s11 n11))
    | (go_at_call 23; (with_reducible refine HWi.out.mono ?_); rintro e w9 ⟨v9, rfl, ⟨a9, c9, rfl, -, s9, b9⟩⟩; have H9 := Lib.hid (H8.out.next b9); have HAl := Lib.hid (ex_all w9 a9 c9 _ _ s9); clear HWi b9 s9)
    | (go_at_call 24; (with_reducible refine HAn.out.mono ?_); rintro e w12 ⟨v12, rfl, ⟨a12, c12, rfl, -, s12, b12⟩⟩; have H12 := Lib.hid (H11.out.next b12); have S10c := Lib.hid (S10b.out.below b12); have HAl2 := Lib.hid (ex_all w12 a12 c12 _ _ s12); clear HAn b12 s12)
    | (go_at_call 26; first
      | ((with_reducible refine HAl.out.mono ?_); rintro e w10 ⟨v10, rfl, ⟨a10, c10, rfl, -, s10, b10⟩⟩; have H10 := Lib.hid (H9.out.next b10); have S10 := Lib.hid s10; have HO1 := Lib.hid (ex_of1 w10); clear HAl b10 s10)
      | ((with_reducible refine HAl2.out.mono ?_); rintro e w13 ⟨v13, rfl, ⟨a13, c13, rfl, -, s13, b13⟩⟩; have H13 := Lib.hid (H12.out.next b13); have S13 := Lib.hid s13; have HSa := Lib.hid (ex_same w13 a10 c10 _ _ (S10c.out.below b13)); clear HAl2 b13 s13))
    | (go_at_call 16; first
      | ((with_reducible refine HSa.out.mono ?_); rintro e w14 ⟨rfl, h14⟩; have H14 := Lib.hid (H13.out.next h14.out); have HSb := Lib.hid (ex_same w14 a13 c13 _ _ (S13.out.below h14.out)); clear HSa)
      | ((with_reducible refine HSb.out.mono ?_); rintro e w15 ⟨rfl, h15⟩; have H15 := Lib.hid (H14.out.next h15.out); clear HSb; obtain ⟨a3', c3', e3', s3'⟩ := H15.out.sl3; cases e3'; have HK1 := Lib.hid (ex_keyT w15 a4 c4 s3' H15.out.glob); clear s3'; have q3 := H15.out.box3.cell))
    | (go_at_call 33; first
      | ((with_reducible refine HK1.out.mono ?_); rintro e w16 ⟨rfl, h16⟩; have H16 := Lib.hid (H15.out.next h16.out); clear HK1 q3; obtain ⟨a1', c1', e1', s1'⟩ := H16.out.sl1; cases e1'; have HK2 := Lib.hid (ex_keyS w16 a2 c2 s1' H16.out.glob); clear s1'; have q1 := H16.out.box1.cell)
      | ((with_reducible refine HK2.out.mono ?_); rintro e w17 ⟨rfl, h17⟩; have H17 := Lib.hid (H16.out.next h17.out); clear HK2 q1; have qe := H17.out.glob.eObject)))
  go_ret
  exact ⟨rfl, H17.out.below⟩
end Go.Proofs.YtcjfcomadcebnaaGreatDoor
