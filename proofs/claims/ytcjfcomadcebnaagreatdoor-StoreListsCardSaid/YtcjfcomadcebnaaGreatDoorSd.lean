/- The operations of queues and maps, by contracts. -/
import Derived.Test.YtcjfcomadcebnaaGreatDoorSc
namespace Go.Proofs.YtcjfcomadcebnaaGreatDoor
open Go.RowKit Go.Maps Go.WideMaps Go.WideElems Go.ChangeShapes Go.WideShapes

variable {T : TypeId} {er : Nat → Addr}

set_option maxRecDepth 100000 in
theorem deq_none (k n : Int) (key val : Int) (w : World) (hG : Glob T er w) : OpIs 84 k n [] key val k n [] 2 0 w := by
  have HG := Lib.hid hG
  clear hG
  obtain ⟨L, hL⟩ : ∃ L : List UInt8, L = [] := ⟨_, rfl⟩
  have hLe : L.isEmpty = true := by rw [hL]; rfl
  have HL := Lib.hid hL
  rw [← hL]
  clear hL
  have hB := boxes_new w k n L
  generalize hW : (w.alloc (.cells #[.int .i64 k, .int .i64 n, tv L] 34)).alloc (.cells #[.int .i64 0, .int .i64 0, .string ⟨#[]⟩] 34) = W at hB
  have HB := Lib.hid hB
  obtain ⟨c0, c1, c2, fr⟩ := hB.box
  obtain ⟨d0, d1, d2, fz⟩ := hB.out
  clear hB
  have HGW := Lib.hid (HG.out.below' HB.out.below)
  go_enter Tryz.func84, Tryz.ntmps84
  go_wp2
  exact bodyPost_ret (res84 _ _ (w.heap.size + 1) k n L _ _ HB.out.out.set rfl rfl rfl) rfl ⟨rfl, setSt_below HB.out.below (by omega) _ _ _⟩

set_option maxRecDepth 100000 in
set_option maxHeartbeats 1000000 in
theorem deq_some (k n v : Int) (r : List UInt8) (hv : fits64 v) (hr : r = [] ∨ ∃ x, r = 32 :: x) (hlen : r.length ≤ 1000000000) (key val : Int) (w : World) (hG : Glob T er w) : OpIs 84 k n (32 :: (Lib.itoa v ++ r)) key val k n r 3 v w := by
  have HG := Lib.hid hG
  clear hG
  have hE := iend_item (itoa_32 v) hr
  have hil := itoa_len v hv.1 hv.2
  obtain ⟨L, hL⟩ : ∃ L : List UInt8, L = 32 :: (Lib.itoa v ++ r) := ⟨_, rfl⟩
  rw [← hL] at hE ⊢
  have hLl : L.length = (Lib.itoa v).length + 1 + r.length := by rw [hL]; simp; omega
  have hLe : L.isEmpty = false := by rw [hL]; rfl
  have hie := fun w => itemEnd_any L (by omega) (by omega) w
  rw [hE] at hie
  obtain ⟨E, hEe⟩ : ∃ E, E = (Lib.itoa v).length + 1 := ⟨_, rfl⟩
  have hm : (L.drop 1).take (E - 1) = Lib.itoa v := by rw [hL, hEe]; simp
  have hd : L.drop E = r := by rw [hL, hEe]; simp
  have hs1 : ∀ w, (Instr.slice 9 (tv L) (some (.int .i64 1)) (some (.int .i64 (E : Int))) none).run Tryz.prog w = .ok (tv (Lib.itoa v)) w := fun w => by rw [← hm]; exact str_mid L 1 E (by omega) (by omega) w
  have hs2 : ∀ w, (Instr.slice 9 (tv L) (some (.int .i64 (E : Int))) none none).run Tryz.prog w = .ok (tv r) w := fun w => by
    have := str_from L E (by omega) w
    rw [hd] at this; exact this
  rw [← hEe] at hie
  have hEl : E ≤ L.length := by omega
  have hE1 : 1 ≤ E := by omega
  have Hie := Lib.hid hie
  have Ht := Lib.hid (fun W => told_itoa v hv.1 hv.2 W)
  generalize Lib.itoa v = x at *
  have Hr := Lib.hid hr
  clear hie hE hm hd hL hr hEe
  have hB := boxes_new w k n L
  generalize hW : (w.alloc (.cells #[.int .i64 k, .int .i64 n, tv L] 34)).alloc (.cells #[.int .i64 0, .int .i64 0, .string ⟨#[]⟩] 34) = W at hB
  have HB := Lib.hid hB
  obtain ⟨c0, c1, c2, fr⟩ := hB.box
  obtain ⟨d0, d1, d2, fz⟩ := hB.out
  clear hB
  have HGW := Lib.hid (HG.out.below' HB.out.below)
  go_enter Tryz.func84, Tryz.ntmps84
  go_wp2_with (first
    | (go_at_call 105; refine (Hie.out _).mono ?_; rintro e w' ⟨rfl, rfl⟩)
    | (go_at_call 106; refine (Ht.out _).mono ?_; rintro e w2 ⟨rfl, hb2⟩; have H2 : Hid (Boxes w w2 k n L) := ⟨HB.out.below.trans (hb2.out.mono HB.out.below.size), HB.out.box.below' hb2.out, HB.out.out.below' hb2.out⟩; clear hb2 c0 c1 c2 fr d0 d1 d2 fz; obtain ⟨c0, c1, c2, fr⟩ := H2.out.box; obtain ⟨d0, d1, d2, fz⟩ := H2.out.out))
  exact bodyPost_ret (res84 _ _ (w.heap.size + 1) k n r _ _ (H2.out.out.far (by omega) _).set rfl rfl rfl) rfl ⟨rfl, setSt_below (H2.out.below.setCell (p := ⟨w.heap.size, 2, none⟩) (Nat.le_refl _) _) (by omega) _ _ _⟩

theorem put_text (key val : Int) (l : List (Int × Int)) : mtext (mput key val l) = mtext (spl key l).1 ++ (32 :: (Lib.itoa key ++ 58 :: (Lib.itoa val ++ mtext (spl key l).2.2))) := by
  rw [mput_spl, mtext_app]
  simp [mtext, item]
theorem spl_len (k : Int) : ∀ l : List (Int × Int), (mtext (spl k l).1).length + (mtext (spl k l).2.2).length ≤ (mtext l).length
  | [] => by simp [spl, mtext]
  | (a, v) :: t => by
    have := spl_len k t
    unfold spl
    split
    · simp [mtext]; omega
    · split
      · simp [mtext]; omega
      · simp [mtext]

set_option maxRecDepth 100000 in
set_option maxHeartbeats 1000000 in
theorem put_op (k n : Int) (l : List (Int × Int)) (hl : KvFit l) (hm : (mtext l).length ≤ 1000000000) (key val : Int) (hk : fits64 key) (hv : fits64 val) (w : World) (hG : Glob T er w) : OpIs 86 k n (mtext l) key val k n (mtext (mput key val l)) 1 0 w := by
  have HG := Lib.hid hG
  clear hG
  have Hs := Lib.hid (fun W (h : Glob T er W) => split_any l hl hm key W h)
  have Hp1 := Lib.hid (fun W (h : Glob T er W) => print_any key hk.1 hk.2 W h)
  have Hp2 := Lib.hid (fun W (h : Glob T er W) => print_any val hv.1 hv.2 W h)
  have hsl := spl_len key l
  have hi1 := itoa_len key hk.1 hk.2
  have hi2 := itoa_len val hv.1 hv.2
  have ht := put_text key val l
  unfold splitV at Hs
  generalize mtext (spl key l).1 = X at *
  generalize mtext (spl key l).2.2 = Z at *
  generalize ownT key (spl key l).2.1 = Y at *
  generalize mtext (mput key val l) = R at *
  obtain ⟨L, hL⟩ : ∃ L : List UInt8, L = mtext l := ⟨_, rfl⟩
  rw [← hL] at Hs hm hsl ⊢
  have hcat : ((((((⟨X.toArray⟩ : ByteArray) ++ ⟨#[32]⟩) ++ ⟨(Lib.itoa key).toArray⟩) ++ ⟨#[58]⟩) ++ ⟨(Lib.itoa val).toArray⟩) ++ ⟨Z.toArray⟩) = ⟨R.toArray⟩ := by
    rw [show (⟨#[32]⟩ : ByteArray) = ⟨[32].toArray⟩ from rfl, show (⟨#[58]⟩ : ByteArray) = ⟨[58].toArray⟩ from rfl, cat_tv, cat_tv, cat_tv, cat_tv, cat_tv, ht]
    simp
  generalize Lib.itoa key = x1 at *
  generalize Lib.itoa val = x2 at *
  clear hL ht hl
  have hB := boxes_new w k n L
  generalize hW : (w.alloc (.cells #[.int .i64 k, .int .i64 n, tv L] 34)).alloc (.cells #[.int .i64 0, .int .i64 0, .string ⟨#[]⟩] 34) = W at hB
  have HB := Lib.hid hB
  obtain ⟨c0, c1, c2, fr⟩ := hB.box
  obtain ⟨d0, d1, d2, fz⟩ := hB.out
  clear hB
  have HGW := Lib.hid (HG.out.below' HB.out.below)
  go_enter Tryz.func86, Tryz.ntmps86
  go_wp2_with (first
    | (go_at_call 107; refine (Hs.out _ HGW.out).mono ?_; rintro e w2 ⟨rfl, hb2⟩; have HG2 := Lib.hid (HGW.out.below' hb2.out); have H2 : Hid (Boxes w w2 k n L) := ⟨HB.out.below.trans (hb2.out.mono HB.out.below.size), HB.out.box.below' hb2.out, HB.out.out.below' hb2.out⟩; clear hb2 c0 c1 c2 fr d0 d1 d2 fz; obtain ⟨c0, c1, c2, fr⟩ := H2.out.box; obtain ⟨d0, d1, d2, fz⟩ := H2.out.out)
    | (go_at_call 40; first | (refine (Hp1.out _ HG2.out).mono ?_; rintro e w3 ⟨rfl, hb3⟩; clear Hp1; have HG3 := Lib.hid (HG2.out.below' hb3.out); have H3 : Hid (Boxes w w3 k n L) := ⟨H2.out.below.trans (hb3.out.mono H2.out.below.size), H2.out.box.below' hb3.out, H2.out.out.below' hb3.out⟩; clear hb3 c0 c1 c2 fr d0 d1 d2 fz; obtain ⟨c0, c1, c2, fr⟩ := H3.out.box; obtain ⟨d0, d1, d2, fz⟩ := H3.out.out) | (refine (Hp2.out _ HG3.out).mono ?_; rintro e w4 ⟨rfl, hb4⟩; clear Hp2; have H4 : Hid (Boxes w w4 k n L) := ⟨H3.out.below.trans (hb4.out.mono H3.out.below.size), H3.out.box.below' hb4.out, H3.out.out.below' hb4.out⟩; clear hb4 c0 c1 c2 fr d0 d1 d2 fz; obtain ⟨c0, c1, c2, fr⟩ := H4.out.box; obtain ⟨d0, d1, d2, fz⟩ := H4.out.out)))
  exact bodyPost_ret (res86 _ _ (w.heap.size + 1) k n R _ _ (H4.out.out.far (by omega) _).set rfl rfl rfl) rfl ⟨rfl, setSt_below (H4.out.below.setCell (p := ⟨w.heap.size, 2, none⟩) (Nat.le_refl _) _) (by omega) _ _ _⟩

/-- What look answers. -/
def lookR (key : Int) (l : List (Int × Int)) : Int × Int := match mget key l with | none => (2, 0) | some v => (3, v)
theorem mget_mem {k v : Int} : ∀ {l : List (Int × Int)}, mget k l = some v → (k, v) ∈ l
  | [], h => by cases h
  | (a, x) :: t, h => by
    unfold mget at h
    split at h
    · have := mget_mem h; simp [this]
    · split at h
      · rename_i h2; cases h; subst h2; simp
      · cases h

set_option maxRecDepth 100000 in
set_option maxHeartbeats 1000000 in
theorem look_op (k n : Int) (l : List (Int × Int)) (hl : KvFit l) (hm : (mtext l).length ≤ 1000000000) (key val : Int) (w : World) (hG : Glob T er w) : OpIs 87 k n (mtext l) key val k n (mtext l) (lookR key l).1 (lookR key l).2 w := by
  have HG := Lib.hid hG
  clear hG
  have Hs := Lib.hid (fun W (h : Glob T er W) => split_any l hl hm key W h)
  unfold splitV at Hs
  obtain ⟨L, hL⟩ : ∃ L : List UInt8, L = mtext l := ⟨_, rfl⟩
  rw [← hL] at Hs hm ⊢
  unfold lookR
  cases hg : mget key l with
  | none =>
    have ho : (spl key l).2.1 = none := by rw [← mget_spl]; exact hg
    rw [ho] at Hs
    generalize mtext (spl key l).1 = X at *
    generalize mtext (spl key l).2.2 = Z at *
    obtain ⟨Y, hY⟩ : ∃ Y : List UInt8, Y = ownT key none := ⟨_, rfl⟩
    rw [← hY] at Hs
    have hYe : Y.isEmpty = true := by rw [hY]; rfl
    clear hL hl hg ho hY
    show OpIs 87 k n L key val k n L 2 0 w
    have hB := boxes_new w k n L
    generalize hW : (w.alloc (.cells #[.int .i64 k, .int .i64 n, tv L] 34)).alloc (.cells #[.int .i64 0, .int .i64 0, .string ⟨#[]⟩] 34) = W at hB
    have HB := Lib.hid hB
    obtain ⟨c0, c1, c2, fr⟩ := hB.box
    obtain ⟨d0, d1, d2, fz⟩ := hB.out
    clear hB
    have HGW := Lib.hid (HG.out.below' HB.out.below)
    go_enter Tryz.func87, Tryz.ntmps87
    go_wp2_with (first
      | (go_at_call 107; refine (Hs.out _ HGW.out).mono ?_; rintro e w2 ⟨rfl, hb2⟩; have HG2 := Lib.hid (HGW.out.below' hb2.out); have H2 : Hid (Boxes w w2 k n L) := ⟨HB.out.below.trans (hb2.out.mono HB.out.below.size), HB.out.box.below' hb2.out, HB.out.out.below' hb2.out⟩; clear hb2 c0 c1 c2 fr d0 d1 d2 fz; obtain ⟨c0, c1, c2, fr⟩ := H2.out.box; obtain ⟨d0, d1, d2, fz⟩ := H2.out.out))
    exact bodyPost_ret (res87 _ _ (w.heap.size + 1) k n L _ _ H2.out.out.set rfl rfl rfl) rfl ⟨rfl, setSt_below H2.out.below (by omega) _ _ _⟩
  | some v =>
    have ho : (spl key l).2.1 = some v := by rw [← mget_spl]; exact hg
    rw [ho] at Hs
    generalize mtext (spl key l).1 = X at *
    generalize mtext (spl key l).2.2 = Z at *
    have hf := hl _ (mget_mem hg)
    have Hp := Lib.hid (fun W (h : Glob T er W) => pair_any (key, v) hf.1 hf.2 W h)
    obtain ⟨Y, hY⟩ : ∃ Y : List UInt8, Y = 32 :: item (key, v) := ⟨_, rfl⟩
    rw [← hY] at Hp
    rw [show ownT key (some v) = Y from hY.symm] at Hs
    have hYe : Y.isEmpty = false := by rw [hY]; rfl
    clear hL hl hg ho hY hf
    show OpIs 87 k n L key val k n L 3 v w
    have hB := boxes_new w k n L
    generalize hW : (w.alloc (.cells #[.int .i64 k, .int .i64 n, tv L] 34)).alloc (.cells #[.int .i64 0, .int .i64 0, .string ⟨#[]⟩] 34) = W at hB
    have HB := Lib.hid hB
    obtain ⟨c0, c1, c2, fr⟩ := hB.box
    obtain ⟨d0, d1, d2, fz⟩ := hB.out
    clear hB
    have HGW := Lib.hid (HG.out.below' HB.out.below)
    go_enter Tryz.func87, Tryz.ntmps87
    go_wp2_with (first
      | (go_at_call 107; refine (Hs.out _ HGW.out).mono ?_; rintro e w2 ⟨rfl, hb2⟩; have HG2 := Lib.hid (HGW.out.below' hb2.out); have H2 : Hid (Boxes w w2 k n L) := ⟨HB.out.below.trans (hb2.out.mono HB.out.below.size), HB.out.box.below' hb2.out, HB.out.out.below' hb2.out⟩; clear hb2 c0 c1 c2 fr d0 d1 d2 fz; obtain ⟨c0, c1, c2, fr⟩ := H2.out.box; obtain ⟨d0, d1, d2, fz⟩ := H2.out.out)
      | (go_at_call 108; refine (Hp.out _ HG2.out).mono ?_; rintro e w3 ⟨rfl, hb3⟩; have H3 : Hid (Boxes w w3 k n L) := ⟨H2.out.below.trans (hb3.out.mono H2.out.below.size), H2.out.box.below' hb3.out, H2.out.out.below' hb3.out⟩; clear hb3 c0 c1 c2 fr d0 d1 d2 fz; obtain ⟨c0, c1, c2, fr⟩ := H3.out.box; obtain ⟨d0, d1, d2, fz⟩ := H3.out.out))
    exact bodyPost_ret (res87 _ _ (w.heap.size + 1) k n L _ _ H3.out.out.set rfl rfl rfl) rfl ⟨rfl, setSt_below H3.out.below (by omega) _ _ _⟩

theorem del_text (key : Int) (l : List (Int × Int)) : mtext (mdel key l) = mtext (spl key l).1 ++ mtext (spl key l).2.2 := by rw [mdel_spl, mtext_app]

set_option maxRecDepth 100000 in
set_option maxHeartbeats 1000000 in
theorem del_op (k n : Int) (l : List (Int × Int)) (hl : KvFit l) (hm : (mtext l).length ≤ 1000000000) (key val : Int) (w : World) (hG : Glob T er w) : OpIs 88 k n (mtext l) key val k n (mtext (mdel key l)) (lookR key l).1 (lookR key l).2 w := by
  have HG := Lib.hid hG
  clear hG
  have Hs := Lib.hid (fun W (h : Glob T er W) => split_any l hl hm key W h)
  have Hl := Lib.hid (fun W (h : Glob T er W) => look_op k n l hl hm key 0 W h)
  have hsl := spl_len key l
  have ht := del_text key l
  unfold splitV at Hs
  unfold OpIs at Hl
  generalize mtext (spl key l).1 = X at *
  generalize mtext (spl key l).2.2 = Z at *
  generalize ownT key (spl key l).2.1 = Y at *
  generalize mtext (mdel key l) = R at *
  generalize (lookR key l).1 = r at *
  generalize (lookR key l).2 = g at *
  obtain ⟨L, hL⟩ : ∃ L : List UInt8, L = mtext l := ⟨_, rfl⟩
  rw [← hL] at Hs Hl hm hsl ⊢
  have hcat : (⟨X.toArray⟩ : ByteArray) ++ ⟨Z.toArray⟩ = ⟨R.toArray⟩ := by rw [cat_tv, ht]
  clear hL ht hl
  have hB := boxes_new w k n L
  generalize hW : (w.alloc (.cells #[.int .i64 k, .int .i64 n, tv L] 34)).alloc (.cells #[.int .i64 0, .int .i64 0, .string ⟨#[]⟩] 34) = W at hB
  have HB := Lib.hid hB
  obtain ⟨c0, c1, c2, fr⟩ := hB.box
  obtain ⟨d0, d1, d2, fz⟩ := hB.out
  clear hB
  have HGW := Lib.hid (HG.out.below' HB.out.below)
  go_enter Tryz.func88, Tryz.ntmps88
  go_wp2_with (first
    | (go_at_call 87; refine (Hl.out _ HGW.out).mono ?_; rintro e w2 ⟨rfl, hb2⟩; have HG2 := Lib.hid (HGW.out.below' hb2.out); have H2 : Hid (Boxes w w2 k n L) := ⟨HB.out.below.trans (hb2.out.mono HB.out.below.size), HB.out.box.below' hb2.out, HB.out.out.below' hb2.out⟩; clear hb2 c0 c1 c2 fr d0 d1 d2 fz; obtain ⟨c0, c1, c2, fr⟩ := H2.out.box; obtain ⟨d0, d1, d2, fz⟩ := H2.out.out; have hal : Hid (Below w2.heap.size w2 (w2.alloc (.cells #[.int .i64 k, .int .i64 n, tv L] 34))) := (Below.refl _ _).alloc (Nat.le_refl _) _; have HG2a := Lib.hid (HG2.out.below' hal.out); have H2a : Hid (Boxes w (w2.alloc (.cells #[.int .i64 k, .int .i64 n, tv L] 34)) k n L) := ⟨H2.out.below.trans (hal.out.mono H2.out.below.size), H2.out.box.below' hal.out, H2.out.out.below' hal.out⟩; clear c0 c1 c2 fr d0 d1 d2 fz; obtain ⟨c0, c1, c2, fr⟩ := H2a.out.box; obtain ⟨d0, d1, d2, fz⟩ := H2a.out.out)
    | (go_at_call 107; refine (Hs.out _ HG2a.out).mono ?_; rintro e w3 ⟨rfl, hb3⟩; have H3 : Hid (Boxes w w3 k n L) := ⟨H2a.out.below.trans (hb3.out.mono H2a.out.below.size), H2a.out.box.below' hb3.out, H2a.out.out.below' hb3.out⟩; clear hb3 c0 c1 c2 fr d0 d1 d2 fz; obtain ⟨c0, c1, c2, fr⟩ := H3.out.box; obtain ⟨d0, d1, d2, fz⟩ := H3.out.out))
  exact bodyPost_ret (res88 _ _ (w.heap.size + 1) k n R _ _ (H3.out.out.far (by omega) _).set rfl rfl rfl) rfl ⟨rfl, setSt_below (H3.out.below.setCell (p := ⟨w.heap.size, 2, none⟩) (Nat.le_refl _) _) (by omega) _ _ _⟩
end Go.Proofs.YtcjfcomadcebnaaGreatDoor
