/- The walk of the statement on a queue's line. -/
import Derived.Test.YtgnpcbpbmalgiaaDoorFi
import Derived.Deep.RegionHeld3
namespace Go.Proofs.YtgnpcbpbmalgiaaDoor
open Go.RowKit Go.Maps Go.WideMaps Go.WideElems Go.ChangeShapes Go.WideShapes

variable {er : Nat → Addr}

/-- Whole numbers that lie. -/
def IAt (W : World) (a : Option Addr) (l : List Int) : Prop := l = [] ∨ ∃ b off, a = some ⟨b, off, none⟩ ∧ b < W.heap.size ∧ ∀ i, i < l.length → W.cell? ⟨b, off + i, none⟩ = some (.int .i64 (l[i]?.getD 0))
theorem IAt.below {W W' : World} {a : Option Addr} {l : List Int} (h : IAt W a l) (hb : Below W.heap.size W W') : IAt W' a l := by
  rcases h with h | ⟨b, off, e, hl, h⟩
  · exact .inl h
  · exact .inr ⟨b, off, e, Nat.lt_of_lt_of_le hl hb.size, fun i hi => (hb.cell (p := ⟨b, off + i, none⟩) hl).trans (h i hi)⟩
theorem qcount : ∀ l : List Int, (qtext l).count 32 = l.length
  | [] => rfl
  | v :: t => by
    have h0 : (Lib.itoa v).count 32 = 0 := List.count_eq_zero.2 (itoa_32 v)
    rw [qtext, List.count_cons, List.count_append, h0, qcount t]
    simp
/-- A queue. -/
abbrev qu (l : List Int) : PS := ⟨3, 0, l, []⟩
theorem qu_text (l : List Int) : (qu l).text = qtext l := by simp [PS.text, mtext]
theorem qu_ok {l : List Int} {b : Nat} (h : ∀ v ∈ l, near v 1000000000) (hb : l.length ≤ b) : (qu l).Ok b :=
  ⟨show 1 ≤ (3 : Int) ∧ (3 : Int) ≤ 4 by decide, fun e => absurd e (show ¬ (3 : Int) = 1 by decide), fun e => absurd e (show ¬ (3 : Int) = 2 by decide), fun _ => rfl, fun e => absurd rfl e, fun _ => rfl, h, fun p hp => absurd hp (List.not_mem_nil), List.Pairwise.nil, hb⟩
theorem enq_line {l : List Int} {v : Int} (hl : ∀ v ∈ l, near v 1000000000) (hb : l.length ≤ 300) (hv : near v 1000000000) (W : World) (hG : Glob 129 er W) :
    DoIs 3 0 (qtext l) 5 0 v (.tuple #[stv 3 0 (qtext (l ++ [v])), .int .i64 1, .int .i64 0, .nilIface]) W := by
  have h := do_any (qu l) 300 (by decide) (qu_ok hl hb) 5 0 v (by unfold fits64; decide) (near_fits hv (by decide)) W hG
  have hf : fitsB 5 0 v = true := by
    unfold fitsB
    rw [decide_eq_true hv]
    simp [keyedZ, valuedZ]
  have e : doR (qu l) 5 0 v = .ok (qu (l ++ [v]), 1, 0) := by
    unfold doR
    rw [if_neg (show ¬ ofZ 5 ≠ (3 : Int) by decide), hf, if_neg (by decide), if_neg (fun h => absurd h.1 (show ¬ (3 : Int) = 2 by decide)), if_neg (by decide), if_neg (by decide), if_neg (by decide), if_pos rfl]
  rw [e, qu_text] at h
  change DoIs 3 0 _ 5 0 v (.tuple #[stv 3 0 (qu (l ++ [v])).text, .int .i64 1, .int .i64 0, .nilIface]) W at h
  rw [qu_text] at h
  exact h

theorem deq_line0 (W : World) (hG : Glob 129 er W) : DoIs 3 0 (qtext []) 6 0 0 (.tuple #[stv 3 0 (qtext []), .int .i64 2, .int .i64 0, .nilIface]) W :=
  do_any (qu []) 300 (by decide) (qu_ok (by simp) (by simp)) 6 0 0 (by unfold fits64; decide) (by unfold fits64; decide) W hG
theorem deq_line {l : List Int} {v : Int} (hl : ∀ x ∈ v :: l, near x 1000000000) (hb : (v :: l).length ≤ 300) (W : World) (hG : Glob 129 er W) :
    DoIs 3 0 (qtext (v :: l)) 6 0 0 (.tuple #[stv 3 0 (qtext l), .int .i64 3, .int .i64 v, .nilIface]) W := by
  have h := do_any (qu (v :: l)) 300 (by decide) (qu_ok hl hb) 6 0 0 (by unfold fits64; decide) (by unfold fits64; decide) W hG
  have e : doR (qu (v :: l)) 6 0 0 = .ok (qu l, 3, v) := rfl
  rw [e, qu_text] at h
  change DoIs 3 0 _ 6 0 0 (.tuple #[stv 3 0 (qu l).text, .int .i64 3, .int .i64 v, .nilIface]) W at h
  rw [qu_text] at h
  exact h
theorem len_line (l : List Int) (W : World) : Calls Tryd.prog 11 #[stv 3 0 (qtext l)] W fun e w' => e = .returned (.int .i64 ((l.length : Nat) : Int)) ∧ Hid (Below W.heap.size W w') := by
  have h := len_any 3 0 (qtext l) W
  have e : lenL 3 (qtext l) = ((l.length : Nat) : Int) := by unfold lenL; rw [if_neg (by decide), qcount]
  rw [e] at h
  exact h
/-- A state's box is made ahead of a call. -/
theorem below_alloc_first (W V : World) (q : Unit) (h : Below (W.alloc (.cells #[.int .i64 0, .int .i64 0, .string ⟨#[]⟩] 27)).drew.heap.size (W.alloc (.cells #[.int .i64 0, .int .i64 0, .string ⟨#[]⟩] 27)).drew V) : Below W.heap.size W V ∧ StAt V W.heap.size 0 0 [] := by
  have h1 : Below W.heap.size W (W.alloc (.cells #[.int .i64 0, .int .i64 0, .string ⟨#[]⟩] 27)) := (Below.refl _ _).alloc (Nat.le_refl _) _
  exact ⟨(below_drew h1).trans (h.mono h1.size), (stAt_new W 0 0 []).drew.below' h⟩

/-- A state lies in a box that has been made since. -/
structure TwoAt (W V : World) (Y : Nat) (k n : Int) (L : List UInt8) : Prop where
  below : Below W.heap.size W V
  new : W.heap.size ≤ Y
  lies : StAt V Y k n L
theorem twoA {W w4 : World} (h : Below W.heap.size W w4) (k n : Int) (L : List UInt8) : TwoAt W (w4.alloc (.cells #[.int .i64 k, .int .i64 n, tv L] 27)) w4.heap.size k n L :=
  ⟨h.alloc h.size _, h.size, stAt_new w4 k n L⟩
theorem twoB {W w4 : World} (h : Below W.heap.size W w4 ∧ StAt w4 W.heap.size 0 0 []) (k n : Int) (L : List UInt8) : TwoAt W (World.setSt w4 W.heap.size k n L) W.heap.size k n L :=
  ⟨setSt_below h.1 (Nat.le_refl _) k n L, Nat.le_refl _, h.2.set⟩

set_option maxRecDepth 100000 in
set_option maxHeartbeats 4000000 in
theorem line_any (a : Option Addr) (c : Nat) (zs : List Int) (w : World) (hG : Glob 129 er w) (hI : IAt w a zs) :
    Calls Tryd.prog 4 #[.slice a zs.length c] w fun e w' => e = .returned (.bool true) ∧ Hid (Below w.heap.size w w') := by
  have Hf := Lib.hid (first_any w hG)
  have HG := Lib.hid hG
  have HI := Lib.hid hI
  by_cases hbig : 300 < zs.length
  · have hd : decide ((300 : Int) < (zs.length : Int)) = true := by simp; omega
    clear hG hI hbig
    go_enter Tryd.func4, Tryd.ntmps4
    go_wp2_with (first | (go_at_call 7; refine Hf.out.mono ?_; rintro e w1 ⟨rfl, hb1⟩))
    go_ret
    exact ⟨rfl, hb1.out⟩
  have hd : decide ((300 : Int) < (zs.length : Int)) = false := by simp; omega
  have hnew : ∀ W, Glob 129 er W → Calls Tryd.prog 8 #[.agg #[.int .i64 3, .int .i64 0]] W fun e w' => e = .returned (.tuple #[stv 3 0 [], .nilIface]) ∧ Hid (Below W.heap.size W w') := fun W h => new_any 3 0 W h
  have Hn := Lib.hid hnew
  have h300 : zs.length ≤ 300 := by omega
  have Hlen := Lib.hid (fun l W => len_line l W)
  clear hG hI hbig hnew
  go_enter Tryd.func4, Tryd.ntmps4
  go_wp2_with (first
    | (go_at_call 7; refine Hf.out.mono ?_; rintro e w1 ⟨rfl, hb1⟩; have H1 := Lib.hid (HG.out.below' hb1.out))
    | (go_at_call 8; refine (Hn.out _ H1.out).mono ?_; rintro e w2 ⟨rfl, hb2⟩))
  have hA : Hid (Below w.heap.size w (w2.alloc (.cells #[.int .i64 3, .int .i64 0, tv []] 27)) ∧ StAt (w2.alloc (.cells #[.int .i64 3, .int .i64 0, tv []] 27)) w2.heap.size 3 0 []) := by
    have h := hb1.out.trans (hb2.out.mono hb1.out.size)
    exact ⟨h.alloc h.size _, stAt_new w2 3 0 []⟩
  have Hwz : Hid (w.heap.size ≤ w2.heap.size) := (hb1.out.trans (hb2.out.mono hb1.out.size)).size
  generalize hZ : w2.heap.size = Z at *
  clear hZ
  go_loopw [6] (fun i wr => ∃ k : Nat, k ≤ zs.length ∧ i = .int .i64 k ∧ Hid (StAt wr Z 3 0 (qtext (zs.take k)) ∧ Below w.heap.size w wr ∧ ∀ v ∈ zs.take k, near v 1000000000)) (fun i _ => zs.length - (intOf i).toNat)
  case atStart => exact ⟨0, Nat.zero_le _, rfl, hA.out.2, hA.out.1, by simp⟩
  case round =>
    obtain ⟨k, hk, rfl, HR⟩ := hrel
    clear hA hb1 hb2 H1 Hn Hf
    by_cases hlt : k < zs.length
    · obtain ⟨hst, hbw, hnr⟩ := HR.out
      have hI := HI.out.below hbw
      rcases hI with hz | ⟨b, off, rfl, hbl, hc⟩
      · rw [hz] at hlt; exact absurd hlt (by simp)
      have ck := hc k hlt
      have htk : zs.take (k + 1) = zs.take k ++ [zs[k]?.getD 0] := by rw [List.take_add_one]; simp [hlt]
      have hx : near (zs[k]?.getD 0) 1000000000 ∨ zs[k]?.getD 0 < -1000000000 ∨ 1000000000 < zs[k]?.getD 0 := by unfold near; omega
      have Htk := Lib.hid htk
      have Hnr := Lib.hid hnr
      have hll : (zs.take k).length = k := by rw [List.length_take]; omega
      generalize zs[k]?.getD 0 = x at *
      generalize zs.take k = P at *
      have HZl := Lib.hid hst.lt
      obtain ⟨c0, c1, c2, cz⟩ := hst
      have HGr := Lib.hid (HG.out.below' hbw)
      clear hc HI htk hnr
      rcases hx with hx | hx | hx
      · have hx2 := hx
        unfold near at hx2
        have n1 : decide (x < -1000000000) = false := by simp; omega
        have n2 : decide (x > 1000000000) = false := by simp; omega
        have hd := enq_line (er := er) Hnr.out (by omega) hx
        unfold DoIs at hd
        have Hd := Lib.hid hd
        have Hx := Lib.hid hx
        clear hd hx hx2
        go_wp2
        go_region_held3 (fun w' => w'.cell? ⟨b, off + k, none⟩ = some (.int .i64 x) ∧ w'.cell? ⟨Z, 0, none⟩ = some (.int .i64 3) ∧ w'.cell? ⟨Z, 1, none⟩ = some (.int .i64 0) ∧ w'.cell? ⟨Z, 2, none⟩ = some (tv (qtext P))) (first | go_keep | exact kp)
          (first
            | (go_at_call 12; refine (Hd.out _ HGr.out.drew).mono ?_; rintro e w4 ⟨rfl, hb4⟩; have Hb4 : Hid (Below wr.heap.size wr w4) := (below_drew (Below.refl _ wr)).trans hb4.out; have hst4 : StAt w4 Z 3 0 (qtext P) := (HR.out.1).below' Hb4.out; have ck4 := (Hb4.out.cell (p := ⟨b, off + k, none⟩) hbl).trans ck; obtain ⟨z0, z1, z2, zz⟩ := hst4)
            | (go_at_call 12; refine (Hd.out _ ((HGr.out.below' ((Below.refl _ _).alloc (Nat.le_refl _) _)).drew)).mono ?_; rintro e w4 ⟨rfl, hb4⟩; have Hb5 := Lib.hid (below_alloc_first wr w4 () hb4.out); have hst4 : StAt w4 Z 3 0 (qtext P) := (HR.out.1).below' Hb5.out.1; have ck4 := (Hb5.out.1.cell (p := ⟨b, off + k, none⟩) hbl).trans ck; obtain ⟨z0, z1, z2, zz⟩ := hst4; have kp := And.intro ((setSt_far w4 wr.heap.size 3 0 (qtext (P ++ [x])) b (off + k) (Nat.ne_of_gt hbl)).trans ck4) (And.intro ((setSt_far w4 wr.heap.size 3 0 (qtext (P ++ [x])) Z 0 (Nat.ne_of_gt HZl.out)).trans z0) (And.intro ((setSt_far w4 wr.heap.size 3 0 (qtext (P ++ [x])) Z 1 (Nat.ne_of_gt HZl.out)).trans z1) ((setSt_far w4 wr.heap.size 3 0 (qtext (P ++ [x])) Z 2 (Nat.ne_of_gt HZl.out)).trans z2))); have hy4 := Hb5.out.2; obtain ⟨y0, y1, y2, yz⟩ := hy4))
        all_goals
          first
            | (obtain ⟨V, hV⟩ : ∃ V, V = w4.alloc (.cells #[.int .i64 3, .int .i64 0, tv (qtext (P ++ [x]))] 27) := ⟨_, rfl⟩
               rw [← hV]
               have HT : Hid (TwoAt wr V w4.heap.size 3 0 (qtext (P ++ [x]))) := by show TwoAt _ _ _ _ _ _; rw [hV]; exact twoA Hb4.out 3 0 _
               generalize w4.heap.size = Y at HT ⊢)
            | (obtain ⟨V, hV⟩ : ∃ V, V = ((w4.setCell ⟨wr.heap.size, 0, none⟩ (.int .i64 3)).setCell ⟨wr.heap.size, 1, none⟩ (.int .i64 0)).setCell ⟨wr.heap.size, 2, none⟩ (tv (qtext (P ++ [x]))) := ⟨_, rfl⟩
               rw [← hV]
               have HT : Hid (TwoAt wr V wr.heap.size 3 0 (qtext (P ++ [x]))) := by show TwoAt _ _ _ _ _ _; rw [hV]; exact twoB Hb5.out 3 0 _
               generalize wr.heap.size = Y at HT ⊢)
          clear hV
          have HV := Lib.hid (hbw.trans (HT.out.below.mono hbw.size))
          have HZV := Lib.hid ((HR.out.1).below' HT.out.below)
          have HGV := Lib.hid (HG.out.below' HV.out)
          have HYZ : Hid (Y ≠ Z) := by have h1 := HT.out.new; have h2 := HZl.out; show Y ≠ Z; omega
          try clear z0 z1 z2 zz
          try clear y0 y1 y2 yz
          try clear kp
          try clear ck4
          clear c0 c1 c2 cz ck
          obtain ⟨y0, y1, y2, yz⟩ := HT.out.lies
          have Hl := Lib.hid (fun W => Hlen.out (P ++ [x]) W)
          rw [show (((P ++ [x]).length : Nat) : Int) = (k : Int) + 1 by simp [hll]] at Hl
          go_wp2_with (first | (go_at_call 11; refine (Hl.out _).mono ?_; rintro e w6 ⟨rfl, hb6⟩; have HZ6 := Lib.hid (HZV.out.below' hb6.out); have HT6 := Lib.hid (HT.out.lies.below' hb6.out); have Hb6 := Lib.hid hb6.out; clear y0 y1 y2 yz hb6; obtain ⟨y0, y1, y2, yz⟩ := HT6.out; obtain ⟨z0, z1, z2, zz⟩ := HZ6.out))
          go_roundw
          case rel => exact ⟨k + 1, by omega, by go_num, by rw [Htk.out]; exact HZ6.out.set, setSt_below (HV.out.trans (Hb6.out.mono HV.out.size)) (Nat.le_trans Hwz.out (Nat.le_refl _)) 3 0 _, fun v hv => by
            rw [Htk.out] at hv
            rcases List.mem_append.1 hv with hv | hv
            · exact Hnr.out v hv
            · simp at hv; subst hv; exact Hx.out⟩
          case measure => simp [intOf]; omega
      · have n1 : decide (x < -1000000000) = true := by simpa using hx
        clear hx
        go_wp2
        go_ret
        exact ⟨rfl, hbw⟩
      · have n1 : decide (x < -1000000000) = false := by simp; omega
        have n2 : decide (x > 1000000000) = true := by simpa using hx
        clear hx
        go_wp2
        go_ret
        exact ⟨rfl, hbw⟩
    · have hke : k = zs.length := by omega
      subst hke
      rw [List.take_length] at HR
      have Hnr := Lib.hid HR.out.2.2
      go_wp2
      go_loopw [11] (fun i wr => ∃ k : Nat, k ≤ zs.length + 1 ∧ i = .int .i64 k ∧ Hid (StAt wr Z 3 0 (qtext (zs.drop k)) ∧ Below w.heap.size w wr)) (fun i _ => zs.length + 1 - (intOf i).toNat)
      case atStart => exact ⟨0, Nat.zero_le _, rfl, HR.out.1, HR.out.2.1⟩
      case round =>
        obtain ⟨k, hk, rfl, HS⟩ := hrel
        clear HR
        obtain ⟨hst, hbw⟩ := HS.out
        have HGr := Lib.hid (HG.out.below' hbw)
        have HZl := Lib.hid hst.lt
        by_cases hend : k = zs.length + 1
        · subst hend
          have hdz : zs.drop (zs.length + 1) = [] := List.drop_eq_nil_of_le (by omega)
          rw [hdz] at hst
          obtain ⟨c0, c1, c2, cz⟩ := hst
          have Hl := Lib.hid (fun W => Hlen.out [] W)
          rw [show ((([] : List Int).length : Nat) : Int) = 0 from rfl] at Hl
          have hc2 : wr.cell? ⟨Z, 2, none⟩ = some (tv (qtext [])) := c2
          clear c2 hdz
          go_wp2_with (first | (go_at_call 11; refine (Hl.out _).mono ?_; rintro e w6 ⟨rfl, hb6⟩))
          go_ret
          exact ⟨rfl, hbw.trans (hb6.out.mono hbw.size)⟩
        by_cases hkn : k = zs.length
        · subst hkn
          have hdz : zs.drop zs.length = [] := List.drop_length
          rw [hdz] at hst
          obtain ⟨c0, c1, c2, cz⟩ := hst
          have hd := deq_line0 (er := er)
          unfold DoIs at hd
          have Hd := Lib.hid hd
          have hc2 : wr.cell? ⟨Z, 2, none⟩ = some (tv (qtext [])) := c2
          clear c2 hdz hd hend
          go_wp2_with (first | (go_at_call 12; refine (Hd.out _ HGr.out).mono ?_; rintro e w4 ⟨rfl, hb4⟩; have HA := Lib.hid (twoA hb4.out 3 0 (qtext [])); have HZ4 := Lib.hid ((HS.out.1).below' (hb4.out.alloc hb4.out.size (.cells #[.int .i64 3, .int .i64 0, tv (qtext [])] 27))); have HN : Hid (w4.heap.size ≠ Z) := (by have h1 := hb4.out.size; have h2 := HZl.out; show w4.heap.size ≠ Z; omega); clear c0 c1 hc2 cz; obtain ⟨y0, y1, y2, yz⟩ := HA.out.lies; obtain ⟨z0, z1, z2, zz⟩ := HZ4.out))
          go_roundw
          case rel => exact ⟨zs.length + 1, by omega, by go_num, by rw [List.drop_eq_nil_of_le (by omega)]; exact HZ4.out.set, setSt_below (hbw.trans (HA.out.below.mono hbw.size)) (Nat.le_trans Hwz.out (Nat.le_refl _)) 3 0 _⟩
          case measure => simp [intOf]
        · have hlt2 : k < zs.length := by omega
          have hdz : zs.drop k = zs[k]?.getD 0 :: zs.drop (k + 1) := by
            rw [List.drop_eq_getElem_cons hlt2, List.getElem?_eq_getElem hlt2]; rfl
          have hnr : ∀ v ∈ zs[k]?.getD 0 :: zs.drop (k + 1), near v 1000000000 := fun v hv => Hnr.out v (by rw [← hdz] at hv; exact List.mem_of_mem_drop hv)
          have hlen2 : (zs[k]?.getD 0 :: zs.drop (k + 1)).length ≤ 300 := by rw [← hdz, List.length_drop]; omega
          have hI := HI.out.below hbw
          rcases hI with hz | ⟨b, off, rfl, hbl, hc⟩
          · rw [hz] at hlt2; exact absurd hlt2 (by simp)
          have ck := hc k hlt2
          rw [hdz] at hst
          obtain ⟨c0, c1, c2, cz⟩ := hst
          have hd := deq_line (er := er) hnr hlen2
          unfold DoIs at hd
          have Hd := Lib.hid hd
          have Hst := Lib.hid HS.out.1
          have e0 : ((k : Int) == (zs.length : Int)) = false := by simp; omega
          generalize zs[k]?.getD 0 = x at *
          generalize hP : zs.drop (k + 1) = P at *
          have HP := Lib.hid hP
          have hc2 : wr.cell? ⟨Z, 2, none⟩ = some (tv (qtext (x :: P))) := c2
          clear c2 hdz hd hend hc hnr hlen2 hP hkn
          go_wp2_with (first | (go_at_call 12; refine (Hd.out _ HGr.out).mono ?_; rintro e w4 ⟨rfl, hb4⟩; have HA := Lib.hid (twoA hb4.out 3 0 (qtext P)); have HZ4 := Lib.hid (Hst.out.below' (hb4.out.alloc hb4.out.size (.cells #[.int .i64 3, .int .i64 0, tv (qtext P)] 27))); have HN : Hid (w4.heap.size ≠ Z) := (by have h1 := hb4.out.size; have h2 := HZl.out; show w4.heap.size ≠ Z; omega); have ck4 := ((hb4.out.alloc hb4.out.size (.cells #[.int .i64 3, .int .i64 0, tv (qtext P)] 27)).cell (p := ⟨b, off + k, none⟩) hbl).trans ck; clear c0 c1 hc2 cz ck; obtain ⟨y0, y1, y2, yz⟩ := HA.out.lies; obtain ⟨z0, z1, z2, zz⟩ := HZ4.out))
          go_roundw
          case rel => exact ⟨k + 1, by omega, by go_num, by rw [HP.out]; exact HZ4.out.set, setSt_below (hbw.trans (HA.out.below.mono hbw.size)) (Nat.le_trans Hwz.out (Nat.le_refl _)) 3 0 _⟩
          case measure => simp [intOf]; omega
end Go.Proofs.YtgnpcbpbmalgiaaDoor
