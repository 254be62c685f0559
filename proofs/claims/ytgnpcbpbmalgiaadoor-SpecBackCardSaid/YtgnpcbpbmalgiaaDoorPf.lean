/- The walk of the statement on states and their keys. -/
import Derived.Test.YtgnpcbpbmalgiaaDoorPe
namespace Go.Proofs.YtgnpcbpbmalgiaaDoor
open Go.RowKit Go.Maps Go.WideMaps Go.WideElems Go.ChangeShapes Go.WideShapes

variable {er : Nat → Addr}

/-- What lies while the last line is gone through. -/
structure BkAt (er : Nat → Addr) (W0 : World) (Z X U : Nat) (s u : PS) (W : World) : Prop where
  below : Below W0.heap.size W0 W
  glob : Glob 129 er W
  z : StAt W Z s.kind s.n s.text
  x : StAt W X s.kind s.n s.text
  u : StAt W U u.kind u.n u.text
theorem BkAt.next {W0 W W' : World} {Z X U : Nat} {s u : PS} (h : BkAt er W0 Z X U s u W) (hb : Below W.heap.size W W') : BkAt er W0 Z X U s u W' :=
  ⟨h.below.trans (hb.mono h.below.size), h.glob.below' hb, h.z.below' hb, h.x.below' hb, h.u.below' hb⟩
theorem BkAt.drew {W0 W : World} {Z X U : Nat} {s u : PS} (h : BkAt er W0 Z X U s u W) : BkAt er W0 Z X U s u W.drew := ⟨below_drew h.below, h.glob.drew, h.z.drew, h.x.drew, h.u.drew⟩

set_option maxRecDepth 100000 in
set_option maxHeartbeats 16000000 in
theorem backs_any (ok ik : Int) (a : Option Addr) (c : Nat) (cs : List PC) (sx : ByteArray) (w : World) (hG : Glob 129 er w) (hI : CAt w a cs) (hF : CFit cs) :
    Calls Tryd.prog 3 #[.agg #[.int .i64 ok, .int .i64 ik], .slice a cs.length c, .string sx] w fun e w' => e = .returned (.bool true) ∧ Hid (Below w.heap.size w w') := by
  obtain ⟨W0, hW0⟩ : ∃ W, w.alloc (.cells #[.int .i64 ok, .int .i64 ik] 23) = W := ⟨_, rfl⟩
  have hB : Below w.heap.size w W0 := by rw [← hW0]; exact (Below.refl _ _).alloc (Nat.le_refl _) _
  obtain ⟨o0, o1⟩ := obox w ok ik
  rw [hW0] at o0 o1
  have hG0 := hG.below' hB
  have Hf := Lib.hid (first_any W0 hG0)
  have HG := Lib.hid hG0
  have HB := Lib.hid hB
  have HI := Lib.hid (hI.below hB)
  have Ho := Lib.hid (And.intro o0 o1)
  have hol : w.heap.size < W0.heap.size := World.block_lt_of_cell? W0 _ o0
  clear hG hI hB hG0 o0 o1
  by_cases hbig : 300 < cs.length
  · have hd : decide ((300 : Int) < (cs.length : Int)) = true := by simp; omega
    clear hbig hF hol
    go_enter Tryd.func3, Tryd.ntmps3
    go_wp2_with (first | (go_at_call 7; refine Hf.out.mono ?_; rintro e w1 ⟨rfl, hb1⟩))
    go_ret
    exact ⟨rfl, HB.out.trans (hb1.out.mono HB.out.size)⟩
  have hd : decide ((300 : Int) < (cs.length : Int)) = false := by simp; omega
  have h300 : cs.length ≤ 300 := by omega
  by_cases hbig2 : 65536 < sx.size
  · have hd2 : decide ((65536 : Int) < (sx.size : Int)) = true := by simp; omega
    clear hbig hF hol hbig2
    go_enter Tryd.func3, Tryd.ntmps3
    go_wp2_with (first | (go_at_call 7; refine Hf.out.mono ?_; rintro e w1 ⟨rfl, hb1⟩))
    go_ret
    exact ⟨rfl, HB.out.trans (hb1.out.mono HB.out.size)⟩
  have hd2 : decide ((65536 : Int) < (sx.size : Int)) = false := by simp; omega
  have h64 : sx.size ≤ 65536 := by omega
  have HF := Lib.hid hF
  have Hn := Lib.hid (fun W (h : Glob 129 er W) => new_any (T := 129) (er := er) ok ik W h)
  cases hv : validO ok ik with
  | false =>
    have hne : newV 129 er ok ik = .tuple #[stv 0 0 [], errE 129 er 3] := by unfold newV; rw [hv]; rfl
    rw [hne] at Hn
    have Hk := Lib.hid (fun W => kind_any 0 0 [] W)
    have Hkey : Hid (∀ W, Glob 129 er W → Calls Tryd.prog 10 #[stv 0 0 []] W fun e w' => e = .returned (tv []) ∧ Hid (Below W.heap.size W w')) := fun W h => key_any 0 0 (by unfold fits64; decide) [] (by decide) W h
    have Hl : Hid (∀ W, Calls Tryd.prog 11 #[stv 0 0 []] W fun e w' => e = .returned (.int .i64 0) ∧ Hid (Below W.heap.size W w')) := fun W => len_any 0 0 [] W
    clear hbig hbig2 hv hne hF
    go_enter Tryd.func3, Tryd.ntmps3
    go_wp2_with (first
      | (go_at_call 7; refine Hf.out.mono ?_; rintro e w1 ⟨rfl, hb1⟩; have e0 := (hb1.out.cell (p := ⟨w.heap.size, 0, none⟩) hol).trans Ho.out.1; have e1 := (hb1.out.cell (p := ⟨w.heap.size, 1, none⟩) hol).trans Ho.out.2; have H1 := Lib.hid (HG.out.below' hb1.out))
      | (go_at_call 8; refine (Hn.out _ H1.out).mono ?_; rintro e w2 ⟨rfl, hb2⟩; have hA := (hb1.out.trans (hb2.out.mono hb1.out.size)).alloc (Nat.le_trans hb1.out.size hb2.out.size) (.cells #[.int .i64 0, .int .i64 0, tv []] 27); have HA := Lib.hid hA; clear hA e0 e1; obtain ⟨c0, c1, c2, cz⟩ := stAt_new w2 0 0 [])
      | (go_at_call 9; refine (Hk.out _).mono ?_; rintro e w3 ⟨rfl, hb3⟩; clear c0 c1 c2 cz; obtain ⟨c0, c1, c2, cz⟩ := (stAt_new w2 0 0 []).below' hb3.out; have H3 := Lib.hid ((HG.out.below' HA.out).below' hb3.out))
      | (go_at_call 10; refine (Hkey.out _ H3.out).mono ?_; rintro e w4 ⟨rfl, hb4⟩; clear c0 c1 c2 cz; obtain ⟨c0, c1, c2, cz⟩ := ((stAt_new w2 0 0 []).below' hb3.out).below' hb4.out)
      | (go_at_call 11; refine (Hl.out _).mono ?_; rintro e w5 ⟨rfl, hb5⟩))
    go_ret
    exact ⟨rfl, HB.out.trans ((((HA.out.trans (hb3.out.mono HA.out.size)).trans (hb4.out.mono (HA.out.trans (hb3.out.mono HA.out.size)).size)).trans (hb5.out.mono ((HA.out.trans (hb3.out.mono HA.out.size)).trans (hb4.out.mono (HA.out.trans (hb3.out.mono HA.out.size)).size)).size)).mono HB.out.size)⟩
  | true =>
    have hne : newV 129 er ok ik = .tuple #[stv ok ik [], .nilIface] := by unfold newV; rw [hv]; rfl
    rw [hne] at Hn
    have HS : Hid (∀ k, k ≤ cs.length → (runR (objS ok ik) (cs.take k)).Ok 300) := fun k hk => by
      have h := runR_ok (cs := cs.take k) (objS_ok hv)
      have hl : (cs.take k).length = k := by rw [List.length_take]; omega
      rw [hl] at h
      exact ⟨h.1.kind, h.1.reg, h.1.cnt, h.1.num, h.1.vs, h.1.ks, h.1.vb, h.1.kb, h.1.rises, by have := h.1.len; omega⟩
    clear hbig hbig2 hv hne hF
    go_enter Tryd.func3, Tryd.ntmps3
    go_wp2_with (first
      | (go_at_call 7; refine Hf.out.mono ?_; rintro e w1 ⟨rfl, hb1⟩; have e0 := (hb1.out.cell (p := ⟨w.heap.size, 0, none⟩) hol).trans Ho.out.1; have e1 := (hb1.out.cell (p := ⟨w.heap.size, 1, none⟩) hol).trans Ho.out.2; have H1 := Lib.hid (HG.out.below' hb1.out))
      | (go_at_call 8; refine (Hn.out _ H1.out).mono ?_; rintro e w2 ⟨rfl, hb2⟩))
    have hA : Hid (Below W0.heap.size W0 (w2.alloc (.cells #[.int .i64 ok, .int .i64 ik, tv []] 27)) ∧ StAt (w2.alloc (.cells #[.int .i64 ok, .int .i64 ik, tv []] 27)) w2.heap.size ok ik []) := by
      have h := hb1.out.trans (hb2.out.mono hb1.out.size)
      exact ⟨h.alloc h.size _, stAt_new w2 ok ik []⟩
    have Hwz : Hid (W0.heap.size ≤ w2.heap.size) := (hb1.out.trans (hb2.out.mono hb1.out.size)).size
    generalize hZ : w2.heap.size = Z at *
    clear hZ
    go_loopw [10] (fun i wr => ∃ k : Nat, k ≤ cs.length ∧ i = .int .i64 k ∧ Hid (StAt wr Z (runR (objS ok ik) (cs.take k)).kind (runR (objS ok ik) (cs.take k)).n (runR (objS ok ik) (cs.take k)).text ∧ Below W0.heap.size W0 wr)) (fun i _ => cs.length - (intOf i).toNat)
    case atStart => exact ⟨0, Nat.zero_le _, rfl, hA.out.2, hA.out.1⟩
    case round =>
      obtain ⟨k, hk, rfl, HR⟩ := hrel
      clear hA hb1 hb2 H1 Hn Hf e0 e1
      by_cases hlt : k < cs.length
      · obtain ⟨hst, hbw⟩ := HR.out
        rcases HI.out.below hbw with hz | ⟨b, off, rfl, hbl, hc⟩
        · rw [hz] at hlt; exact absurd hlt (by simp)
        obtain ⟨q0, q1, q2⟩ := hc k hlt
        have htk : cs.take (k + 1) = cs.take k ++ [cs[k]?.getD (0, 0, 0)] := by rw [List.take_add_one]; simp [hlt]
        have hfit : fits64 (cs[k]?.getD (0, 0, 0)).2.1 ∧ fits64 (cs[k]?.getD (0, 0, 0)).2.2 := by
          rw [List.getElem?_eq_getElem hlt]; exact HF.out _ (List.getElem_mem hlt)
        have hrd := round_do (er := er) _ 300 (by decide) (HS.out k hk) _ hfit
        have hsn : runR (objS ok ik) (cs.take (k + 1)) = stepR (runR (objS ok ik) (cs.take k)) (cs[k]?.getD (0, 0, 0)) := by rw [htk, runR_snoc]
        have Hsn := Lib.hid hsn
        generalize runR (objS ok ik) (cs.take k) = s at *
        generalize cs[k]?.getD (0, 0, 0) = pc at *
        have HZl := Lib.hid hst.lt
        have Hst := Lib.hid hst
        have Hbw := Lib.hid hbw
        have HGr := Lib.hid (HG.out.below' hbw)
        obtain ⟨c0, c1, c2, cz⟩ := hst
        clear hc htk hfit hsn HR hbw
        rcases hrd with ⟨t, r, g, _, hs, hd⟩ | ⟨n, i, _, hs, hd⟩
        · have Hd := Lib.hid hd
          rw [hs] at Hsn
          clear hd hs
          go_wp2
          go_region_held3 (fun w' => w'.cell? ⟨b, off + k * 3, none⟩ = some (.int .i64 pc.1) ∧ w'.cell? ⟨b, off + k * 3 + 1, none⟩ = some (.int .i64 pc.2.1) ∧ w'.cell? ⟨b, off + k * 3 + 2, none⟩ = some (.int .i64 pc.2.2) ∧ w'.cell? ⟨Z, 0, none⟩ = some (.int .i64 s.kind) ∧ w'.cell? ⟨Z, 1, none⟩ = some (.int .i64 s.n) ∧ w'.cell? ⟨Z, 2, none⟩ = some (tv s.text)) (first | go_keep | exact kp)
            (first
              | (go_at_call 12; refine (Hd.out _ HGr.out.drew).mono ?_; rintro e w4 ⟨rfl, hb4⟩; have Hb4 : Hid (Below wr.heap.size wr w4) := (below_drew (Below.refl _ wr)).trans hb4.out; have hst4 := Hst.out.below' Hb4.out; have f4 : ∀ j, w4.cell? ⟨b, j, none⟩ = wr.cell? ⟨b, j, none⟩ := (fun j => Hb4.out.cell (p := ⟨b, j, none⟩) hbl); have p0 := (f4 _).trans q0; have p1 := (f4 _).trans q1; have p2 := (f4 _).trans q2; clear f4; obtain ⟨z0, z1, z2, zz⟩ := hst4)
              | (go_at_call 12; refine (Hd.out _ ((HGr.out.below' ((Below.refl _ _).alloc (Nat.le_refl _) _)).drew)).mono ?_; rintro e w4 ⟨rfl, hb4⟩; have Hb5 := Lib.hid (below_alloc_first wr w4 () hb4.out); have hst4 := Hst.out.below' Hb5.out.1; have f4 : ∀ j, w4.cell? ⟨b, j, none⟩ = wr.cell? ⟨b, j, none⟩ := (fun j => Hb5.out.1.cell (p := ⟨b, j, none⟩) hbl); have p0 := (f4 _).trans q0; have p1 := (f4 _).trans q1; have p2 := (f4 _).trans q2; clear f4; have g4 : ∀ h j, wr.heap.size ≠ h → (World.setSt w4 wr.heap.size (t.kind) (t.n) (t.text)).cell? ⟨h, j, none⟩ = w4.cell? ⟨h, j, none⟩ := (fun h j hh => setSt_far w4 wr.heap.size _ _ _ h j hh); obtain ⟨z0, z1, z2, zz⟩ := hst4; have hnb : wr.heap.size ≠ b := Nat.ne_of_gt hbl; have hnz : wr.heap.size ≠ Z := Nat.ne_of_gt HZl.out; have kp := And.intro ((g4 b _ hnb).trans p0) (And.intro ((g4 b _ hnb).trans p1) (And.intro ((g4 b _ hnb).trans p2) (And.intro ((g4 Z _ hnz).trans z0) (And.intro ((g4 Z _ hnz).trans z1) ((g4 Z _ hnz).trans z2))))); clear g4 hnb hnz; have hy4 := Hb5.out.2; obtain ⟨y0, y1, y2, yz⟩ := hy4))
          all_goals
            first
              | (obtain ⟨V, hV⟩ : ∃ V, V = w4.alloc (.cells #[.int .i64 (t.kind), .int .i64 (t.n), tv t.text] 27) := ⟨_, rfl⟩
                 rw [← hV]
                 have HT : Hid (TwoAt wr V w4.heap.size (t.kind) (t.n) (t.text)) := by show TwoAt _ _ _ _ _ _; rw [hV]; exact twoA Hb4.out _ _ _
                 generalize w4.heap.size = Y at HT ⊢)
              | (obtain ⟨V, hV⟩ : ∃ V, V = ((w4.setCell ⟨wr.heap.size, 0, none⟩ (.int .i64 (t.kind))).setCell ⟨wr.heap.size, 1, none⟩ (.int .i64 (t.n))).setCell ⟨wr.heap.size, 2, none⟩ (tv t.text) := ⟨_, rfl⟩
                 rw [← hV]
                 have HT : Hid (TwoAt wr V wr.heap.size (t.kind) (t.n) (t.text)) := by show TwoAt _ _ _ _ _ _; rw [hV]; exact twoB Hb5.out _ _ _
                 generalize wr.heap.size = Y at HT ⊢)
            clear hV
            have HV := Lib.hid (Hbw.out.trans (HT.out.below.mono Hbw.out.size))
            have HZV := Lib.hid (Hst.out.below' HT.out.below)
            have HYZ : Hid (Y ≠ Z) := by have h1 := HT.out.new; have h2 := HZl.out; show Y ≠ Z; omega
            try clear z0 z1 z2 zz
            try clear y0 y1 y2 yz
            try clear kp
            try clear p0 p1 p2
            clear c0 c1 c2 cz q0 q1 q2
            obtain ⟨y0, y1, y2, yz⟩ := HT.out.lies
            obtain ⟨z0, z1, z2, zz⟩ := HZV.out
            go_wp2
            go_roundw
            case rel => exact ⟨k + 1, by omega, by go_num, by rw [Hsn.out]; exact HZV.out.set, setSt_below HV.out Hwz.out _ _ _⟩
            case measure => simp [intOf]; omega
        · have Hd := Lib.hid hd
          rw [hs] at Hsn
          clear hd hs
          go_wp2
          go_region_held3 (fun w' => w'.cell? ⟨b, off + k * 3, none⟩ = some (.int .i64 pc.1) ∧ w'.cell? ⟨b, off + k * 3 + 1, none⟩ = some (.int .i64 pc.2.1) ∧ w'.cell? ⟨b, off + k * 3 + 2, none⟩ = some (.int .i64 pc.2.2) ∧ w'.cell? ⟨Z, 0, none⟩ = some (.int .i64 s.kind) ∧ w'.cell? ⟨Z, 1, none⟩ = some (.int .i64 s.n) ∧ w'.cell? ⟨Z, 2, none⟩ = some (tv s.text)) (first | go_keep | exact kp)
            (first
              | (go_at_call 12; refine (Hd.out _ HGr.out.drew).mono ?_; rintro e w4 ⟨rfl, hb4⟩; have Hb4 : Hid (Below wr.heap.size wr w4) := (below_drew (Below.refl _ wr)).trans hb4.out; have hst4 := Hst.out.below' Hb4.out; have f4 : ∀ j, w4.cell? ⟨b, j, none⟩ = wr.cell? ⟨b, j, none⟩ := (fun j => Hb4.out.cell (p := ⟨b, j, none⟩) hbl); have p0 := (f4 _).trans q0; have p1 := (f4 _).trans q1; have p2 := (f4 _).trans q2; clear f4; obtain ⟨z0, z1, z2, zz⟩ := hst4)
              | (go_at_call 12; refine (Hd.out _ ((HGr.out.below' ((Below.refl _ _).alloc (Nat.le_refl _) _)).drew)).mono ?_; rintro e w4 ⟨rfl, hb4⟩; have Hb5 := Lib.hid (below_alloc_first wr w4 () hb4.out); have hst4 := Hst.out.below' Hb5.out.1; have f4 : ∀ j, w4.cell? ⟨b, j, none⟩ = wr.cell? ⟨b, j, none⟩ := (fun j => Hb5.out.1.cell (p := ⟨b, j, none⟩) hbl); have p0 := (f4 _).trans q0; have p1 := (f4 _).trans q1; have p2 := (f4 _).trans q2; clear f4; have g4 : ∀ h j, wr.heap.size ≠ h → (World.setSt w4 wr.heap.size (0) (0) ([])).cell? ⟨h, j, none⟩ = w4.cell? ⟨h, j, none⟩ := (fun h j hh => setSt_far w4 wr.heap.size _ _ _ h j hh); obtain ⟨z0, z1, z2, zz⟩ := hst4; have hnb : wr.heap.size ≠ b := Nat.ne_of_gt hbl; have hnz : wr.heap.size ≠ Z := Nat.ne_of_gt HZl.out; have kp := And.intro ((g4 b _ hnb).trans p0) (And.intro ((g4 b _ hnb).trans p1) (And.intro ((g4 b _ hnb).trans p2) (And.intro ((g4 Z _ hnz).trans z0) (And.intro ((g4 Z _ hnz).trans z1) ((g4 Z _ hnz).trans z2))))); clear g4 hnb hnz; have hy4 := Hb5.out.2; obtain ⟨y0, y1, y2, yz⟩ := hy4))
          all_goals
            first
              | (obtain ⟨V, hV⟩ : ∃ V, V = w4.alloc (.cells #[.int .i64 (0), .int .i64 (0), .string ⟨#[]⟩] 27) := ⟨_, rfl⟩
                 rw [← hV]
                 have HT : Hid (TwoAt wr V w4.heap.size (0) (0) []) := by show TwoAt _ _ _ _ _ _; rw [hV]; exact twoA Hb4.out _ _ _
                 generalize w4.heap.size = Y at HT ⊢)
              | (obtain ⟨V, hV⟩ : ∃ V, V = ((w4.setCell ⟨wr.heap.size, 0, none⟩ (.int .i64 (0))).setCell ⟨wr.heap.size, 1, none⟩ (.int .i64 (0))).setCell ⟨wr.heap.size, 2, none⟩ (.string ⟨#[]⟩) := ⟨_, rfl⟩
                 rw [← hV]
                 have HT : Hid (TwoAt wr V wr.heap.size (0) (0) []) := by show TwoAt _ _ _ _ _ _; rw [hV]; exact twoB Hb5.out _ _ _
                 generalize wr.heap.size = Y at HT ⊢)
            clear hV
            have HV := Lib.hid (Hbw.out.trans (HT.out.below.mono Hbw.out.size))
            have HZV := Lib.hid (Hst.out.below' HT.out.below)
            have HYZ : Hid (Y ≠ Z) := by have h1 := HT.out.new; have h2 := HZl.out; show Y ≠ Z; omega
            try clear z0 z1 z2 zz
            try clear y0 y1 y2 yz
            try clear kp
            try clear p0 p1 p2
            clear c0 c1 c2 cz q0 q1 q2
            obtain ⟨y0, y1, y2, yz⟩ := HT.out.lies
            obtain ⟨z0, z1, z2, zz⟩ := HZV.out
            go_wp2
            go_roundw
            case rel => exact ⟨k + 1, by omega, by go_num, by rw [Hsn.out]; exact HZV.out, HV.out⟩
            case measure => simp [intOf]; omega
      · have hke : k = cs.length := by omega
        subst hke
        have hok := HS.out cs.length (Nat.le_refl _)
        rw [List.take_length] at HR hok
        generalize runR (objS ok ik) cs = s at *
        have Hkl := Lib.hid (fun W (h : Glob 129 er W) => key_state (er := er) (by decide) hok W h)
        have Hfr := Lib.hid (fun W (h : Glob 129 er W) => from_state (er := er) (by decide) hok W h)
        have hfx := fun W (h : Glob 129 er W) => from_any (T := 129) (er := er) sx.data.toList (by simpa using (by omega : sx.size ≤ 1000000000)) W h
        simp only [tv, arr_of] at hfx
        have Hss := Lib.hid (fun p W => same_self p W)
        generalize hkk : keyL s = K at *
        obtain ⟨c0, c1, c2, cz⟩ := HR.out.1
        have HGr := Lib.hid (HG.out.below' HR.out.2)
        clear hok hk hlt hkk
        cases hfk : fromK sx.data.toList with
        | error n =>
          have hev : ∃ i, fromV 129 er (.error n) = .tuple #[stv 0 0 [], errE 129 er i] := by cases n with
            | zero => exact ⟨1, rfl⟩
            | succ n => exact ⟨4, rfl⟩
          obtain ⟨i, hi⟩ := hev
          rw [hfk, hi] at hfx
          have Hfx := Lib.hid hfx
          clear hfx hi hfk
          go_wp2_with (first
            | (go_at_call 10; refine (Hkl.out _ HGr.out).mono ?_; rintro e w3 ⟨rfl, hb3⟩; have H3 := Lib.hid (HGr.out.below' hb3.out); clear c0 c1 c2 cz)
            | (go_at_call 13; first
              | (refine (Hfr.out _ H3.out).mono ?_; rintro e w4 ⟨rfl, hb4⟩; clear Hfr; have HA4 := Lib.hid (And.intro ((HR.out.2.trans (hb3.out.mono HR.out.2.size)).trans (hb4.out.mono (HR.out.2.trans (hb3.out.mono HR.out.2.size)).size)) (And.intro ((HR.out.1.below' hb3.out).below' hb4.out) (stAt_new w4 s.kind s.n s.text))))
              | (refine (Hfx.out _ (HG.out.below' (HA4.out.1.alloc HA4.out.1.size (.cells #[.int .i64 s.kind, .int .i64 s.n, tv s.text] 27)))).mono ?_; rintro e w5 ⟨rfl, hb5⟩)))
          have hbk : BkAt er W0 Z w4.heap.size w5.heap.size s PS.zero (w5.alloc (.cells #[.int .i64 0, .int .i64 0, tv []] 27)) := by
            have h1 := HA4.out.1.alloc HA4.out.1.size (.cells #[.int .i64 s.kind, .int .i64 s.n, tv s.text] 27)
            have h2 := h1.trans (hb5.out.mono h1.size)
            have h3 := h2.alloc h2.size (.cells #[.int .i64 0, .int .i64 0, tv []] 27)
            have al : ∀ (W : World) o, Below W.heap.size W (W.alloc o) := fun W o => (Below.refl _ _).alloc (Nat.le_refl _) _
            exact ⟨h3, HG.out.below' h3, ((HA4.out.2.1.below' (al _ _)).below' hb5.out).below' (al _ _), (HA4.out.2.2.below' hb5.out).below' (al _ _), stAt_new w5 0 0 []⟩
          generalize hX : w4.heap.size = X at hbk ⊢
          generalize hU : w5.heap.size = U at hbk ⊢
          generalize hV : w5.alloc (.cells #[.int .i64 0, .int .i64 0, tv []] 27) = V at hbk ⊢
          clear hX hU hV HA4 hb3 hb5 H3 HGr Hfx
          have HBK := Lib.hid hbk
          obtain ⟨z0, z1, z2, zz⟩ := hbk.z
          obtain ⟨x0, x1, x2, xz⟩ := hbk.x
          clear hbk
          refine wp_region_held_drew (S := (fun w' => w'.cell? ⟨Z, 0, none⟩ = some (.int .i64 s.kind) ∧ w'.cell? ⟨Z, 1, none⟩ = some (.int .i64 s.n) ∧ w'.cell? ⟨Z, 2, none⟩ = some (tv s.text) ∧ w'.cell? ⟨X, 0, none⟩ = some (.int .i64 s.kind) ∧ w'.cell? ⟨X, 1, none⟩ = some (.int .i64 s.n) ∧ w'.cell? ⟨X, 2, none⟩ = some (tv s.text))) (by kernel_rfl) ⟨z0, z1, z2, x0, x1, x2⟩ (fun hHeld => ?_)
          refine held_take 0 (some 97) ?_ rfl rfl (by kernel_rfl) (by kernel_rfl) (by kernel_rfl) (fun _ _ _ h => h) (by kernel_rfl) ?_ (by assumption) ?_
          rotate_left
          · intro w hSw; obtain ⟨s0, s1, s2, s3, s4, s5⟩ := hSw; go_simp <;> (try with_reducible rfl)
          simp only [Act.put, List.setIfInBounds_toArray, List.set_cons_zero, List.set_cons_succ]
          refine held_take 1 (some 98) ?_ rfl rfl (by kernel_rfl) (by kernel_rfl) (by kernel_rfl) (fun _ _ _ h => h) (by kernel_rfl) ?_ (by assumption) ?_
          rotate_left
          · intro w hSw; obtain ⟨s0, s1, s2, s3, s4, s5⟩ := hSw; go_simp <;> (try with_reducible rfl)
          simp only [Act.put, List.setIfInBounds_toArray, List.set_cons_zero, List.set_cons_succ]
          refine held_take 2 (some 99) ?_ rfl rfl (by kernel_rfl) (by kernel_rfl) (by kernel_rfl) (fun _ _ _ h => h) (by kernel_rfl) ?_ (by assumption) ?_
          rotate_left
          · intro w hSw; obtain ⟨s0, s1, s2, s3, s4, s5⟩ := hSw; go_simp <;> (try with_reducible rfl)
          simp only [Act.put, List.setIfInBounds_toArray, List.set_cons_zero, List.set_cons_succ]
          refine held_take 3 (some 100) ?_ rfl rfl (by kernel_rfl) (by kernel_rfl) (by kernel_rfl) (fun _ _ _ h => h) (by kernel_rfl) ?_ (by assumption) ?_
          rotate_left
          · intro w hSw; obtain ⟨s0, s1, s2, s3, s4, s5⟩ := hSw; go_simp <;> (try with_reducible rfl)
          simp only [Act.put, List.setIfInBounds_toArray, List.set_cons_zero, List.set_cons_succ]
          refine held_take 4 (some 101) ?_ rfl rfl (by kernel_rfl) (by kernel_rfl) (by kernel_rfl) (fun _ _ _ h => h) (by kernel_rfl) ?_ (by assumption) ?_
          rotate_left
          · intro w hSw; obtain ⟨s0, s1, s2, s3, s4, s5⟩ := hSw; go_simp <;> (try with_reducible rfl)
          simp only [Act.put, List.setIfInBounds_toArray, List.set_cons_zero, List.set_cons_succ]
          refine wpAnyH_ready (rs := [5]) (by kernel_rfl) (by simp) (AllReadyH.cons rfl (fun K hK => ?_) AllReadyH.nil)
          go_simp
          (go_at_call 14; refine (Hss.out _ _).mono ?_; rintro e w6 ⟨rfl, hb⟩; have HW6 := Lib.hid (HBK.out.drew.next hb.out); clear hb z0 z1 z2 zz x0 x1 x2 xz; obtain ⟨z0, z1, z2, zz⟩ := HW6.out.z; obtain ⟨x0, x1, x2, xz⟩ := HW6.out.x)
          go_wp2_with fail
          refine hK.out _ _ ⟨z0, z1, z2, x0, x1, x2⟩ (fun hHeld => ?_)
          clear hK K
          try simp only [Act.put, List.setIfInBounds_toArray, List.set_cons_zero, List.set_cons_succ]
          refine held_take 6 (some 103) ?_ rfl rfl (by kernel_rfl) (by kernel_rfl) (by kernel_rfl) (fun _ _ _ h => h) (by kernel_rfl) ?_ (by assumption) ?_
          rotate_left
          · intro w hSw; obtain ⟨s0, s1, s2, s3, s4, s5⟩ := hSw; go_simp <;> (try with_reducible rfl)
          simp only [Act.put, List.setIfInBounds_toArray, List.set_cons_zero, List.set_cons_succ]
          refine held_take 7 (some 104) ?_ rfl rfl (by kernel_rfl) (by kernel_rfl) (by kernel_rfl) (fun _ _ _ h => h) (by kernel_rfl) ?_ (by assumption) ?_
          rotate_left
          · intro w hSw; obtain ⟨s0, s1, s2, s3, s4, s5⟩ := hSw; go_simp <;> (try with_reducible rfl)
          simp only [Act.put, List.setIfInBounds_toArray, List.set_cons_zero, List.set_cons_succ]
          refine held_take 8 (some 105) ?_ rfl rfl (by kernel_rfl) (by kernel_rfl) (by kernel_rfl) (fun _ _ _ h => h) (by kernel_rfl) ?_ (by assumption) ?_
          rotate_left
          · intro w hSw; obtain ⟨s0, s1, s2, s3, s4, s5⟩ := hSw; go_simp <;> (try with_reducible rfl)
          simp only [Act.put, List.setIfInBounds_toArray, List.set_cons_zero, List.set_cons_succ]
          refine held_take 9 (some 106) ?_ rfl rfl (by kernel_rfl) (by kernel_rfl) (by kernel_rfl) (fun _ _ _ h => h) (by kernel_rfl) ?_ (by assumption) ?_
          rotate_left
          · intro w hSw; obtain ⟨s0, s1, s2, s3, s4, s5⟩ := hSw; go_simp <;> (try with_reducible rfl)
          simp only [Act.put, List.setIfInBounds_toArray, List.set_cons_zero, List.set_cons_succ]
          refine wpAnyH_ready (rs := [10]) (by kernel_rfl) (by simp) (AllReadyH.cons rfl (fun K hK => ?_) AllReadyH.nil)
          go_simp
          (go_at_call 14; refine (Hss.out _ _).mono ?_; rintro e w7 ⟨rfl, hb⟩; have HW7 := Lib.hid (HW6.out.next hb.out); clear hb z0 z1 z2 zz x0 x1 x2 xz; obtain ⟨z0, z1, z2, zz⟩ := HW7.out.z; obtain ⟨x0, x1, x2, xz⟩ := HW7.out.x)
          go_wp2_with fail
          refine hK.out _ _ ⟨z0, z1, z2, x0, x1, x2⟩ (fun hHeld => ?_)
          clear hK K
          try simp only [Act.put, List.setIfInBounds_toArray, List.set_cons_zero, List.set_cons_succ]
          refine held_take 11 (some 108) ?_ rfl rfl (by kernel_rfl) (by kernel_rfl) (by kernel_rfl) (fun _ _ _ h => h) (by kernel_rfl) ?_ (by assumption) ?_
          rotate_left
          · intro w hSw; obtain ⟨s0, s1, s2, s3, s4, s5⟩ := hSw; go_simp <;> (try with_reducible rfl)
          simp only [Act.put, List.setIfInBounds_toArray, List.set_cons_zero, List.set_cons_succ]
          refine held_take 12 (some 109) ?_ rfl rfl (by kernel_rfl) (by kernel_rfl) (by kernel_rfl) (fun _ _ _ h => h) (by kernel_rfl) ?_ (by assumption) ?_
          rotate_left
          · intro w hSw; obtain ⟨s0, s1, s2, s3, s4, s5⟩ := hSw; go_simp <;> (try with_reducible rfl)
          simp only [Act.put, List.setIfInBounds_toArray, List.set_cons_zero, List.set_cons_succ]
          refine held_take 13 (some 110) ?_ rfl rfl (by kernel_rfl) (by kernel_rfl) (by kernel_rfl) (fun _ _ _ h => h) (by kernel_rfl) ?_ (by assumption) ?_
          rotate_left
          · intro w hSw; obtain ⟨s0, s1, s2, s3, s4, s5⟩ := hSw; go_simp <;> (try with_reducible rfl)
          simp only [Act.put, List.setIfInBounds_toArray, List.set_cons_zero, List.set_cons_succ]
          refine held_take 15 (some 112) ?_ rfl rfl (by kernel_rfl) (by kernel_rfl) (by kernel_rfl) (fun _ _ _ h => h) (by kernel_rfl) ?_ (by assumption) ?_
          rotate_left
          · intro w hSw; obtain ⟨s0, s1, s2, s3, s4, s5⟩ := hSw; go_simp <;> (try with_reducible rfl)
          simp only [Act.put, List.setIfInBounds_toArray, List.set_cons_zero, List.set_cons_succ]
          refine wpAnyH_ready (rs := [14]) (by kernel_rfl) (by simp) (AllReadyH.cons rfl (fun K hK => ?_) AllReadyH.nil)
          go_simp
          (go_at_call 10; refine (Hkl.out _ HW7.out.glob).mono ?_; rintro e w8 ⟨rfl, hb⟩; have HW8 := Lib.hid (HW7.out.next hb.out); clear hb z0 z1 z2 zz x0 x1 x2 xz; obtain ⟨z0, z1, z2, zz⟩ := HW8.out.z; obtain ⟨x0, x1, x2, xz⟩ := HW8.out.x)
          go_wp2_with fail
          refine hK.out _ _ ⟨z0, z1, z2, x0, x1, x2⟩ (fun hHeld => ?_)
          clear hK K
          try simp only [Act.put, List.setIfInBounds_toArray, List.set_cons_zero, List.set_cons_succ]
          refine wpAnyH_ready (rs := [16]) (by kernel_rfl) (by simp) (AllReadyH.cons rfl (fun K hK => ?_) AllReadyH.nil)
          go_simp
          (go_at_call 10; refine (Hkl.out _ HW8.out.glob).mono ?_; rintro e w9 ⟨rfl, hb⟩; have HW9 := Lib.hid (HW8.out.next hb.out); clear hb z0 z1 z2 zz x0 x1 x2 xz; obtain ⟨z0, z1, z2, zz⟩ := HW9.out.z; obtain ⟨x0, x1, x2, xz⟩ := HW9.out.x)
          go_wp2_with fail
          refine hK.out _ _ ⟨z0, z1, z2, x0, x1, x2⟩ (fun hHeld => ?_)
          clear hK K
          try simp only [Act.put, List.setIfInBounds_toArray, List.set_cons_zero, List.set_cons_succ]
          refine held_take 17 (some 114) ?_ rfl rfl (by kernel_rfl) (by kernel_rfl) (by kernel_rfl) (fun _ _ _ h => h) (by kernel_rfl) ?_ (by assumption) ?_
          rotate_left
          · intro w hSw; obtain ⟨s0, s1, s2, s3, s4, s5⟩ := hSw; go_simp <;> (try with_reducible rfl)
          simp only [Act.put, List.setIfInBounds_toArray, List.set_cons_zero, List.set_cons_succ]
          refine held_take 18 (some 115) ?_ rfl rfl (by kernel_rfl) (by kernel_rfl) (by kernel_rfl) (fun _ _ _ h => h) (by kernel_rfl) ?_ (by assumption) ?_
          rotate_left
          · intro w hSw; obtain ⟨s0, s1, s2, s3, s4, s5⟩ := hSw; go_simp <;> (try with_reducible rfl)
          simp only [Act.put, List.setIfInBounds_toArray, List.set_cons_zero, List.set_cons_succ]
          refine held_take 19 (some 116) ?_ rfl rfl (by kernel_rfl) (by kernel_rfl) (by kernel_rfl) (fun _ _ _ h => h) (by kernel_rfl) ?_ (by assumption) ?_
          rotate_left
          · intro w hSw; obtain ⟨s0, s1, s2, s3, s4, s5⟩ := hSw; go_simp <;> (try with_reducible rfl)
          simp only [Act.put, List.setIfInBounds_toArray, List.set_cons_zero, List.set_cons_succ]
          refine held_take 20 (some 117) ?_ rfl rfl (by kernel_rfl) (by kernel_rfl) (by kernel_rfl) (fun _ _ _ h => h) (by kernel_rfl) ?_ (by assumption) ?_
          rotate_left
          · intro w hSw; obtain ⟨s0, s1, s2, s3, s4, s5⟩ := hSw; go_simp <;> (try with_reducible rfl)
          simp only [Act.put, List.setIfInBounds_toArray, List.set_cons_zero, List.set_cons_succ]
          refine held_take 21 (some 118) ?_ rfl rfl (by kernel_rfl) (by kernel_rfl) (by kernel_rfl) (fun _ _ _ h => h) (by kernel_rfl) ?_ (by assumption) ?_
          rotate_left
          · intro w hSw; obtain ⟨s0, s1, s2, s3, s4, s5⟩ := hSw; go_simp <;> (try with_reducible rfl)
          simp only [Act.put, List.setIfInBounds_toArray, List.set_cons_zero, List.set_cons_succ]
          refine held_take 22 (some 119) ?_ rfl rfl (by kernel_rfl) (by kernel_rfl) (by kernel_rfl) (fun _ _ _ h => h) (by kernel_rfl) ?_ (by assumption) ?_
          rotate_left
          · intro w hSw; obtain ⟨s0, s1, s2, s3, s4, s5⟩ := hSw; go_simp <;> (try with_reducible rfl)
          simp only [Act.put, List.setIfInBounds_toArray, List.set_cons_zero, List.set_cons_succ]
          refine held_skip 23 (some 120) rfl rfl (by kernel_rfl) (by kernel_rfl) (by kernel_rfl) (fun _ _ _ h => h) (by kernel_rfl) (by assumption) ?_
          simp only [Act.put, List.setIfInBounds_toArray, List.set_cons_zero, List.set_cons_succ]
          refine held_skip 24 (some 121) rfl rfl (by kernel_rfl) (by kernel_rfl) (by kernel_rfl) (fun _ _ _ h => h) (by kernel_rfl) (by assumption) ?_
          simp only [Act.put, List.setIfInBounds_toArray, List.set_cons_zero, List.set_cons_succ]
          refine held_skip 25 (some 122) rfl rfl (by kernel_rfl) (by kernel_rfl) (by kernel_rfl) (fun _ _ _ h => h) (by kernel_rfl) (by assumption) ?_
          simp only [Act.put, List.setIfInBounds_toArray, List.set_cons_zero, List.set_cons_succ]
          refine held_skip 26 (some 123) rfl rfl (by kernel_rfl) (by kernel_rfl) (by kernel_rfl) (fun _ _ _ h => h) (by kernel_rfl) (by assumption) ?_
          simp only [Act.put, List.setIfInBounds_toArray, List.set_cons_zero, List.set_cons_succ]
          refine held_take 27 (some 124) ?_ rfl rfl (by kernel_rfl) (by kernel_rfl) (by kernel_rfl) (fun _ _ _ h => h) (by kernel_rfl) ?_ (by assumption) ?_
          rotate_left
          · intro w hSw; obtain ⟨s0, s1, s2, s3, s4, s5⟩ := hSw; go_simp <;> (try with_reducible rfl)
          simp only [Act.put, List.setIfInBounds_toArray, List.set_cons_zero, List.set_cons_succ]
          refine held_take 28 (some 125) ?_ rfl rfl (by kernel_rfl) (by kernel_rfl) (by kernel_rfl) (fun _ _ _ h => h) (by kernel_rfl) ?_ (by assumption) ?_
          rotate_left
          · intro w hSw; obtain ⟨s0, s1, s2, s3, s4, s5⟩ := hSw; go_simp <;> (try with_reducible rfl)
          simp only [Act.put, List.setIfInBounds_toArray, List.set_cons_zero, List.set_cons_succ]
          refine held_take 29 (some 6) ?_ rfl rfl (by kernel_rfl) (by kernel_rfl) (by kernel_rfl) (fun _ _ _ h => h) (by kernel_rfl) ?_ (by assumption) ?_
          rotate_left
          · intro w hSw; obtain ⟨s0, s1, s2, s3, s4, s5⟩ := hSw; go_simp <;> (try with_reducible rfl)
          simp only [Act.put, List.setIfInBounds_toArray, List.set_cons_zero, List.set_cons_succ]
          refine wpAnyH_done (by kernel_rfl) ?_ _
          go_wp2
          go_ret
          exact ⟨rfl, HB.out.trans (HW9.out.below.mono HB.out.size)⟩
        | ok u =>
          have hsm := fromK_small hfk
          have hsl : sx.data.toList.length = sx.size := by simp
          have hku : keyT u.kind u.n u.text = sx.data.toList := fromK_key hfk
          have Hku : Hid (∀ W, Glob 129 er W → Calls Tryd.prog 10 #[stv u.kind u.n u.text] W fun e w' => e = .returned (.string sx) ∧ Hid (Below W.heap.size W w')) := fun W h => by
            have := key_any (T := 129) (er := er) u.kind u.n hsm.1 u.text (by omega) W h
            rw [hku, tv, arr_of] at this
            exact this
          rw [hfk] at hfx
          have Hfx : Hid (∀ W, Glob 129 er W → Calls Tryd.prog 13 #[.string sx] W fun e w' => e = .returned (.tuple #[stv u.kind u.n u.text, .nilIface]) ∧ Hid (Below W.heap.size W w')) := hfx
          clear hfx hfk hsm hku hsl
          go_wp2_with (first
            | (go_at_call 10; refine (Hkl.out _ HGr.out).mono ?_; rintro e w3 ⟨rfl, hb3⟩; have H3 := Lib.hid (HGr.out.below' hb3.out); clear c0 c1 c2 cz)
            | (go_at_call 13; first
              | (refine (Hfr.out _ H3.out).mono ?_; rintro e w4 ⟨rfl, hb4⟩; clear Hfr; have HA4 := Lib.hid (And.intro ((HR.out.2.trans (hb3.out.mono HR.out.2.size)).trans (hb4.out.mono (HR.out.2.trans (hb3.out.mono HR.out.2.size)).size)) (And.intro ((HR.out.1.below' hb3.out).below' hb4.out) (stAt_new w4 s.kind s.n s.text))))
              | (refine (Hfx.out _ (HG.out.below' (HA4.out.1.alloc HA4.out.1.size (.cells #[.int .i64 s.kind, .int .i64 s.n, tv s.text] 27)))).mono ?_; rintro e w5 ⟨rfl, hb5⟩)))
          have hbk : BkAt er W0 Z w4.heap.size w5.heap.size s u (w5.alloc (.cells #[.int .i64 u.kind, .int .i64 u.n, tv u.text] 27)) := by
            have h1 := HA4.out.1.alloc HA4.out.1.size (.cells #[.int .i64 s.kind, .int .i64 s.n, tv s.text] 27)
            have h2 := h1.trans (hb5.out.mono h1.size)
            have h3 := h2.alloc h2.size (.cells #[.int .i64 u.kind, .int .i64 u.n, tv u.text] 27)
            have al : ∀ (W : World) o, Below W.heap.size W (W.alloc o) := fun W o => (Below.refl _ _).alloc (Nat.le_refl _) _
            exact ⟨h3, HG.out.below' h3, ((HA4.out.2.1.below' (al _ _)).below' hb5.out).below' (al _ _), (HA4.out.2.2.below' hb5.out).below' (al _ _), stAt_new w5 u.kind u.n u.text⟩
          generalize hX : w4.heap.size = X at hbk ⊢
          generalize hU : w5.heap.size = U at hbk ⊢
          generalize hV : w5.alloc (.cells #[.int .i64 u.kind, .int .i64 u.n, tv u.text] 27) = V at hbk ⊢
          clear hX hU hV HA4 hb3 hb5 H3 HGr Hfx
          have HBK := Lib.hid hbk
          obtain ⟨z0, z1, z2, zz⟩ := hbk.z
          obtain ⟨x0, x1, x2, xz⟩ := hbk.x
          obtain ⟨u0, u1, u2, uz⟩ := hbk.u
          clear hbk
          go_region_held3 (fun w' => w'.cell? ⟨Z, 0, none⟩ = some (.int .i64 s.kind) ∧ w'.cell? ⟨Z, 1, none⟩ = some (.int .i64 s.n) ∧ w'.cell? ⟨Z, 2, none⟩ = some (tv s.text) ∧ w'.cell? ⟨X, 0, none⟩ = some (.int .i64 s.kind) ∧ w'.cell? ⟨X, 1, none⟩ = some (.int .i64 s.n) ∧ w'.cell? ⟨X, 2, none⟩ = some (tv s.text) ∧ w'.cell? ⟨U, 0, none⟩ = some (.int .i64 u.kind) ∧ w'.cell? ⟨U, 1, none⟩ = some (.int .i64 u.n) ∧ w'.cell? ⟨U, 2, none⟩ = some (tv u.text)) (go_keep)
            (first
              | (go_at_call 14; first
                | (refine (Hss.out _ _).mono ?_; rintro e w7 ⟨rfl, hb7⟩; have HW7 := Lib.hid (HW6.out.next hb7.out); clear z0 z1 z2 zz x0 x1 x2 xz u0 u1 u2 uz; obtain ⟨z0, z1, z2, zz⟩ := HW7.out.z; obtain ⟨x0, x1, x2, xz⟩ := HW7.out.x; obtain ⟨u0, u1, u2, uz⟩ := HW7.out.u)
                | (refine (Hss.out _ _).mono ?_; rintro e w6 ⟨rfl, hb6⟩; have HW6 := Lib.hid (HBK.out.drew.next hb6.out); clear z0 z1 z2 zz x0 x1 x2 xz u0 u1 u2 uz; obtain ⟨z0, z1, z2, zz⟩ := HW6.out.z; obtain ⟨x0, x1, x2, xz⟩ := HW6.out.x; obtain ⟨u0, u1, u2, uz⟩ := HW6.out.u))
              | (go_at_call 10; first
                | (refine (Hku.out _ HW9.out.glob).mono ?_; rintro e w10 ⟨rfl, hb10⟩; have HW10 := Lib.hid (HW9.out.next hb10.out); clear z0 z1 z2 zz x0 x1 x2 xz u0 u1 u2 uz; obtain ⟨z0, z1, z2, zz⟩ := HW10.out.z; obtain ⟨x0, x1, x2, xz⟩ := HW10.out.x; obtain ⟨u0, u1, u2, uz⟩ := HW10.out.u)
                | (refine (Hkl.out _ HW8.out.glob).mono ?_; rintro e w9 ⟨rfl, hb9⟩; have HW9 := Lib.hid (HW8.out.next hb9.out); clear z0 z1 z2 zz x0 x1 x2 xz u0 u1 u2 uz; obtain ⟨z0, z1, z2, zz⟩ := HW9.out.z; obtain ⟨x0, x1, x2, xz⟩ := HW9.out.x; obtain ⟨u0, u1, u2, uz⟩ := HW9.out.u)
                | (refine (Hkl.out _ HW7.out.glob).mono ?_; rintro e w8 ⟨rfl, hb8⟩; have HW8 := Lib.hid (HW7.out.next hb8.out); clear z0 z1 z2 zz x0 x1 x2 xz u0 u1 u2 uz; obtain ⟨z0, z1, z2, zz⟩ := HW8.out.z; obtain ⟨x0, x1, x2, xz⟩ := HW8.out.x; obtain ⟨u0, u1, u2, uz⟩ := HW8.out.u)))
          go_wp2
          go_ret
          exact ⟨rfl, HB.out.trans (HW10.out.below.mono HB.out.size)⟩
end Go.Proofs.YtgnpcbpbmalgiaaDoor
