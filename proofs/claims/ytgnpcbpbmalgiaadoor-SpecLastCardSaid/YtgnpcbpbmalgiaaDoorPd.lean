/- The walk of the statement on what was put last. -/
import Derived.Test.YtgnpcbpbmalgiaaDoorPc
namespace Go.Proofs.YtgnpcbpbmalgiaaDoor
open Go.RowKit Go.Maps Go.WideMaps Go.WideElems Go.ChangeShapes Go.WideShapes

variable {er : Nat → Addr}

/-- What a kind begins with. -/
abbrev zeroK (kd : Nat) : PS := ⟨kd, 0, [], []⟩
theorem zeroK_ok {kd : Nat} (h : 1 ≤ kd ∧ kd ≤ 4) : (zeroK kd).Ok 0 :=
  ⟨show 1 ≤ (kd : Int) ∧ (kd : Int) ≤ 4 by omega, fun _ => by show near 0 1000000000; unfold near; decide, fun _ => by show near 0 1000000000000000; unfold near; decide, fun _ => rfl, fun _ => rfl, fun _ => rfl, fun p hp => absurd hp (List.not_mem_nil), fun p hp => absurd hp (List.not_mem_nil), List.Pairwise.nil, Nat.le_refl _⟩
theorem zeroK_text (kd : Nat) : (zeroK kd).text = [] := rfl
theorem new_kind {kd : Nat} (h : 1 ≤ kd ∧ kd ≤ 4) (W : World) (hG : Glob 129 er W) : Calls Tryd.prog 8 #[.agg #[.int .i64 (kd : Int), .int .i64 0]] W fun e w' => e = .returned (.tuple #[stv (kd : Int) 0 [], .nilIface]) ∧ Hid (Below W.heap.size W w') := by
  have hn := new_any (kd : Int) 0 W hG
  have e : newV 129 er (kd : Int) 0 = .tuple #[stv (kd : Int) 0 [], .nilIface] := by
    have : kd = 1 ∨ kd = 2 ∨ kd = 3 ∨ kd = 4 := by omega
    rcases this with rfl | rfl | rfl | rfl <;> rfl
  rw [e] at hn
  exact hn
theorem val_near {s : PS} {b : Nat} (hs : s.Ok b) (key : Int) : near (valOf key s) 1000000000000000 := by
  unfold valOf
  split
  · cases hm : mget key s.kvs with
    | none => unfold near; decide
    | some v =>
      have := (hs.kb _ (mget_mem hm)).2
      unfold near at this ⊢
      simp at this ⊢; omega
  · split
    · rename_i h1 h2
      have hk := hs.kind
      by_cases e : s.kind = 1
      · have := hs.reg e; unfold near at this ⊢; omega
      · exact hs.cnt (by omega)
    · unfold near; decide
theorem ok_val {s t : PS} {op key val r g : Int} (h : doR s op key val = .ok (t, r, g)) : near val 1000000000 := by
  unfold doR at h
  split at h
  · cases h
  split at h
  · cases h
  rename_i hf
  have hf : fitsB op key val = true := by simpa using hf
  simp only [fitsB, Bool.and_eq_true, decide_eq_true_eq] at hf
  exact hf.1.1.2
theorem five (x : Int) : x = 2 ∨ x = 3 ∨ x = 7 ∨ x = 9 ∨ (x ≠ 2 ∧ x ≠ 3 ∧ x ≠ 7 ∧ x ≠ 9) := by omega

set_option maxRecDepth 100000 in
set_option maxHeartbeats 16000000 in
theorem lasts_any (a : Option Addr) (c : Nat) (cs : List PC) (key : Int) (W0 : World) (hG : Glob 129 er W0) (hI : CAt W0 a cs) (hF : CFit cs) :
    Calls Tryd.prog 5 #[.slice a cs.length c, .int .i64 key] W0 fun e w' => e = .returned (.bool true) ∧ Hid (Below W0.heap.size W0 w') := by
  have Hf := Lib.hid (first_any W0 hG)
  have HG := Lib.hid hG
  have HI := Lib.hid hI
  by_cases hbig : 300 < cs.length
  · have hd : decide ((300 : Int) < (cs.length : Int)) = true := by simp; omega
    clear hG hI hbig
    go_enter Tryd.func5, Tryd.ntmps5
    go_wp2_with (first | (go_at_call 7; refine Hf.out.mono ?_; rintro e w1 ⟨rfl, hb1⟩))
    go_ret
    exact ⟨rfl, hb1.out⟩
  have hd : decide ((300 : Int) < (cs.length : Int)) = false := by simp; omega
  have h300 : cs.length ≤ 300 := by omega
  have HF := Lib.hid hF
  have HS : Hid (∀ kd : Nat, 1 ≤ kd ∧ kd ≤ 4 → ∀ k, k ≤ cs.length → (runR (zeroK kd) (cs.take k)).Ok 300 ∧ (runR (zeroK kd) (cs.take k)).kind = kd) := fun kd hkd k hk => by
    have h := runR_ok (cs := cs.take k) (zeroK_ok hkd)
    have hl : (cs.take k).length = k := by rw [List.length_take]; omega
    rw [hl] at h
    exact ⟨⟨h.1.kind, h.1.reg, h.1.cnt, h.1.num, h.1.vs, h.1.ks, h.1.vb, h.1.kb, h.1.rises, by have := h.1.len; omega⟩, h.2⟩
  clear hG hI hF hbig
  go_enter Tryd.func5, Tryd.ntmps5
  go_wp2_with (first
    | (go_at_call 7; refine Hf.out.mono ?_; rintro e w1 ⟨rfl, hb1⟩))
  go_loopw [6] (fun i wr => ∃ kd : Nat, 1 ≤ kd ∧ kd ≤ 5 ∧ i = .int .i64 kd ∧ Hid (Below W0.heap.size W0 wr)) (fun i _ => 5 - (intOf i).toNat)
  case atStart => exact ⟨1, by decide, by decide, rfl, hb1⟩
  case round =>
    obtain ⟨kd, hk1, hk5, rfl, HB⟩ := hrel
    clear hb1 Hf
    by_cases hk4 : kd ≤ 4
    · have Hn := Lib.hid (fun W (h : Glob 129 er W) => new_kind (er := er) (kd := kd) ⟨hk1, hk4⟩ W h)
      have HGr := Lib.hid (HG.out.below' HB.out)
      have HSk := Lib.hid (HS.out kd ⟨hk1, hk4⟩)
      go_wp2_with (first | (go_at_call 8; refine (Hn.out _ HGr.out).mono ?_; rintro e w2 ⟨rfl, hb2⟩))
      have hA : Hid (Below W0.heap.size W0 (w2.alloc (.cells #[.int .i64 (kd : Int), .int .i64 0, tv []] 27)) ∧ StAt (w2.alloc (.cells #[.int .i64 (kd : Int), .int .i64 0, tv []] 27)) w2.heap.size kd 0 []) := by
        have h := HB.out.trans (hb2.out.mono HB.out.size)
        exact ⟨h.alloc h.size _, stAt_new w2 kd 0 []⟩
      have Hwz : Hid (W0.heap.size ≤ w2.heap.size) := (HB.out.trans (hb2.out.mono HB.out.size)).size
      generalize hZ : w2.heap.size = Z at *
      clear hZ HGr HB
      have hh0 : hasOf key (zeroK kd) = decide ((kd : Int) ≤ 2) := by
        unfold hasOf
        by_cases e : (kd : Int) = 4
        · rw [if_pos e]; simp [mget]; omega
        · rw [if_neg e]
      have hv0 : valOf key (zeroK kd) = 0 := by
        unfold valOf
        by_cases e : (kd : Int) = 4
        · rw [if_pos e]; rfl
        · rw [if_neg e]; split <;> rfl
      have Hh0 := Lib.hid hh0
      have Hv0 := Lib.hid hv0
      clear hh0 hv0
      go_loopw [11, 9, 10] (fun i h v wr => ∃ k : Nat, k ≤ cs.length ∧ i = .int .i64 k ∧ h = .bool (hasOf key (runR (zeroK kd) (cs.take k))) ∧ v = .int .i64 (valOf key (runR (zeroK kd) (cs.take k))) ∧ Hid (StAt wr Z (runR (zeroK kd) (cs.take k)).kind (runR (zeroK kd) (cs.take k)).n (runR (zeroK kd) (cs.take k)).text ∧ Below W0.heap.size W0 wr)) (fun i _ _ _ => cs.length - (intOf i).toNat)
      case atStart => exact ⟨0, Nat.zero_le _, rfl, by show _ = Value.bool (hasOf key (zeroK kd)); rw [Hh0.out], by show _ = Value.int .i64 (valOf key (zeroK kd)); rw [Hv0.out], hA.out.2, hA.out.1⟩
      case round =>
        obtain ⟨k, hk, rfl, rfl, rfl, HR⟩ := hrel
        clear hA hb2 Hn Hh0 Hv0
        by_cases hlt : k < cs.length
        · obtain ⟨hst, hbw⟩ := HR.out
          rcases HI.out with hz | ⟨b, off, rfl, hbl0, hc⟩
          · rw [hz] at hlt; exact absurd hlt (by simp)
          have hbl : b < wr.heap.size := Nat.lt_of_lt_of_le hbl0 hbw.size
          have q0 := (hbw.cell (p := ⟨b, off + k * 3, none⟩) hbl0).trans (hc k hlt).1
          have q1 := (hbw.cell (p := ⟨b, off + k * 3 + 1, none⟩) hbl0).trans (hc k hlt).2.1
          have q2 := (hbw.cell (p := ⟨b, off + k * 3 + 2, none⟩) hbl0).trans (hc k hlt).2.2
          have htk : cs.take (k + 1) = cs.take k ++ [cs[k]?.getD (0, 0, 0)] := by rw [List.take_add_one]; simp [hlt]
          have hfit : fits64 (cs[k]?.getD (0, 0, 0)).2.1 ∧ fits64 (cs[k]?.getD (0, 0, 0)).2.2 := by
            rw [List.getElem?_eq_getElem hlt]; exact HF.out _ (List.getElem_mem hlt)
          have hok := (HSk.out k hk).1
          have hrd := round_do (er := er) _ 300 (by decide) hok _ hfit
          have hsn : runR (zeroK kd) (cs.take (k + 1)) = stepR (runR (zeroK kd) (cs.take k)) (cs[k]?.getD (0, 0, 0)) := by rw [htk, runR_snoc]
          have Hsn := Lib.hid hsn
          generalize runR (zeroK kd) (cs.take k) = s at *
          generalize cs[k]?.getD (0, 0, 0) = pc at *
          have HZl := Lib.hid hst.lt
          have Hst := Lib.hid hst
          have Hbw := Lib.hid hbw
          have HGr := Lib.hid (HG.out.below' hbw)
          have HZb0 : Hid (Z ≠ b) := by have h1 := Hwz.out; show Z ≠ b; omega
          have Hq := Lib.hid (And.intro q0 (And.intro q1 q2))
          obtain ⟨c0, c1, c2, cz⟩ := hst
          clear hc htk hfit hsn HR hbw
          have hvn := val_near hok key
          rcases hrd with ⟨t, r, g, hdo, hs, hd⟩ | ⟨n, i, _, hs, hd⟩
          · have Hd := Lib.hid hd
            rw [hs] at Hsn
            have hkp := kept hok hdo key
            have hpn := ok_val hdo
            unfold near at hvn hpn
            obtain ⟨vv, hvv⟩ : ∃ vv, vv = valOf key s := ⟨_, rfl⟩
            obtain ⟨hhv, hhh⟩ : ∃ hhv, hhv = hasOf key s := ⟨_, rfl⟩
            rw [← hvv] at hvn hkp ⊢
            rw [← hhh] at hkp ⊢
            have Hkp := Lib.hid hkp
            have hb0 : -9223372036854775808 ≤ vv + pc.2.2 := by omega
            have hb1 : vv + pc.2.2 ≤ 9223372036854775807 := by omega
            clear hd hs hok hdo hkp hvv hhh hvn hpn
            go_wp2
            go_region_held3 (fun w' => w'.cell? ⟨b, off + k * 3, none⟩ = some (.int .i64 pc.1) ∧ w'.cell? ⟨b, off + k * 3 + 1, none⟩ = some (.int .i64 pc.2.1) ∧ w'.cell? ⟨b, off + k * 3 + 2, none⟩ = some (.int .i64 pc.2.2) ∧ w'.cell? ⟨Z, 0, none⟩ = some (.int .i64 s.kind) ∧ w'.cell? ⟨Z, 1, none⟩ = some (.int .i64 s.n) ∧ w'.cell? ⟨Z, 2, none⟩ = some (tv s.text)) (first | go_keep | exact kp)
              (first
                | (go_at_call 12; refine (Hd.out _ HGr.out.drew).mono ?_; rintro e w4 ⟨rfl, hb4⟩; have Hb4 : Hid (Below wr.heap.size wr w4) := (below_drew (Below.refl _ wr)).trans hb4.out; have hst4 := Hst.out.below' Hb4.out; have f4 : ∀ j, w4.cell? ⟨b, j, none⟩ = wr.cell? ⟨b, j, none⟩ := (fun j => Hb4.out.cell (p := ⟨b, j, none⟩) hbl); have p0 := (f4 _).trans q0; have p1 := (f4 _).trans q1; have p2 := (f4 _).trans q2; clear f4; obtain ⟨z0, z1, z2, zz⟩ := hst4)
                | (go_at_call 12; refine (Hd.out _ ((HGr.out.below' ((Below.refl _ _).alloc (Nat.le_refl _) _)).drew)).mono ?_; rintro e w4 ⟨rfl, hb4⟩; have Hb5 := Lib.hid (below_alloc_first wr w4 () hb4.out); have hst4 := Hst.out.below' Hb5.out.1; have f4 : ∀ j, w4.cell? ⟨b, j, none⟩ = wr.cell? ⟨b, j, none⟩ := (fun j => Hb5.out.1.cell (p := ⟨b, j, none⟩) hbl); have p0 := (f4 _).trans q0; have p1 := (f4 _).trans q1; have p2 := (f4 _).trans q2; clear f4; have g4 : ∀ h j, wr.heap.size ≠ h → (World.setSt w4 wr.heap.size (t.kind) (t.n) (t.text)).cell? ⟨h, j, none⟩ = w4.cell? ⟨h, j, none⟩ := (fun h j hh => setSt_far w4 wr.heap.size _ _ _ h j hh); obtain ⟨z0, z1, z2, zz⟩ := hst4; have hnb : wr.heap.size ≠ b := Nat.ne_of_gt hbl; have hnz : wr.heap.size ≠ Z := Nat.ne_of_gt HZl.out; have kp := And.intro ((g4 b _ hnb).trans p0) (And.intro ((g4 b _ hnb).trans p1) (And.intro ((g4 b _ hnb).trans p2) (And.intro ((g4 Z _ hnz).trans z0) (And.intro ((g4 Z _ hnz).trans z1) ((g4 Z _ hnz).trans z2))))); clear g4 hnb hnz; have hy4 := Hb5.out.2; obtain ⟨y0, y1, y2, yz⟩ := hy4))
            all_goals
              first
                | (obtain ⟨V, hV⟩ : ∃ V, V = w4.alloc (.cells #[.int .i64 (t.kind), .int .i64 (t.n), tv t.text] 27) := ⟨_, rfl⟩
                   rw [← hV]
                   have HT : Hid (TwoAt wr V w4.heap.size (t.kind) (t.n) (t.text)) := by show TwoAt _ _ _ _ _ _; rw [hV]; exact twoA Hb4.out _ _ _
                   generalize w4.heap.size = Y at HT ⊢)
                | (obtain ⟨V, hV⟩ : ∃ V, V = ((w4.setCell ⟨wr.heap.size, 0, none⟩ (.int .i64 (t.kind))).setCell ⟨wr.heap.size, 1, none⟩ (.int .i64 (t.n))).setCell ⟨wr.heap.size, 2, none⟩ (tv t.text) := ⟨_, rfl⟩
                   rw [← hV]
                   have HT : Hid (TwoAt wr V wr.heap.size (t.kind) (t.n) (t.text)) := by show TwoAt _ _ _ _ _ _; rw [hV]; exact twoB Hb5.out _ _ _
                   generalize wr.heap.size = Y at HT ⊢)
              clear hV
              have HV := Lib.hid (Hbw.out.trans (HT.out.below.mono Hbw.out.size))
              have HZV := Lib.hid (Hst.out.below' HT.out.below)
              have HYZ : Hid (Y ≠ Z) := by have h1 := HT.out.new; have h2 := HZl.out; show Y ≠ Z; omega
              try clear z0 z1 z2 zz
              try clear y0 y1 y2 yz
              try clear kp
              try clear p0 p1 p2
              clear c0 c1 c2 cz q0 q1 q2
              obtain ⟨y0, y1, y2, yz⟩ := HT.out.lies
              obtain ⟨z0, z1, z2, zz⟩ := HZV.out
              have HZb : Hid (Z ≠ b) := HZb0.out
              have hv0 := (setSt_far V Z t.kind t.n t.text b (off + k * 3) HZb.out).trans ((HT.out.below.cell (p := ⟨b, off + k * 3, none⟩) hbl).trans Hq.out.1)
              have hv1 := (setSt_far V Z t.kind t.n t.text b (off + k * 3 + 1) HZb.out).trans ((HT.out.below.cell (p := ⟨b, off + k * 3 + 1, none⟩) hbl).trans Hq.out.2.1)
              have hv2 := (setSt_far V Z t.kind t.n t.text b (off + k * 3 + 2) HZb.out).trans ((HT.out.below.cell (p := ⟨b, off + k * 3 + 2, none⟩) hbl).trans Hq.out.2.2)
              unfold World.setSt at hv0 hv1 hv2
              rcases five pc.1 with e | e | e | e | ⟨e2, e3, e7, e9⟩
              · rw [e] at hv0
                go_wp2
                go_roundw
                case rel => exact ⟨k + 1, by omega, by go_num, by rw [Hsn.out, Hkp.out.1]; simp [keepH, e], by rw [Hsn.out, Hkp.out.2]; simp [keepV, e], by rw [Hsn.out]; exact HZV.out.set, setSt_below HV.out Hwz.out _ _ _⟩
                case measure => simp [intOf]; omega
              · rw [e] at hv0
                go_wp2
                go_roundw
                case rel => exact ⟨k + 1, by omega, by go_num, by rw [Hsn.out, Hkp.out.1]; simp [keepH, e], by rw [Hsn.out, Hkp.out.2]; simp [keepV, e], by rw [Hsn.out]; exact HZV.out.set, setSt_below HV.out Hwz.out _ _ _⟩
                case measure => simp [intOf]; omega
              · rw [e] at hv0
                by_cases ek : pc.2.1 = key
                · have ekb : (pc.2.1 == key) = true := by simpa using ek
                  have Hek := Lib.hid ek
                  clear ek
                  go_wp2
                  go_roundw
                  case rel => exact ⟨k + 1, by omega, by go_num, by rw [Hsn.out, Hkp.out.1]; simp [keepH, e, Hek.out], by rw [Hsn.out, Hkp.out.2]; simp [keepV, e, Hek.out], by rw [Hsn.out]; exact HZV.out.set, setSt_below HV.out Hwz.out _ _ _⟩
                  case measure => simp [intOf]; omega
                · have ekb : (pc.2.1 == key) = false := by simpa using ek
                  have Hek := Lib.hid ek
                  clear ek
                  go_wp2
                  go_roundw
                  case rel => exact ⟨k + 1, by omega, by go_num, by rw [Hsn.out, Hkp.out.1]; simp [keepH, e, Hek.out], by rw [Hsn.out, Hkp.out.2]; simp [keepV, e, Hek.out], by rw [Hsn.out]; exact HZV.out.set, setSt_below HV.out Hwz.out _ _ _⟩
                  case measure => simp [intOf]; omega
              · rw [e] at hv0
                by_cases ek : pc.2.1 = key
                · have ekb : (pc.2.1 == key) = true := by simpa using ek
                  have Hek := Lib.hid ek
                  clear ek
                  go_wp2
                  go_roundw
                  case rel => exact ⟨k + 1, by omega, by go_num, by rw [Hsn.out, Hkp.out.1]; simp [keepH, e, Hek.out], by rw [Hsn.out, Hkp.out.2]; simp [keepV, e, Hek.out], by rw [Hsn.out]; exact HZV.out.set, setSt_below HV.out Hwz.out _ _ _⟩
                  case measure => simp [intOf]; omega
                · have ekb : (pc.2.1 == key) = false := by simpa using ek
                  have Hek := Lib.hid ek
                  clear ek
                  go_wp2
                  go_roundw
                  case rel => exact ⟨k + 1, by omega, by go_num, by rw [Hsn.out, Hkp.out.1]; simp [keepH, e, Hek.out], by rw [Hsn.out, Hkp.out.2]; simp [keepV, e, Hek.out], by rw [Hsn.out]; exact HZV.out.set, setSt_below HV.out Hwz.out _ _ _⟩
                  case measure => simp [intOf]; omega
              · have n2 : (pc.1 == 2) = false := by simpa using e2
                have n3 : (pc.1 == 3) = false := by simpa using e3
                have n7 : (pc.1 == 7) = false := by simpa using e7
                have n9 : (pc.1 == 9) = false := by simpa using e9
                have He := Lib.hid (And.intro e2 (And.intro e3 (And.intro e7 e9)))
                clear e2 e3 e7 e9
                go_wp2
                go_roundw
                case rel => exact ⟨k + 1, by omega, by go_num, by rw [Hsn.out, Hkp.out.1]; simp [keepH, He.out], by rw [Hsn.out, Hkp.out.2]; simp [keepV, He.out], by rw [Hsn.out]; exact HZV.out.set, setSt_below HV.out Hwz.out _ _ _⟩
                case measure => simp [intOf]; omega
          · have Hd := Lib.hid hd
            rw [hs] at Hsn
            clear hd hs hok hvn
            go_wp2
            go_region_held3 (fun w' => w'.cell? ⟨b, off + k * 3, none⟩ = some (.int .i64 pc.1) ∧ w'.cell? ⟨b, off + k * 3 + 1, none⟩ = some (.int .i64 pc.2.1) ∧ w'.cell? ⟨b, off + k * 3 + 2, none⟩ = some (.int .i64 pc.2.2) ∧ w'.cell? ⟨Z, 0, none⟩ = some (.int .i64 s.kind) ∧ w'.cell? ⟨Z, 1, none⟩ = some (.int .i64 s.n) ∧ w'.cell? ⟨Z, 2, none⟩ = some (tv s.text)) (first | go_keep | exact kp)
              (first
                | (go_at_call 12; refine (Hd.out _ HGr.out.drew).mono ?_; rintro e w4 ⟨rfl, hb4⟩; have Hb4 : Hid (Below wr.heap.size wr w4) := (below_drew (Below.refl _ wr)).trans hb4.out; have hst4 := Hst.out.below' Hb4.out; have f4 : ∀ j, w4.cell? ⟨b, j, none⟩ = wr.cell? ⟨b, j, none⟩ := (fun j => Hb4.out.cell (p := ⟨b, j, none⟩) hbl); have p0 := (f4 _).trans q0; have p1 := (f4 _).trans q1; have p2 := (f4 _).trans q2; clear f4; obtain ⟨z0, z1, z2, zz⟩ := hst4)
                | (go_at_call 12; refine (Hd.out _ ((HGr.out.below' ((Below.refl _ _).alloc (Nat.le_refl _) _)).drew)).mono ?_; rintro e w4 ⟨rfl, hb4⟩; have Hb5 := Lib.hid (below_alloc_first wr w4 () hb4.out); have hst4 := Hst.out.below' Hb5.out.1; have f4 : ∀ j, w4.cell? ⟨b, j, none⟩ = wr.cell? ⟨b, j, none⟩ := (fun j => Hb5.out.1.cell (p := ⟨b, j, none⟩) hbl); have p0 := (f4 _).trans q0; have p1 := (f4 _).trans q1; have p2 := (f4 _).trans q2; clear f4; have g4 : ∀ h j, wr.heap.size ≠ h → (World.setSt w4 wr.heap.size (0) (0) ([])).cell? ⟨h, j, none⟩ = w4.cell? ⟨h, j, none⟩ := (fun h j hh => setSt_far w4 wr.heap.size _ _ _ h j hh); obtain ⟨z0, z1, z2, zz⟩ := hst4; have hnb : wr.heap.size ≠ b := Nat.ne_of_gt hbl; have hnz : wr.heap.size ≠ Z := Nat.ne_of_gt HZl.out; have kp := And.intro ((g4 b _ hnb).trans p0) (And.intro ((g4 b _ hnb).trans p1) (And.intro ((g4 b _ hnb).trans p2) (And.intro ((g4 Z _ hnz).trans z0) (And.intro ((g4 Z _ hnz).trans z1) ((g4 Z _ hnz).trans z2))))); clear g4 hnb hnz; have hy4 := Hb5.out.2; obtain ⟨y0, y1, y2, yz⟩ := hy4))
            all_goals
              first
                | (obtain ⟨V, hV⟩ : ∃ V, V = w4.alloc (.cells #[.int .i64 (0), .int .i64 (0), .string ⟨#[]⟩] 27) := ⟨_, rfl⟩
                   rw [← hV]
                   have HT : Hid (TwoAt wr V w4.heap.size (0) (0) []) := by show TwoAt _ _ _ _ _ _; rw [hV]; exact twoA Hb4.out _ _ _
                   generalize w4.heap.size = Y at HT ⊢)
                | (obtain ⟨V, hV⟩ : ∃ V, V = ((w4.setCell ⟨wr.heap.size, 0, none⟩ (.int .i64 (0))).setCell ⟨wr.heap.size, 1, none⟩ (.int .i64 (0))).setCell ⟨wr.heap.size, 2, none⟩ (.string ⟨#[]⟩) := ⟨_, rfl⟩
                   rw [← hV]
                   have HT : Hid (TwoAt wr V wr.heap.size (0) (0) []) := by show TwoAt _ _ _ _ _ _; rw [hV]; exact twoB Hb5.out _ _ _
                   generalize wr.heap.size = Y at HT ⊢)
              clear hV
              have HV := Lib.hid (Hbw.out.trans (HT.out.below.mono Hbw.out.size))
              have HZV := Lib.hid (Hst.out.below' HT.out.below)
              have HYZ : Hid (Y ≠ Z) := by have h1 := HT.out.new; have h2 := HZl.out; show Y ≠ Z; omega
              try clear z0 z1 z2 zz
              try clear y0 y1 y2 yz
              try clear kp
              try clear p0 p1 p2
              clear c0 c1 c2 cz q0 q1 q2
              obtain ⟨y0, y1, y2, yz⟩ := HT.out.lies
              obtain ⟨z0, z1, z2, zz⟩ := HZV.out
              go_wp2
              go_roundw
              case rel => exact ⟨k + 1, by omega, by go_num, by rw [Hsn.out], by rw [Hsn.out], by rw [Hsn.out]; exact HZV.out, HV.out⟩
              case measure => simp [intOf]; omega
        · have hke : k = cs.length := by omega
          subst hke
          have hok := HSk.out cs.length (Nat.le_refl _)
          rw [List.take_length] at HR hok ⊢
          generalize runR (zeroK kd) cs = s at *
          have Hl := Lib.hid (fun W (h : Glob 129 er W) => last_true (er := er) (by decide) hok.1 key W h)
          have hkk : s.kind = (kd : Int) := hok.2
          rw [hkk] at Hl
          have hst := HR.out.1
          rw [hkk] at hst
          obtain ⟨c0, c1, c2, cz⟩ := hst
          have HGr := Lib.hid (HG.out.below' HR.out.2)
          have HR2 := Lib.hid HR.out.2
          generalize hasOf key s = hh at *
          generalize valOf key s = hv at *
          clear HR hok hkk hk hlt
          go_wp2_with (first | (go_at_call 15; refine (Hl.out _ HGr.out).mono ?_; rintro e w6 ⟨rfl, hb6⟩))
          go_roundw
          case rel => exact ⟨kd + 1, by omega, by omega, by go_num, HR2.out.trans (hb6.out.mono HR2.out.size)⟩
          case measure => simp [intOf]; omega
    · have hke : kd = 5 := by omega
      subst hke
      go_wp2
      go_ret
      exact ⟨rfl, HB.out⟩
end Go.Proofs.YtgnpcbpbmalgiaaDoor
