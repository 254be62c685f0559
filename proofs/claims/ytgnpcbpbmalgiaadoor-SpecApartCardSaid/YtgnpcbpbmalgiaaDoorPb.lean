/- The walk of the statement on unlike keys. -/
import Derived.Test.YtgnpcbpbmalgiaaDoorPa
namespace Go.Proofs.YtgnpcbpbmalgiaaDoor
open Go.RowKit Go.Maps Go.WideMaps Go.WideElems Go.ChangeShapes Go.WideShapes

variable {er : Nat → Addr}

/-- Calls that lie. -/
def CAt (W : World) (a : Option Addr) (cs : List PC) : Prop := cs = [] ∨ ∃ b off, a = some ⟨b, off, none⟩ ∧ b < W.heap.size ∧ ∀ i, i < cs.length → W.cell? ⟨b, off + i * 3, none⟩ = some (.int .i64 (cs[i]?.getD (0, 0, 0)).1) ∧ W.cell? ⟨b, off + i * 3 + 1, none⟩ = some (.int .i64 (cs[i]?.getD (0, 0, 0)).2.1) ∧ W.cell? ⟨b, off + i * 3 + 2, none⟩ = some (.int .i64 (cs[i]?.getD (0, 0, 0)).2.2)
theorem CAt.below {W W' : World} {a : Option Addr} {l : List PC} (h : CAt W a l) (hb : Below W.heap.size W W') : CAt W' a l := by
  rcases h with h | ⟨b, off, e, hl, h⟩
  · exact .inl h
  · exact .inr ⟨b, off, e, Nat.lt_of_lt_of_le hl hb.size, fun i hi => ⟨(hb.cell (p := ⟨b, off + i * 3, none⟩) hl).trans (h i hi).1, (hb.cell (p := ⟨b, off + i * 3 + 1, none⟩) hl).trans (h i hi).2.1, (hb.cell (p := ⟨b, off + i * 3 + 2, none⟩) hl).trans (h i hi).2.2⟩⟩
/-- Their keys and values fit. -/
def CFit (cs : List PC) : Prop := ∀ c ∈ cs, fits64 c.2.1 ∧ fits64 c.2.2
theorem doV_err (n : Nat) : ∃ i, doV 129 er (.error n) = .tuple #[stv 0 0 [], .int .i64 0, .int .i64 0, errE 129 er i] := by
  cases n with
  | zero => exact ⟨0, rfl⟩
  | succ n => exact ⟨2, rfl⟩
/-- A call lies in a box. -/
structure PcAt (W : World) (B : Nat) (c : PC) : Prop where
  c0 : W.cell? ⟨B, 0, none⟩ = some (.int .i64 c.1)
  c1 : W.cell? ⟨B, 1, none⟩ = some (.int .i64 c.2.1)
  c2 : W.cell? ⟨B, 2, none⟩ = some (.int .i64 c.2.2)
theorem PcAt.below {w w' : World} {B : Nat} {c : PC} (h : PcAt w B c) (hb : Below w.heap.size w w') : PcAt w' B c := by
  have hC := World.block_lt_of_cell? w _ h.c0
  exact ⟨(hb.cell (p := ⟨B, 0, none⟩) hC).trans h.c0, (hb.cell (p := ⟨B, 1, none⟩) hC).trans h.c1, (hb.cell (p := ⟨B, 2, none⟩) hC).trans h.c2⟩
theorem pcAt_new (w : World) (c : PC) : PcAt (w.alloc (.cells #[.int .i64 c.1, .int .i64 c.2.1, .int .i64 c.2.2] 37)) w.heap.size c :=
  ⟨by rw [World.cell?_alloc_new]; rfl, by rw [World.cell?_alloc_new]; rfl, by rw [World.cell?_alloc_new]; rfl⟩
/-- One round's answer: the call's tuple. -/
theorem round_do (s : PS) (b : Nat) (hb : b ≤ 1000000) (h : s.Ok b) (c : PC) (hc : fits64 c.2.1 ∧ fits64 c.2.2) :
    (∃ t r g, doR s c.1 c.2.1 c.2.2 = .ok (t, r, g) ∧ stepR s c = t ∧ ∀ W, Glob 129 er W → Calls Tryd.prog 12 #[stv s.kind s.n s.text, .int .i64 c.1, .int .i64 c.2.1, .int .i64 c.2.2] W fun e w' => e = .returned (.tuple #[stv t.kind t.n t.text, .int .i64 r, .int .i64 g, .nilIface]) ∧ Hid (Below W.heap.size W w')) ∨
    (∃ n i, doR s c.1 c.2.1 c.2.2 = .error n ∧ stepR s c = s ∧ ∀ W, Glob 129 er W → Calls Tryd.prog 12 #[stv s.kind s.n s.text, .int .i64 c.1, .int .i64 c.2.1, .int .i64 c.2.2] W fun e w' => e = .returned (.tuple #[stv 0 0 [], .int .i64 0, .int .i64 0, errE 129 er i]) ∧ Hid (Below W.heap.size W w')) := by
  have hd := fun W (hG : Glob 129 er W) => do_any s b hb h c.1 c.2.1 c.2.2 hc.1 hc.2 W hG
  cases he : doR s c.1 c.2.1 c.2.2 with
  | ok x =>
    obtain ⟨t, r, g⟩ := x
    rw [he] at hd
    exact .inl ⟨t, r, g, rfl, by unfold stepR; rw [he], hd⟩
  | error n =>
    obtain ⟨i, hi⟩ := doV_err (er := er) n
    rw [he, hi] at hd
    exact .inr ⟨n, i, rfl, by unfold stepR; rw [he], hd⟩
theorem same_self (p : PS) (W : World) : Calls Tryd.prog 14 #[stv p.kind p.n p.text, stv p.kind p.n p.text] W fun e w' => e = .returned (.bool true) ∧ Hid (Below W.heap.size W w') := by
  have h := same_any p.kind p.n p.kind p.n p.text p.text W
  simpa using h
/-- What a call gives at a state, known ahead. -/
theorem do_known {s t : PS} {b : Nat} (hb : b ≤ 1000000) (h : s.Ok b) {c : PC} (hc : fits64 c.2.1 ∧ fits64 c.2.2) {r g : Int} (hd : doR s c.1 c.2.1 c.2.2 = .ok (t, r, g)) (W : World) (hG : Glob 129 er W) :
    Calls Tryd.prog 12 #[stv s.kind s.n s.text, .int .i64 c.1, .int .i64 c.2.1, .int .i64 c.2.2] W fun e w' => e = .returned (.tuple #[stv t.kind t.n t.text, .int .i64 r, .int .i64 g, .nilIface]) ∧ Hid (Below W.heap.size W w') := by
  have h1 := do_any s b hb h c.1 c.2.1 c.2.2 hc.1 hc.2 W hG
  rw [hd] at h1
  exact h1
/-- A map. -/
abbrev map0 : PS := ⟨4, 0, [], []⟩
theorem map0_ok : map0.Ok 0 := ⟨by decide, by decide, by decide, by decide, by decide, by decide, by decide, by decide, List.Pairwise.nil, by decide⟩

set_option maxRecDepth 100000 in
set_option maxHeartbeats 8000000 in
theorem apart_any (a : Option Addr) (c : Nat) (cs : List PC) (pa pb : PC) (w : World) (hG : Glob 129 er w) (hI : CAt w a cs) (hF : CFit cs) (ha : fits64 pa.2.1 ∧ fits64 pa.2.2) (hb : fits64 pb.2.1 ∧ fits64 pb.2.2) :
    Calls Tryd.prog 6 #[.slice a cs.length c, .agg #[.int .i64 pa.1, .int .i64 pa.2.1, .int .i64 pa.2.2], .agg #[.int .i64 pb.1, .int .i64 pb.2.1, .int .i64 pb.2.2]] w fun e w' => e = .returned (.bool true) ∧ Hid (Below w.heap.size w w') := by
  obtain ⟨W1, hW1⟩ : ∃ W, w.alloc (.cells #[.int .i64 pa.1, .int .i64 pa.2.1, .int .i64 pa.2.2] 37) = W := ⟨_, rfl⟩
  obtain ⟨W0, hW0⟩ : ∃ W, W1.alloc (.cells #[.int .i64 pb.1, .int .i64 pb.2.1, .int .i64 pb.2.2] 37) = W := ⟨_, rfl⟩
  have hb1 : Below w.heap.size w W1 := by rw [← hW1]; exact (Below.refl _ _).alloc (Nat.le_refl _) _
  have hb0 : Below W1.heap.size W1 W0 := by rw [← hW0]; exact (Below.refl _ _).alloc (Nat.le_refl _) _
  have hB : Below w.heap.size w W0 := hb1.trans (hb0.mono hb1.size)
  have hpa : PcAt W0 w.heap.size pa := (by rw [← hW1]; exact pcAt_new w pa : PcAt W1 w.heap.size pa).below hb0
  have hpb : PcAt W0 W1.heap.size pb := by
    have := pcAt_new W1 pb
    rw [hW0] at this
    exact this
  have hG0 := hG.below' hB
  have Hf := Lib.hid (first_any W0 hG0)
  have HG := Lib.hid hG0
  have HB := Lib.hid hB
  have HI := Lib.hid (hI.below hB)
  have Hpa := Lib.hid hpa
  have Hpb := Lib.hid hpb
  by_cases hbig : 300 < cs.length
  · have hd : decide ((300 : Int) < (cs.length : Int)) = true := by simp; omega
    clear hG hI hbig hb1 hb0 hB hpa hpb hG0
    go_enter Tryd.func6, Tryd.ntmps6
    go_wp2_with (first | (go_at_call 7; refine Hf.out.mono ?_; rintro e w1 ⟨rfl, hb1⟩))
    go_ret
    exact ⟨rfl, HB.out.trans (hb1.out.mono HB.out.size)⟩
  have hd : decide ((300 : Int) < (cs.length : Int)) = false := by simp; omega
  have hnew : ∀ W, Glob 129 er W → Calls Tryd.prog 8 #[.agg #[.int .i64 4, .int .i64 0]] W fun e w' => e = .returned (.tuple #[stv 4 0 [], .nilIface]) ∧ Hid (Below W.heap.size W w') := fun W h => new_any 4 0 W h
  have Hn := Lib.hid hnew
  have h300 : cs.length ≤ 300 := by omega
  have HF := Lib.hid hF
  have Ha := Lib.hid ha
  have Hb := Lib.hid hb
  have HS : Hid (∀ k, k ≤ cs.length → (runR map0 (cs.take k)).Ok 300 ∧ (runR map0 (cs.take k)).kind = 4) := fun k hk => by
    have h := runR_ok (cs := cs.take k) map0_ok
    have hl : (cs.take k).length = k := by rw [List.length_take]; omega
    rw [hl] at h
    exact ⟨⟨h.1.kind, h.1.reg, h.1.cnt, h.1.num, h.1.vs, h.1.ks, h.1.vb, h.1.kb, h.1.rises, by have := h.1.len; omega⟩, h.2⟩
  obtain ⟨PA, hPA⟩ : ∃ PA, PA = w.heap.size := ⟨_, rfl⟩
  clear hG hI hF hbig hnew ha hb hb1 hb0 hB hpa hpb hG0
  go_enter Tryd.func6, Tryd.ntmps6
  go_wp2_with (first
    | (go_at_call 7; refine Hf.out.mono ?_; rintro e w1 ⟨rfl, hb1⟩; have H1 := Lib.hid (HG.out.below' hb1.out))
    | (go_at_call 8; refine (Hn.out _ H1.out).mono ?_; rintro e w2 ⟨rfl, hb2⟩))
  have hA : Hid (Below W0.heap.size W0 (w2.alloc (.cells #[.int .i64 4, .int .i64 0, tv []] 27)) ∧ StAt (w2.alloc (.cells #[.int .i64 4, .int .i64 0, tv []] 27)) w2.heap.size 4 0 []) := by
    have h := hb1.out.trans (hb2.out.mono hb1.out.size)
    exact ⟨h.alloc h.size _, stAt_new w2 4 0 []⟩
  have Hwz : Hid (W0.heap.size ≤ w2.heap.size) := (hb1.out.trans (hb2.out.mono hb1.out.size)).size
  generalize hZ : w2.heap.size = Z at *
  clear hZ
  go_loopw [10] (fun i wr => ∃ k : Nat, k ≤ cs.length ∧ i = .int .i64 k ∧ Hid (StAt wr Z (runR map0 (cs.take k)).kind (runR map0 (cs.take k)).n (runR map0 (cs.take k)).text ∧ Below W0.heap.size W0 wr)) (fun i _ => cs.length - (intOf i).toNat)
  case atStart => exact ⟨0, Nat.zero_le _, rfl, hA.out.2, hA.out.1⟩
  case round =>
    obtain ⟨k, hk, rfl, HR⟩ := hrel
    clear hA hb1 hb2 H1 Hn Hf
    by_cases hlt : k < cs.length
    · obtain ⟨hst, hbw⟩ := HR.out
      rcases HI.out.below hbw with hz | ⟨b, off, rfl, hbl, hc⟩
      · rw [hz] at hlt; exact absurd hlt (by simp)
      obtain ⟨q0, q1, q2⟩ := hc k hlt
      have htk : cs.take (k + 1) = cs.take k ++ [cs[k]?.getD (0, 0, 0)] := by rw [List.take_add_one]; simp [hlt]
      have hfit : fits64 (cs[k]?.getD (0, 0, 0)).2.1 ∧ fits64 (cs[k]?.getD (0, 0, 0)).2.2 := by
        rw [List.getElem?_eq_getElem hlt]; exact HF.out _ (List.getElem_mem hlt)
      have hrd := round_do (er := er) _ 300 (by decide) (HS.out k hk).1 _ hfit
      have hsn : runR map0 (cs.take (k + 1)) = stepR (runR map0 (cs.take k)) (cs[k]?.getD (0, 0, 0)) := by rw [htk, runR_snoc]
      have Hsn := Lib.hid hsn
      generalize runR map0 (cs.take k) = s at *
      generalize cs[k]?.getD (0, 0, 0) = pc at *
      have HZl := Lib.hid hst.lt
      have Hst := Lib.hid hst
      have Hbw := Lib.hid hbw
      have HGr := Lib.hid (HG.out.below' hbw)
      obtain ⟨c0, c1, c2, cz⟩ := hst
      clear hc htk hfit hsn HR hbw
      rcases hrd with ⟨t, r, g, _, hs, hd⟩ | ⟨n, i, _, hs, hd⟩
      · have Hd := Lib.hid hd
        rw [hs] at Hsn
        have Hm := Lib.hid (⟨t.kind, t.n, t.text, rfl, rfl, rfl⟩ : ∃ k' n' L', t.kind = k' ∧ t.n = n' ∧ t.text = L')
        clear hd hs
        go_wp2
        go_region_held3 (fun w' => w'.cell? ⟨b, off + k * 3, none⟩ = some (.int .i64 pc.1) ∧ w'.cell? ⟨b, off + k * 3 + 1, none⟩ = some (.int .i64 pc.2.1) ∧ w'.cell? ⟨b, off + k * 3 + 2, none⟩ = some (.int .i64 pc.2.2) ∧ w'.cell? ⟨Z, 0, none⟩ = some (.int .i64 s.kind) ∧ w'.cell? ⟨Z, 1, none⟩ = some (.int .i64 s.n) ∧ w'.cell? ⟨Z, 2, none⟩ = some (tv s.text)) (first | go_keep | exact kp)
          (first
            | (go_at_call 12; refine (Hd.out _ HGr.out.drew).mono ?_; rintro e w4 ⟨rfl, hb4⟩; have Hb4 : Hid (Below wr.heap.size wr w4) := (below_drew (Below.refl _ wr)).trans hb4.out; have hst4 := Hst.out.below' Hb4.out; have f4 : ∀ j, w4.cell? ⟨b, j, none⟩ = wr.cell? ⟨b, j, none⟩ := (fun j => Hb4.out.cell (p := ⟨b, j, none⟩) hbl); have p0 := (f4 _).trans q0; have p1 := (f4 _).trans q1; have p2 := (f4 _).trans q2; clear f4; obtain ⟨z0, z1, z2, zz⟩ := hst4)
            | (go_at_call 12; refine (Hd.out _ ((HGr.out.below' ((Below.refl _ _).alloc (Nat.le_refl _) _)).drew)).mono ?_; rintro e w4 ⟨rfl, hb4⟩; have Hb5 := Lib.hid (below_alloc_first wr w4 () hb4.out); have hst4 := Hst.out.below' Hb5.out.1; have f4 : ∀ j, w4.cell? ⟨b, j, none⟩ = wr.cell? ⟨b, j, none⟩ := (fun j => Hb5.out.1.cell (p := ⟨b, j, none⟩) hbl); have p0 := (f4 _).trans q0; have p1 := (f4 _).trans q1; have p2 := (f4 _).trans q2; clear f4; have g4 : ∀ h j, wr.heap.size ≠ h → (World.setSt w4 wr.heap.size (t.kind) (t.n) (t.text)).cell? ⟨h, j, none⟩ = w4.cell? ⟨h, j, none⟩ := (fun h j hh => setSt_far w4 wr.heap.size _ _ _ h j hh); obtain ⟨z0, z1, z2, zz⟩ := hst4; have hnb : wr.heap.size ≠ b := Nat.ne_of_gt hbl; have hnz : wr.heap.size ≠ Z := Nat.ne_of_gt HZl.out; have kp := And.intro ((g4 b _ hnb).trans p0) (And.intro ((g4 b _ hnb).trans p1) (And.intro ((g4 b _ hnb).trans p2) (And.intro ((g4 Z _ hnz).trans z0) (And.intro ((g4 Z _ hnz).trans z1) ((g4 Z _ hnz).trans z2))))); clear g4 hnb hnz; have hy4 := Hb5.out.2; obtain ⟨y0, y1, y2, yz⟩ := hy4))
        all_goals
          first
            | (obtain ⟨V, hV⟩ : ∃ V, V = w4.alloc (.cells #[.int .i64 (t.kind), .int .i64 (t.n), tv t.text] 27) := ⟨_, rfl⟩
               rw [← hV]
               have HT : Hid (TwoAt wr V w4.heap.size (t.kind) (t.n) (t.text)) := by show TwoAt _ _ _ _ _ _; rw [hV]; exact twoA Hb4.out _ _ _
               generalize w4.heap.size = Y at HT ⊢)
            | (obtain ⟨V, hV⟩ : ∃ V, V = ((w4.setCell ⟨wr.heap.size, 0, none⟩ (.int .i64 (t.kind))).setCell ⟨wr.heap.size, 1, none⟩ (.int .i64 (t.n))).setCell ⟨wr.heap.size, 2, none⟩ (tv t.text) := ⟨_, rfl⟩
               rw [← hV]
               have HT : Hid (TwoAt wr V wr.heap.size (t.kind) (t.n) (t.text)) := by show TwoAt _ _ _ _ _ _; rw [hV]; exact twoB Hb5.out _ _ _
               generalize wr.heap.size = Y at HT ⊢)
          clear hV
          have HV := Lib.hid (Hbw.out.trans (HT.out.below.mono Hbw.out.size))
          have HZV := Lib.hid (Hst.out.below' HT.out.below)
          have HYZ : Hid (Y ≠ Z) := by have h1 := HT.out.new; have h2 := HZl.out; show Y ≠ Z; omega
          try clear z0 z1 z2 zz
          try clear y0 y1 y2 yz
          try clear kp
          try clear p0 p1 p2
          clear c0 c1 c2 cz q0 q1 q2
          obtain ⟨y0, y1, y2, yz⟩ := HT.out.lies
          obtain ⟨z0, z1, z2, zz⟩ := HZV.out
          go_wp2
          go_roundw
          case rel => exact ⟨k + 1, by omega, by go_num, by rw [Hsn.out]; exact HZV.out.set, setSt_below HV.out Hwz.out _ _ _⟩
          case measure => simp [intOf]; omega
      · have Hd := Lib.hid hd
        rw [hs] at Hsn
        clear hd hs
        go_wp2
        go_region_held3 (fun w' => w'.cell? ⟨b, off + k * 3, none⟩ = some (.int .i64 pc.1) ∧ w'.cell? ⟨b, off + k * 3 + 1, none⟩ = some (.int .i64 pc.2.1) ∧ w'.cell? ⟨b, off + k * 3 + 2, none⟩ = some (.int .i64 pc.2.2) ∧ w'.cell? ⟨Z, 0, none⟩ = some (.int .i64 s.kind) ∧ w'.cell? ⟨Z, 1, none⟩ = some (.int .i64 s.n) ∧ w'.cell? ⟨Z, 2, none⟩ = some (tv s.text)) (first | go_keep | exact kp)
          (first
            | (go_at_call 12; refine (Hd.out _ HGr.out.drew).mono ?_; rintro e w4 ⟨rfl, hb4⟩; have Hb4 : Hid (Below wr.heap.size wr w4) := (below_drew (Below.refl _ wr)).trans hb4.out; have hst4 := Hst.out.below' Hb4.out; have f4 : ∀ j, w4.cell? ⟨b, j, none⟩ = wr.cell? ⟨b, j, none⟩ := (fun j => Hb4.out.cell (p := ⟨b, j, none⟩) hbl); have p0 := (f4 _).trans q0; have p1 := (f4 _).trans q1; have p2 := (f4 _).trans q2; clear f4; obtain ⟨z0, z1, z2, zz⟩ := hst4)
            | (go_at_call 12; refine (Hd.out _ ((HGr.out.below' ((Below.refl _ _).alloc (Nat.le_refl _) _)).drew)).mono ?_; rintro e w4 ⟨rfl, hb4⟩; have Hb5 := Lib.hid (below_alloc_first wr w4 () hb4.out); have hst4 := Hst.out.below' Hb5.out.1; have f4 : ∀ j, w4.cell? ⟨b, j, none⟩ = wr.cell? ⟨b, j, none⟩ := (fun j => Hb5.out.1.cell (p := ⟨b, j, none⟩) hbl); have p0 := (f4 _).trans q0; have p1 := (f4 _).trans q1; have p2 := (f4 _).trans q2; clear f4; have g4 : ∀ h j, wr.heap.size ≠ h → (World.setSt w4 wr.heap.size (0) (0) ([])).cell? ⟨h, j, none⟩ = w4.cell? ⟨h, j, none⟩ := (fun h j hh => setSt_far w4 wr.heap.size _ _ _ h j hh); obtain ⟨z0, z1, z2, zz⟩ := hst4; have hnb : wr.heap.size ≠ b := Nat.ne_of_gt hbl; have hnz : wr.heap.size ≠ Z := Nat.ne_of_gt HZl.out; have kp := And.intro ((g4 b _ hnb).trans p0) (And.intro ((g4 b _ hnb).trans p1) (And.intro ((g4 b _ hnb).trans p2) (And.intro ((g4 Z _ hnz).trans z0) (And.intro ((g4 Z _ hnz).trans z1) ((g4 Z _ hnz).trans z2))))); clear g4 hnb hnz; have hy4 := Hb5.out.2; obtain ⟨y0, y1, y2, yz⟩ := hy4))
        all_goals
          first
            | (obtain ⟨V, hV⟩ : ∃ V, V = w4.alloc (.cells #[.int .i64 (0), .int .i64 (0), .string ⟨#[]⟩] 27) := ⟨_, rfl⟩
               rw [← hV]
               have HT : Hid (TwoAt wr V w4.heap.size (0) (0) []) := by show TwoAt _ _ _ _ _ _; rw [hV]; exact twoA Hb4.out _ _ _
               generalize w4.heap.size = Y at HT ⊢)
            | (obtain ⟨V, hV⟩ : ∃ V, V = ((w4.setCell ⟨wr.heap.size, 0, none⟩ (.int .i64 (0))).setCell ⟨wr.heap.size, 1, none⟩ (.int .i64 (0))).setCell ⟨wr.heap.size, 2, none⟩ (.string ⟨#[]⟩) := ⟨_, rfl⟩
               rw [← hV]
               have HT : Hid (TwoAt wr V wr.heap.size (0) (0) []) := by show TwoAt _ _ _ _ _ _; rw [hV]; exact twoB Hb5.out _ _ _
               generalize wr.heap.size = Y at HT ⊢)
          clear hV
          have HV := Lib.hid (Hbw.out.trans (HT.out.below.mono Hbw.out.size))
          have HZV := Lib.hid (Hst.out.below' HT.out.below)
          have HYZ : Hid (Y ≠ Z) := by have h1 := HT.out.new; have h2 := HZl.out; show Y ≠ Z; omega
          try clear z0 z1 z2 zz
          try clear y0 y1 y2 yz
          try clear kp
          try clear p0 p1 p2
          clear c0 c1 c2 cz q0 q1 q2
          obtain ⟨y0, y1, y2, yz⟩ := HT.out.lies
          obtain ⟨z0, z1, z2, zz⟩ := HZV.out
          go_wp2
          go_roundw
          case rel => exact ⟨k + 1, by omega, by go_num, by rw [Hsn.out]; exact HZV.out, HV.out⟩
          case measure => simp [intOf]; omega
    · have hke : k = cs.length := by omega
      subst hke
      have hok := HS.out cs.length (Nat.le_refl _)
      rw [List.take_length] at HR hok
      generalize runR map0 cs = s at *
      have Hok := Lib.hid hok
      have HW0 := Lib.hid (And.intro HR.out.2 (And.intro HR.out.1 True.intro))
      have hra := round_do (er := er) s 300 (by decide) hok.1 pa Ha.out
      have hrb := round_do (er := er) s 300 (by decide) hok.1 pb Hb.out
      have Hss := Lib.hid (fun p W => same_self p W)
      obtain ⟨m0, m1, m2⟩ := Hpa.out.below HW0.out.1
      obtain ⟨n0, n1, n2⟩ := Hpb.out.below HW0.out.1
      have Gn := Lib.hid (HG.out.below' HW0.out.1)
      obtain ⟨z0, z1, z2, zz⟩ := HW0.out.2.1
      clear HR hok hk hlt
      rcases hra with ⟨x, r, g, hda, _, hca⟩ | ⟨na, ia, _, _, hca⟩
      · rcases hrb with ⟨y, q, h, hdb, _, hcb⟩ | ⟨nb, ib, _, _, hcb⟩
        · have Hca := Lib.hid hca
          have Hcb := Lib.hid hcb
          have Hda := Lib.hid hda
          have Hdb := Lib.hid hdb
          have hl8 : pa.1 = 8 → x = s := fun e => by rw [e] at hda; exact look_same hda
          have Hl8 := Lib.hid hl8
          clear hca hcb hda hdb hl8
          have hnx : ∀ u, u = true → (!u) = false := fun u e => by rw [e]; rfl
          by_cases hkey : pa.2.1 = pb.2.1
          · have hke : (pa.2.1 == pb.2.1) = true := by simpa using hkey
            clear hkey
            by_cases h8 : pa.1 = 8
            · have h8e : (pa.1 == 8) = true := by simpa using h8
              have hxs := Hl8.out h8
              subst hxs
              clear h8
              go_wp2_with (first
                | (go_at_call 12; refine (Hca.out _ Gn.out).mono ?_; rintro e w4 ⟨rfl, hb4⟩; clear Hca m0 m1 m2 n0 n1 n2 Gn z0 z1 z2 zz; have HA1 := Lib.hid (hb4.out.alloc hb4.out.size (.cells #[.int .i64 x.kind, .int .i64 x.n, tv x.text] 27)); have HW1 := Lib.hid (And.intro (HW0.out.1.trans (HA1.out.mono HW0.out.1.size)) (And.intro (HW0.out.2.1.below' HA1.out) (And.intro (stAt_new w4 x.kind x.n x.text) (True.intro)))); have Gn := Lib.hid (HG.out.below' HW1.out.1); obtain ⟨m0, m1, m2⟩ := Hpa.out.below HW1.out.1; obtain ⟨n0, n1, n2⟩ := Hpb.out.below HW1.out.1; obtain ⟨z0, z1, z2, zz⟩ := HW1.out.2.1; obtain ⟨x0, x1, x2, xz⟩ := HW1.out.2.2.1)
                | (go_at_call 12; refine (Hcb.out _ Gn.out).mono ?_; rintro e w5 ⟨rfl, hb5⟩; clear Hcb m0 m1 m2 n0 n1 n2 Gn z0 z1 z2 zz x0 x1 x2 xz; have HA2 := Lib.hid (hb5.out.alloc hb5.out.size (.cells #[.int .i64 y.kind, .int .i64 y.n, tv y.text] 27)); have HW2 := Lib.hid (And.intro (HW1.out.1.trans (HA2.out.mono HW1.out.1.size)) (And.intro (HW1.out.2.1.below' HA2.out) (And.intro (HW1.out.2.2.1.below' HA2.out) (And.intro (stAt_new w5 y.kind y.n y.text) (True.intro))))); have Gn := Lib.hid (HG.out.below' HW2.out.1); obtain ⟨m0, m1, m2⟩ := Hpa.out.below HW2.out.1; obtain ⟨n0, n1, n2⟩ := Hpb.out.below HW2.out.1; obtain ⟨z0, z1, z2, zz⟩ := HW2.out.2.1; obtain ⟨x0, x1, x2, xz⟩ := HW2.out.2.2.1; obtain ⟨y0, y1, y2, yz⟩ := HW2.out.2.2.2.1)
                | (go_at_call 14; refine (Hss.out _ _).mono ?_; rintro e w6 ⟨rfl, hb6⟩; have HW2b := Lib.hid (And.intro (HW2.out.1.trans (hb6.out.mono HW2.out.1.size)) (And.intro (HW2.out.2.1.below' hb6.out) (And.intro (HW2.out.2.2.1.below' hb6.out) (And.intro (HW2.out.2.2.2.1.below' hb6.out) True.intro)))); clear m0 m1 m2 n0 n1 n2; clear Gn z0 z1 z2 zz x0 x1 x2 xz y0 y1 y2 yz; have Gn := Lib.hid (HG.out.below' HW2b.out.1); obtain ⟨m0, m1, m2⟩ := Hpa.out.below HW2b.out.1; obtain ⟨n0, n1, n2⟩ := Hpb.out.below HW2b.out.1; obtain ⟨z0, z1, z2, zz⟩ := HW2b.out.2.1; obtain ⟨x0, x1, x2, xz⟩ := HW2b.out.2.2.1; obtain ⟨y0, y1, y2, yz⟩ := HW2b.out.2.2.2.1))
              go_ret
              exact ⟨rfl, HB.out.trans (((HW2.out.1.trans (hb6.out.mono HW2.out.1.size))).mono HB.out.size)⟩
            · have h8e : (pa.1 == 8) = false := by simpa using h8
              clear h8
              go_wp2_with (first
                | (go_at_call 12; refine (Hca.out _ Gn.out).mono ?_; rintro e w4 ⟨rfl, hb4⟩; clear Hca m0 m1 m2 n0 n1 n2 Gn z0 z1 z2 zz; have HA1 := Lib.hid (hb4.out.alloc hb4.out.size (.cells #[.int .i64 x.kind, .int .i64 x.n, tv x.text] 27)); have HW1 := Lib.hid (And.intro (HW0.out.1.trans (HA1.out.mono HW0.out.1.size)) (And.intro (HW0.out.2.1.below' HA1.out) (And.intro (stAt_new w4 x.kind x.n x.text) (True.intro)))); have Gn := Lib.hid (HG.out.below' HW1.out.1); obtain ⟨m0, m1, m2⟩ := Hpa.out.below HW1.out.1; obtain ⟨n0, n1, n2⟩ := Hpb.out.below HW1.out.1; obtain ⟨z0, z1, z2, zz⟩ := HW1.out.2.1; obtain ⟨x0, x1, x2, xz⟩ := HW1.out.2.2.1)
                | (go_at_call 12; refine (Hcb.out _ Gn.out).mono ?_; rintro e w5 ⟨rfl, hb5⟩; clear Hcb m0 m1 m2 n0 n1 n2 Gn z0 z1 z2 zz x0 x1 x2 xz; have HA2 := Lib.hid (hb5.out.alloc hb5.out.size (.cells #[.int .i64 y.kind, .int .i64 y.n, tv y.text] 27)); have HW2 := Lib.hid (And.intro (HW1.out.1.trans (HA2.out.mono HW1.out.1.size)) (And.intro (HW1.out.2.1.below' HA2.out) (And.intro (HW1.out.2.2.1.below' HA2.out) (And.intro (stAt_new w5 y.kind y.n y.text) (True.intro))))); have Gn := Lib.hid (HG.out.below' HW2.out.1); obtain ⟨m0, m1, m2⟩ := Hpa.out.below HW2.out.1; obtain ⟨n0, n1, n2⟩ := Hpb.out.below HW2.out.1; obtain ⟨z0, z1, z2, zz⟩ := HW2.out.2.1; obtain ⟨x0, x1, x2, xz⟩ := HW2.out.2.2.1; obtain ⟨y0, y1, y2, yz⟩ := HW2.out.2.2.2.1)
                | (go_at_call 14; refine (Hss.out _ _).mono ?_; rintro e w6 ⟨rfl, hb6⟩; have HW2b := Lib.hid (And.intro (HW2.out.1.trans (hb6.out.mono HW2.out.1.size)) (And.intro (HW2.out.2.1.below' hb6.out) (And.intro (HW2.out.2.2.1.below' hb6.out) (And.intro (HW2.out.2.2.2.1.below' hb6.out) True.intro)))); clear m0 m1 m2 n0 n1 n2; clear Gn z0 z1 z2 zz x0 x1 x2 xz y0 y1 y2 yz; have Gn := Lib.hid (HG.out.below' HW2b.out.1); obtain ⟨m0, m1, m2⟩ := Hpa.out.below HW2b.out.1; obtain ⟨n0, n1, n2⟩ := Hpb.out.below HW2b.out.1; obtain ⟨z0, z1, z2, zz⟩ := HW2b.out.2.1; obtain ⟨x0, x1, x2, xz⟩ := HW2b.out.2.2.1; obtain ⟨y0, y1, y2, yz⟩ := HW2b.out.2.2.2.1))
              go_ret
              exact ⟨rfl, HB.out.trans (HW2.out.1.mono HB.out.size)⟩
          · have hke : (pa.2.1 == pb.2.1) = false := by simpa using hkey
            obtain ⟨u, hu1, hu2⟩ := apart Hok.out.2 Hok.out.1.rises Hda.out Hdb.out hkey
            have Hcx := Lib.hid (fun W (h : Glob 129 er W) => do_known (by decide) (Hok.out.1.next Hda.out).1 Hb.out hu1 W h)
            have Hcy := Lib.hid (fun W (h : Glob 129 er W) => do_known (by decide) (Hok.out.1.next Hdb.out).1 Ha.out hu2 W h)
            clear hkey hu1 hu2
            by_cases h8 : pa.1 = 8
            · have h8e : (pa.1 == 8) = true := by simpa using h8
              have hxs := Hl8.out h8
              subst hxs
              clear h8
              have Hss1 := Lib.hid Hss.out
              go_wp2_with (first
                | (go_at_call 12; refine (Hca.out _ Gn.out).mono ?_; rintro e w4 ⟨rfl, hb4⟩; clear Hca m0 m1 m2 n0 n1 n2 Gn z0 z1 z2 zz; have HA1 := Lib.hid (hb4.out.alloc hb4.out.size (.cells #[.int .i64 x.kind, .int .i64 x.n, tv x.text] 27)); have HW1 := Lib.hid (And.intro (HW0.out.1.trans (HA1.out.mono HW0.out.1.size)) (And.intro (HW0.out.2.1.below' HA1.out) (And.intro (stAt_new w4 x.kind x.n x.text) (True.intro)))); have Gn := Lib.hid (HG.out.below' HW1.out.1); obtain ⟨m0, m1, m2⟩ := Hpa.out.below HW1.out.1; obtain ⟨n0, n1, n2⟩ := Hpb.out.below HW1.out.1; obtain ⟨z0, z1, z2, zz⟩ := HW1.out.2.1; obtain ⟨x0, x1, x2, xz⟩ := HW1.out.2.2.1)
                | (go_at_call 12; refine (Hcb.out _ Gn.out).mono ?_; rintro e w5 ⟨rfl, hb5⟩; clear Hcb m0 m1 m2 n0 n1 n2 Gn z0 z1 z2 zz x0 x1 x2 xz; have HA2 := Lib.hid (hb5.out.alloc hb5.out.size (.cells #[.int .i64 y.kind, .int .i64 y.n, tv y.text] 27)); have HW2 := Lib.hid (And.intro (HW1.out.1.trans (HA2.out.mono HW1.out.1.size)) (And.intro (HW1.out.2.1.below' HA2.out) (And.intro (HW1.out.2.2.1.below' HA2.out) (And.intro (stAt_new w5 y.kind y.n y.text) (True.intro))))); have Gn := Lib.hid (HG.out.below' HW2.out.1); obtain ⟨m0, m1, m2⟩ := Hpa.out.below HW2.out.1; obtain ⟨n0, n1, n2⟩ := Hpb.out.below HW2.out.1; obtain ⟨z0, z1, z2, zz⟩ := HW2.out.2.1; obtain ⟨x0, x1, x2, xz⟩ := HW2.out.2.2.1; obtain ⟨y0, y1, y2, yz⟩ := HW2.out.2.2.2.1)
                | (go_at_call 14; first | (refine (Hss1.out _ _).mono ?_; rintro e w6 ⟨rfl, hb6⟩; have HW2b := Lib.hid (And.intro (HW2.out.1.trans (hb6.out.mono HW2.out.1.size)) (And.intro (HW2.out.2.1.below' hb6.out) (And.intro (HW2.out.2.2.1.below' hb6.out) (And.intro (HW2.out.2.2.2.1.below' hb6.out) True.intro)))); clear m0 m1 m2 n0 n1 n2; clear Hss1 Gn z0 z1 z2 zz x0 x1 x2 xz y0 y1 y2 yz; have Gn := Lib.hid (HG.out.below' HW2b.out.1); obtain ⟨m0, m1, m2⟩ := Hpa.out.below HW2b.out.1; obtain ⟨n0, n1, n2⟩ := Hpb.out.below HW2b.out.1; obtain ⟨z0, z1, z2, zz⟩ := HW2b.out.2.1; obtain ⟨x0, x1, x2, xz⟩ := HW2b.out.2.2.1; obtain ⟨y0, y1, y2, yz⟩ := HW2b.out.2.2.2.1) | (refine (Hss.out _ _).mono ?_; rintro e w9 ⟨rfl, hb9⟩))
                | (go_at_call 12; refine (Hcx.out _ Gn.out).mono ?_; rintro e w7 ⟨rfl, hb7⟩; clear Hcx m0 m1 m2 n0 n1 n2 Gn z0 z1 z2 zz x0 x1 x2 xz y0 y1 y2 yz; have HA3 := Lib.hid (hb7.out.alloc hb7.out.size (.cells #[.int .i64 u.kind, .int .i64 u.n, tv u.text] 27)); have HW3 := Lib.hid (And.intro (HW2b.out.1.trans (HA3.out.mono HW2b.out.1.size)) (And.intro (HW2b.out.2.1.below' HA3.out) (And.intro (HW2b.out.2.2.1.below' HA3.out) (And.intro (HW2b.out.2.2.2.1.below' HA3.out) (And.intro (stAt_new w7 u.kind u.n u.text) (True.intro)))))); have Gn := Lib.hid (HG.out.below' HW3.out.1); obtain ⟨m0, m1, m2⟩ := Hpa.out.below HW3.out.1; obtain ⟨n0, n1, n2⟩ := Hpb.out.below HW3.out.1; obtain ⟨z0, z1, z2, zz⟩ := HW3.out.2.1; obtain ⟨x0, x1, x2, xz⟩ := HW3.out.2.2.1; obtain ⟨y0, y1, y2, yz⟩ := HW3.out.2.2.2.1; obtain ⟨u0, u1, u2, uz⟩ := HW3.out.2.2.2.2.1)
                | (go_at_call 12; refine (Hcy.out _ Gn.out).mono ?_; rintro e w8 ⟨rfl, hb8⟩; clear Hcy m0 m1 m2 n0 n1 n2 Gn z0 z1 z2 zz x0 x1 x2 xz y0 y1 y2 yz u0 u1 u2 uz; have HA4 := Lib.hid (hb8.out.alloc hb8.out.size (.cells #[.int .i64 u.kind, .int .i64 u.n, tv u.text] 27)); have HW4 := Lib.hid (And.intro (HW3.out.1.trans (HA4.out.mono HW3.out.1.size)) (And.intro (HW3.out.2.1.below' HA4.out) (And.intro (HW3.out.2.2.1.below' HA4.out) (And.intro (HW3.out.2.2.2.1.below' HA4.out) (And.intro (HW3.out.2.2.2.2.1.below' HA4.out) (And.intro (stAt_new w8 u.kind u.n u.text) (True.intro))))))); obtain ⟨z0, z1, z2, zz⟩ := HW4.out.2.1; obtain ⟨x0, x1, x2, xz⟩ := HW4.out.2.2.1; obtain ⟨y0, y1, y2, yz⟩ := HW4.out.2.2.2.1; obtain ⟨u0, u1, u2, uz⟩ := HW4.out.2.2.2.2.1; obtain ⟨v0, v1, v2, vz⟩ := HW4.out.2.2.2.2.2.1))
              go_ret
              exact ⟨rfl, HB.out.trans ((HW4.out.1.trans (hb9.out.mono HW4.out.1.size)).mono HB.out.size)⟩
            · have h8e : (pa.1 == 8) = false := by simpa using h8
              clear h8
              go_wp2_with (first
                | (go_at_call 12; refine (Hca.out _ Gn.out).mono ?_; rintro e w4 ⟨rfl, hb4⟩; clear Hca m0 m1 m2 n0 n1 n2 Gn z0 z1 z2 zz; have HA1 := Lib.hid (hb4.out.alloc hb4.out.size (.cells #[.int .i64 x.kind, .int .i64 x.n, tv x.text] 27)); have HW1 := Lib.hid (And.intro (HW0.out.1.trans (HA1.out.mono HW0.out.1.size)) (And.intro (HW0.out.2.1.below' HA1.out) (And.intro (stAt_new w4 x.kind x.n x.text) (True.intro)))); have Gn := Lib.hid (HG.out.below' HW1.out.1); obtain ⟨m0, m1, m2⟩ := Hpa.out.below HW1.out.1; obtain ⟨n0, n1, n2⟩ := Hpb.out.below HW1.out.1; obtain ⟨z0, z1, z2, zz⟩ := HW1.out.2.1; obtain ⟨x0, x1, x2, xz⟩ := HW1.out.2.2.1)
                | (go_at_call 12; refine (Hcb.out _ Gn.out).mono ?_; rintro e w5 ⟨rfl, hb5⟩; clear Hcb m0 m1 m2 n0 n1 n2 Gn z0 z1 z2 zz x0 x1 x2 xz; have HA2 := Lib.hid (hb5.out.alloc hb5.out.size (.cells #[.int .i64 y.kind, .int .i64 y.n, tv y.text] 27)); have HW2 := Lib.hid (And.intro (HW1.out.1.trans (HA2.out.mono HW1.out.1.size)) (And.intro (HW1.out.2.1.below' HA2.out) (And.intro (HW1.out.2.2.1.below' HA2.out) (And.intro (stAt_new w5 y.kind y.n y.text) (True.intro))))); have Gn := Lib.hid (HG.out.below' HW2.out.1); obtain ⟨m0, m1, m2⟩ := Hpa.out.below HW2.out.1; obtain ⟨n0, n1, n2⟩ := Hpb.out.below HW2.out.1; obtain ⟨z0, z1, z2, zz⟩ := HW2.out.2.1; obtain ⟨x0, x1, x2, xz⟩ := HW2.out.2.2.1; obtain ⟨y0, y1, y2, yz⟩ := HW2.out.2.2.2.1)
                | (go_at_call 12; refine (Hcx.out _ Gn.out).mono ?_; rintro e w7 ⟨rfl, hb7⟩; clear Hcx m0 m1 m2 n0 n1 n2 Gn z0 z1 z2 zz x0 x1 x2 xz y0 y1 y2 yz; have HA3 := Lib.hid (hb7.out.alloc hb7.out.size (.cells #[.int .i64 u.kind, .int .i64 u.n, tv u.text] 27)); have HW3 := Lib.hid (And.intro (HW2.out.1.trans (HA3.out.mono HW2.out.1.size)) (And.intro (HW2.out.2.1.below' HA3.out) (And.intro (HW2.out.2.2.1.below' HA3.out) (And.intro (HW2.out.2.2.2.1.below' HA3.out) (And.intro (stAt_new w7 u.kind u.n u.text) (True.intro)))))); have Gn := Lib.hid (HG.out.below' HW3.out.1); obtain ⟨m0, m1, m2⟩ := Hpa.out.below HW3.out.1; obtain ⟨n0, n1, n2⟩ := Hpb.out.below HW3.out.1; obtain ⟨z0, z1, z2, zz⟩ := HW3.out.2.1; obtain ⟨x0, x1, x2, xz⟩ := HW3.out.2.2.1; obtain ⟨y0, y1, y2, yz⟩ := HW3.out.2.2.2.1; obtain ⟨u0, u1, u2, uz⟩ := HW3.out.2.2.2.2.1)
                | (go_at_call 12; refine (Hcy.out _ Gn.out).mono ?_; rintro e w8 ⟨rfl, hb8⟩; clear Hcy m0 m1 m2 n0 n1 n2 Gn z0 z1 z2 zz x0 x1 x2 xz y0 y1 y2 yz u0 u1 u2 uz; have HA4 := Lib.hid (hb8.out.alloc hb8.out.size (.cells #[.int .i64 u.kind, .int .i64 u.n, tv u.text] 27)); have HW4 := Lib.hid (And.intro (HW3.out.1.trans (HA4.out.mono HW3.out.1.size)) (And.intro (HW3.out.2.1.below' HA4.out) (And.intro (HW3.out.2.2.1.below' HA4.out) (And.intro (HW3.out.2.2.2.1.below' HA4.out) (And.intro (HW3.out.2.2.2.2.1.below' HA4.out) (And.intro (stAt_new w8 u.kind u.n u.text) (True.intro))))))); obtain ⟨z0, z1, z2, zz⟩ := HW4.out.2.1; obtain ⟨x0, x1, x2, xz⟩ := HW4.out.2.2.1; obtain ⟨y0, y1, y2, yz⟩ := HW4.out.2.2.2.1; obtain ⟨u0, u1, u2, uz⟩ := HW4.out.2.2.2.2.1; obtain ⟨v0, v1, v2, vz⟩ := HW4.out.2.2.2.2.2.1)
                | (go_at_call 14; refine (Hss.out _ _).mono ?_; rintro e w9 ⟨rfl, hb9⟩))
              go_ret
              exact ⟨rfl, HB.out.trans ((HW4.out.1.trans (hb9.out.mono HW4.out.1.size)).mono HB.out.size)⟩
        · have Hca := Lib.hid hca
          have Hcb := Lib.hid hcb
          clear hca hcb
          go_wp2_with (first
            | (go_at_call 12; refine (Hca.out _ Gn.out).mono ?_; rintro e w4 ⟨rfl, hb4⟩; clear Hca m0 m1 m2 n0 n1 n2 Gn z0 z1 z2 zz; have HA1 := Lib.hid (hb4.out.alloc hb4.out.size (.cells #[.int .i64 x.kind, .int .i64 x.n, tv x.text] 27)); have HW1 := Lib.hid (And.intro (HW0.out.1.trans (HA1.out.mono HW0.out.1.size)) (And.intro (HW0.out.2.1.below' HA1.out) (And.intro (stAt_new w4 x.kind x.n x.text) (True.intro)))); have Gn := Lib.hid (HG.out.below' HW1.out.1); obtain ⟨m0, m1, m2⟩ := Hpa.out.below HW1.out.1; obtain ⟨n0, n1, n2⟩ := Hpb.out.below HW1.out.1; obtain ⟨z0, z1, z2, zz⟩ := HW1.out.2.1; obtain ⟨x0, x1, x2, xz⟩ := HW1.out.2.2.1)
            | (go_at_call 12; refine (Hcb.out _ Gn.out).mono ?_; rintro e w5 ⟨rfl, hb5⟩; clear Hcb m0 m1 m2 n0 n1 n2 Gn z0 z1 z2 zz x0 x1 x2 xz; have HA2 := Lib.hid (hb5.out.alloc hb5.out.size (.cells #[.int .i64 0, .int .i64 0, tv []] 27)); have HW2 := Lib.hid (And.intro (HW1.out.1.trans (HA2.out.mono HW1.out.1.size)) (And.intro (HW1.out.2.1.below' HA2.out) (And.intro (HW1.out.2.2.1.below' HA2.out) (And.intro (stAt_new w5 0 0 []) (True.intro))))); have Gn := Lib.hid (HG.out.below' HW2.out.1); obtain ⟨m0, m1, m2⟩ := Hpa.out.below HW2.out.1; obtain ⟨n0, n1, n2⟩ := Hpb.out.below HW2.out.1; obtain ⟨z0, z1, z2, zz⟩ := HW2.out.2.1; obtain ⟨x0, x1, x2, xz⟩ := HW2.out.2.2.1; obtain ⟨y0, y1, y2, yz⟩ := HW2.out.2.2.2.1))
          go_ret
          exact ⟨rfl, HB.out.trans (HW2.out.1.mono HB.out.size)⟩
      · rcases hrb with ⟨y, q, h, _, _, hcb⟩ | ⟨nb, ib, _, _, hcb⟩
        · have Hca := Lib.hid hca
          have Hcb := Lib.hid hcb
          clear hca hcb
          go_wp2_with (first
            | (go_at_call 12; refine (Hca.out _ Gn.out).mono ?_; rintro e w4 ⟨rfl, hb4⟩; clear Hca m0 m1 m2 n0 n1 n2 Gn z0 z1 z2 zz; have HA1 := Lib.hid (hb4.out.alloc hb4.out.size (.cells #[.int .i64 0, .int .i64 0, tv []] 27)); have HW1 := Lib.hid (And.intro (HW0.out.1.trans (HA1.out.mono HW0.out.1.size)) (And.intro (HW0.out.2.1.below' HA1.out) (And.intro (stAt_new w4 0 0 []) (True.intro)))); have Gn := Lib.hid (HG.out.below' HW1.out.1); obtain ⟨m0, m1, m2⟩ := Hpa.out.below HW1.out.1; obtain ⟨n0, n1, n2⟩ := Hpb.out.below HW1.out.1; obtain ⟨z0, z1, z2, zz⟩ := HW1.out.2.1; obtain ⟨x0, x1, x2, xz⟩ := HW1.out.2.2.1)
            | (go_at_call 12; refine (Hcb.out _ Gn.out).mono ?_; rintro e w5 ⟨rfl, hb5⟩; clear Hcb m0 m1 m2 n0 n1 n2 Gn z0 z1 z2 zz x0 x1 x2 xz; have HA2 := Lib.hid (hb5.out.alloc hb5.out.size (.cells #[.int .i64 y.kind, .int .i64 y.n, tv y.text] 27)); have HW2 := Lib.hid (And.intro (HW1.out.1.trans (HA2.out.mono HW1.out.1.size)) (And.intro (HW1.out.2.1.below' HA2.out) (And.intro (HW1.out.2.2.1.below' HA2.out) (And.intro (stAt_new w5 y.kind y.n y.text) (True.intro))))); have Gn := Lib.hid (HG.out.below' HW2.out.1); obtain ⟨m0, m1, m2⟩ := Hpa.out.below HW2.out.1; obtain ⟨n0, n1, n2⟩ := Hpb.out.below HW2.out.1; obtain ⟨z0, z1, z2, zz⟩ := HW2.out.2.1; obtain ⟨x0, x1, x2, xz⟩ := HW2.out.2.2.1; obtain ⟨y0, y1, y2, yz⟩ := HW2.out.2.2.2.1))
          go_ret
          exact ⟨rfl, HB.out.trans (HW2.out.1.mono HB.out.size)⟩
        · have Hca := Lib.hid hca
          have Hcb := Lib.hid hcb
          clear hca hcb
          go_wp2_with (first
            | (go_at_call 12; refine (Hca.out _ Gn.out).mono ?_; rintro e w4 ⟨rfl, hb4⟩; clear Hca m0 m1 m2 n0 n1 n2 Gn z0 z1 z2 zz; have HA1 := Lib.hid (hb4.out.alloc hb4.out.size (.cells #[.int .i64 0, .int .i64 0, tv []] 27)); have HW1 := Lib.hid (And.intro (HW0.out.1.trans (HA1.out.mono HW0.out.1.size)) (And.intro (HW0.out.2.1.below' HA1.out) (And.intro (stAt_new w4 0 0 []) (True.intro)))); have Gn := Lib.hid (HG.out.below' HW1.out.1); obtain ⟨m0, m1, m2⟩ := Hpa.out.below HW1.out.1; obtain ⟨n0, n1, n2⟩ := Hpb.out.below HW1.out.1; obtain ⟨z0, z1, z2, zz⟩ := HW1.out.2.1; obtain ⟨x0, x1, x2, xz⟩ := HW1.out.2.2.1)
            | (go_at_call 12; refine (Hcb.out _ Gn.out).mono ?_; rintro e w5 ⟨rfl, hb5⟩; clear Hcb m0 m1 m2 n0 n1 n2 Gn z0 z1 z2 zz x0 x1 x2 xz; have HA2 := Lib.hid (hb5.out.alloc hb5.out.size (.cells #[.int .i64 0, .int .i64 0, tv []] 27)); have HW2 := Lib.hid (And.intro (HW1.out.1.trans (HA2.out.mono HW1.out.1.size)) (And.intro (HW1.out.2.1.below' HA2.out) (And.intro (HW1.out.2.2.1.below' HA2.out) (And.intro (stAt_new w5 0 0 []) (True.intro))))); have Gn := Lib.hid (HG.out.below' HW2.out.1); obtain ⟨m0, m1, m2⟩ := Hpa.out.below HW2.out.1; obtain ⟨n0, n1, n2⟩ := Hpb.out.below HW2.out.1; obtain ⟨z0, z1, z2, zz⟩ := HW2.out.2.1; obtain ⟨x0, x1, x2, xz⟩ := HW2.out.2.2.1; obtain ⟨y0, y1, y2, yz⟩ := HW2.out.2.2.2.1))
          go_ret
          exact ⟨rfl, HB.out.trans (HW2.out.1.mono HB.out.size)⟩
end Go.Proofs.YtgnpcbpbmalgiaaDoor
