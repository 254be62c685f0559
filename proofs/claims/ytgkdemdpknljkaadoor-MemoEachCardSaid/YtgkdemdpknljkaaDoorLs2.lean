/- The walk of the statement on sets: the rounds. -/
import Derived.Test.YtgkdemdpknljkaaDoorLss
namespace Go.Proofs.YtgkdemdpknljkaaDoor
open Go.RowKit Go.Maps Go.WideMaps Go.WideElems Go.ChangeShapes Go.WideShapes

theorem idx_nat {ks : List Lit} {l : Lit} {z : Int} (h : idxOf ks l = some z) : ∃ k : Nat, z = (k : Int) := by
  unfold idxOf at h
  obtain ⟨k, _, rfl⟩ := Option.map_eq_some_iff.1 h
  exact ⟨k, rfl⟩

set_option maxRecDepth 100000 in
set_option maxHeartbeats 4000000 in
theorem sets_pos (b off n c : Nat) (A : Nat → Int) (most ask : Int) (w : World) (ea : Addr) (hg : w.cell? ⟨0, 0, none⟩ = some (.iface 88 (.pointer (some ea)))) (hn : n ≤ 300) (hA : ∀ i, i < n → w.cell? ⟨b, off + i, none⟩ = some (.int .i64 (A i))) (hwf : ∀ i, i < n → (Lit.int .i64 (A i)).wf = true) (hpos : 0 < n)
    (hneg : 0 ≤ most) (hmx : most ≤ 9223372036854775807) (hask : (Lit.int .i64 ask).wf = true) :
    Calls Tryd.prog 3 #[.int .i64 most, .slice (some ⟨b, off, none⟩) n c, .int .i64 ask] w fun e w' => e = .returned (.bool true) ∧ Only (fun _ => False) w w' := by
  obtain ⟨i0, hi, hz0, hz1, hz2⟩ := info_parts Tryd.info3
  have hb : b < w.heap.size := World.block_lt_of_cell? w _ (hA 0 hpos)
  have Hf := Lib.hid (first_any w ea hg)
  have HA := Lib.hid hA
  have Hwf := Lib.hid hwf
  have Hask := Lib.hid hask
  have Hg := Lib.hid hg
  have hp0 : 0 < w.heap.size := World.block_lt_of_cell? w _ hg
  have hd : decide ((300 : Int) < (n : Int)) = false := by simp; omega
  have hneq := fun w => neq_budget ea w
  clear hg hA hwf hask
  go_enter Tryd.func3, Tryd.ntmps3
  go_wp2_with (go_at_call 8; refine Hf.out.mono ?_; rintro e w1 ⟨rfl, ho⟩)
  have hnew := newi most w1
  rw [show max most 0 = most by omega] at hnew
  obtain ⟨sb, hsb⟩ : ∃ sb, sb = w1.heap.size := ⟨_, rfl⟩
  rw [← hsb] at hnew
  have Hnew := Lib.hid hnew
  have hstart : SRel w sb most 0 (.slice none 0 0) [] (w1.alloc (.cells #[.int .i64 most, .slice none 0 0, .map none] 76)) := by
    have hs := set_made 3 76 most (by omega) (by omega) w.heap.size w1 ho.size
    rw [← hsb] at hs
    exact ⟨_, _, hs, World.ownsRow_nil _ _ _ _, (fun b hb => by cases hb), ho.trans (Only.of_alloc _ _) (fun _ h => h) (fun _ h => .inl h), Nat.le_refl _⟩
  have Hstart := Lib.hid hstart
  clear hstart hnew ho hsb
  go_wp2_with (go_at_call 9; refine Hnew.out.mono ?_; rintro e w2 ⟨rfl, hw2⟩)
  rw [hw2] at Hstart
  clear hw2 Hnew
  go_loopw [9, 10] (fun v i wr => ∃ j : Nat, j ≤ n ∧ i = .int .i64 j ∧ Hid (∃ zs, SRel w sb most j v zs wr)) (fun _ i _ => n - (intOf i).toNat)
  case atStart => exact ⟨0, Nat.zero_le _, rfl, _, Hstart.out⟩
  case round =>
    obtain ⟨j, hj, rfl, Hrel⟩ := hrel
    by_cases hlt : j < n
    · obtain ⟨zs, hr⟩ := Hrel.out
      have hfit := hr.fits
      obtain ⟨v, mv, h1, h2, h3, h4, h5⟩ := id hr
      have c0 : wr.cell? ⟨b, off + j, none⟩ = some (.int .i64 (A j)) := (World.cell?_of_block (w := w) (h4.block b hb (fun h => h))).trans (HA.out j hlt)
      have hxw : Hid ((Lit.int .i64 (A j)).wf = true) := Hwf.out j hlt
      have hgr : wr.cell? ⟨0, 0, none⟩ = some (.iface 88 (.pointer (some ea))) := (World.cell?_of_block (w := w) (h4.block 0 hp0 (fun h => h))).trans Hg.out
      have hsz := h4.size
      have Hr := Lib.hid hr
      have Hset := Lib.hid h1
      have Hrow := Lib.hid h2
      have Hdis := Lib.hid h3
      have Ho := Lib.hid h4
      obtain ⟨la, lc, rfl⟩ := hr.shape
      clear hr h1 h2 h3 h4 Hrel
      generalize A j = x at *
      cases hx : idxOf (L zs) (.int .i64 x) with
      | some z =>
        obtain ⟨kx, rfl⟩ := idx_nat hx
        have Hx := Lib.hid hx
        clear hx
        go_wp2_with fail
        refine (seti_add_has _ sb v mv _ _ _ x wr hxw.out Hset.out (by rw [Hx.out]; rfl)).mono ?_
        rintro e w2 ⟨rfl, ho2⟩
        have HR := Lib.hid ((Hr.out.only ho2).mono (Nat.le_succ j))
        have c2 : w2.cell? ⟨b, off + j, none⟩ = some (.int .i64 x) := (World.cell?_of_block (w := wr) (ho2.block b (by omega) (fun h => h))).trans c0
        have hsk0 := HR.out.seek x (by omega)
        rw [Hx.out] at hsk0
        simp only [Option.getD_some] at hsk0
        have Hsk0 := Lib.hid hsk0
        clear hsk0 c0 hgr ho2
        go_wp2_with (go_at_call 11; refine Hsk0.out.mono ?_; rintro e w' ⟨rfl, rfl⟩)
        clear c2
        cases hq : idxOf (L zs) (.int .i64 ask) with
        | none =>
          have hpl := HR.out.place ask Hask.out
          rw [hq] at hpl
          simp only [Option.getD_none, Option.isSome_none] at hpl
          have Hq := Lib.hid hq
          clear hq
          refine hpl.mono ?_
          clear hpl
          rintro e w5 ⟨rfl, HR5⟩
          have hsk := HR5.out.seek ask (by omega)
          rw [Hq.out] at hsk
          simp only [Option.getD_none] at hsk
          have Hsk := Lib.hid hsk
          have Hln := Lib.hid HR5.out.len
          have Hrm := Lib.hid HR5.out.room
          clear hsk
          go_wp2_with (first | (go_at_call 11; refine Hsk.out.mono ?_; rintro e w' ⟨rfl, rfl⟩) | (go_at_call 13; refine Hln.out.mono ?_; rintro e w' ⟨rfl, rfl⟩) | (go_at_call 14; refine Hrm.out.mono ?_; rintro e w6 ⟨rfl, HR6⟩; have hhs := HR6.out.has ask Hask.out; rw [Hq.out] at hhs; simp only [Option.isSome_none] at hhs; have Hhs := Lib.hid hhs; clear hhs) | (go_at_call 15; refine Hhs.out.mono ?_; rintro e w7 ⟨rfl, HR7⟩))
          go_roundw
          case rel => exact ⟨j + 1, by omega, by go_num, _, HR7.out⟩
          case measure => simp [intOf]; omega
        | some z =>
          obtain ⟨kz, rfl⟩ := idx_nat hq
          have hpl := HR.out.place ask Hask.out
          rw [hq] at hpl
          simp only [Option.getD_some, Option.isSome_some] at hpl
          have Hq := Lib.hid hq
          clear hq
          refine hpl.mono ?_
          clear hpl
          rintro e w5 ⟨rfl, HR5⟩
          have hsk := HR5.out.seek ask (by omega)
          rw [Hq.out] at hsk
          simp only [Option.getD_some] at hsk
          have Hsk := Lib.hid hsk
          have Hln := Lib.hid HR5.out.len
          have Hrm := Lib.hid HR5.out.room
          clear hsk
          go_wp2_with (first | (go_at_call 11; refine Hsk.out.mono ?_; rintro e w' ⟨rfl, rfl⟩) | (go_at_call 13; refine Hln.out.mono ?_; rintro e w' ⟨rfl, rfl⟩) | (go_at_call 14; refine Hrm.out.mono ?_; rintro e w6 ⟨rfl, HR6⟩; have hhs := HR6.out.has ask Hask.out; rw [Hq.out] at hhs; simp only [Option.isSome_some] at hhs; have Hhs := Lib.hid hhs; clear hhs) | (go_at_call 15; refine Hhs.out.mono ?_; rintro e w7 ⟨rfl, HR7⟩))
          go_roundw
          case rel => exact ⟨j + 1, by omega, by go_num, _, HR7.out⟩
          case measure => simp [intOf]; omega
      | none =>
        have Hx := Lib.hid hx
        clear hx
        by_cases hfull : (zs.length : Int) = most
        · have hfe : ((L zs).length : Int) = most := by simpa using hfull
          have hfu : most ≤ (zs.length : Int) := by omega
          have Hfe := Lib.hid hfe
          clear hfe hfull
          go_wp2_with fail
          refine (seti_add_full _ sb v mv _ _ _ x wr _ hxw.out Hset.out (by rw [Hx.out]; rfl) Hfe.out hgr (by omega)).mono ?_
          rintro e w2 ⟨rfl, ho2⟩
          have HR := Lib.hid ((Hr.out.only ho2).mono (Nat.le_succ j))
          have c2 : w2.cell? ⟨b, off + j, none⟩ = some (.int .i64 x) := (World.cell?_of_block (w := wr) (ho2.block b (by omega) (fun h => h))).trans c0
          have hg2 : w2.cell? ⟨0, 0, none⟩ = some (.iface 88 (.pointer (some ea))) := (World.cell?_of_block (w := wr) (ho2.block 0 (by omega) (fun h => h))).trans hgr
          have hsk0 := HR.out.seek x (by omega)
          rw [Hx.out] at hsk0
          simp only [Option.getD_none] at hsk0
          have Hsk0 := Lib.hid hsk0
          clear hsk0 c0 hgr ho2
          go_wp2_with (go_at_call 11; refine Hsk0.out.mono ?_; rintro e w' ⟨rfl, rfl⟩)
          clear c2 hg2
          cases hq : idxOf (L zs) (.int .i64 ask) with
          | none =>
            have hpl := HR.out.place ask Hask.out
            rw [hq] at hpl
            simp only [Option.getD_none, Option.isSome_none] at hpl
            have Hq := Lib.hid hq
            clear hq
            refine hpl.mono ?_
            clear hpl
            rintro e w5 ⟨rfl, HR5⟩
            have hsk := HR5.out.seek ask (by omega)
            rw [Hq.out] at hsk
            simp only [Option.getD_none] at hsk
            have Hsk := Lib.hid hsk
            have Hln := Lib.hid HR5.out.len
            have Hrm := Lib.hid HR5.out.room
            clear hsk
            go_wp2_with (first | (go_at_call 11; refine Hsk.out.mono ?_; rintro e w' ⟨rfl, rfl⟩) | (go_at_call 13; refine Hln.out.mono ?_; rintro e w' ⟨rfl, rfl⟩) | (go_at_call 14; refine Hrm.out.mono ?_; rintro e w6 ⟨rfl, HR6⟩; have hhs := HR6.out.has ask Hask.out; rw [Hq.out] at hhs; simp only [Option.isSome_none] at hhs; have Hhs := Lib.hid hhs; clear hhs) | (go_at_call 15; refine Hhs.out.mono ?_; rintro e w7 ⟨rfl, HR7⟩))
            go_roundw
            case rel => exact ⟨j + 1, by omega, by go_num, _, HR7.out⟩
            case measure => simp [intOf]; omega
          | some z =>
            obtain ⟨kz, rfl⟩ := idx_nat hq
            have hpl := HR.out.place ask Hask.out
            rw [hq] at hpl
            simp only [Option.getD_some, Option.isSome_some] at hpl
            have Hq := Lib.hid hq
            clear hq
            refine hpl.mono ?_
            clear hpl
            rintro e w5 ⟨rfl, HR5⟩
            have hsk := HR5.out.seek ask (by omega)
            rw [Hq.out] at hsk
            simp only [Option.getD_some] at hsk
            have Hsk := Lib.hid hsk
            have Hln := Lib.hid HR5.out.len
            have Hrm := Lib.hid HR5.out.room
            clear hsk
            go_wp2_with (first | (go_at_call 11; refine Hsk.out.mono ?_; rintro e w' ⟨rfl, rfl⟩) | (go_at_call 13; refine Hln.out.mono ?_; rintro e w' ⟨rfl, rfl⟩) | (go_at_call 14; refine Hrm.out.mono ?_; rintro e w6 ⟨rfl, HR6⟩; have hhs := HR6.out.has ask Hask.out; rw [Hq.out] at hhs; simp only [Option.isSome_some] at hhs; have Hhs := Lib.hid hhs; clear hhs) | (go_at_call 15; refine Hhs.out.mono ?_; rintro e w7 ⟨rfl, HR7⟩))
            go_roundw
            case rel => exact ⟨j + 1, by omega, by go_num, _, HR7.out⟩
            case measure => simp [intOf]; omega
        · have hne : (zs.length : Int) < most := by omega
          have hfb : decide (most ≤ (zs.length : Int)) = false := by simp; omega
          clear hfull
          go_wp2_with fail
          refine (seti_add_new _ sb v mv _ _ _ x wr hxw.out Hset.out (by rw [Hx.out]; rfl) (by simpa using hne) (by simp; omega) hsz).mono ?_
          rintro e w2 ⟨rfl, v2, mv2, hp⟩
          have hs2 := hp.only.size
          have hbf : ¬ foot sb v mv b := fun e => by have := (Hset.out.lt b e).1; omega
          have c2 : w2.cell? ⟨b, off + j, none⟩ = some (.int .i64 x) := (World.cell?_of_block (w := wr) (hp.only.block b (by omega) hbf)).trans c0
          have hrow2 := ownsRow_only Hrow.out hp.only (fun b hb => Hdis.out b hb)
          have hsk0 := place_any _ _ _ zs x w2 hrow2 (by omega)
          rw [Hx.out] at hsk0
          simp only [Option.getD_none] at hsk0
          have Hsk0 := Lib.hid hsk0
          have Hp := Lib.hid hp
          clear hsk0 c0 hgr hp hbf
          go_wp2_with (first | (go_at_call 11; refine Hsk0.out.mono ?_; rintro e w' ⟨rfl, rfl⟩) | (at_builtin; refine wpList_append_own_at _ rfl _ _ 22 rfl w.heap.size 3 i0 (.int .i64 0) 1 8 Tryd.under22 hi hz0 hz1 hz2 rfl (by decide) _ _ _ rfl (hrow2.alloc _) ⟨w2.heap.size, 0, none⟩ 1 1 [.int .i64 x] rfl rfl (cell_one_new _ _ _) ?c2 ?c3 ?c4 ?c5 ?_))
          case c2 => intro u hu; simp at hu; subst hu; rfl
          case c3 => unfold maxLen; omega
          case c4 => omega
          case c5 => simp; omega
          intro v' w4 hown4 hgrow4 _ hloc
          have hown4' : w4.ownsRow w.heap.size 3 1 v' (zs.length + 1) (I zs ++ [.int .i64 x]) := hown4
          have HR := Lib.hid (SRel.add Hset.out Hrow.out Hdis.out Ho.out h5 Hp.out hown4' hgrow4 (by simpa using hloc))
          obtain ⟨a4, c4, rfl⟩ := ownsRow_shape hown4'
          clear hown4 hown4' hgrow4 hloc
          go_wp2_with fail
          clear c2 hrow2
          cases hq : idxOf (L (zs ++ [x])) (.int .i64 ask) with
          | none =>
            have hpl := HR.out.place ask Hask.out
            rw [hq] at hpl
            simp only [Option.getD_none, Option.isSome_none] at hpl
            have Hq := Lib.hid hq
            clear hq
            refine hpl.mono ?_
            clear hpl
            rintro e w5 ⟨rfl, HR5⟩
            have hsk := HR5.out.seek ask (by omega)
            rw [Hq.out] at hsk
            simp only [Option.getD_none] at hsk
            have Hsk := Lib.hid hsk
            have Hln := Lib.hid HR5.out.len
            have Hrm := Lib.hid HR5.out.room
            clear hsk
            go_wp2_with (first | (go_at_call 11; refine Hsk.out.mono ?_; rintro e w' ⟨rfl, rfl⟩) | (go_at_call 13; refine Hln.out.mono ?_; rintro e w' ⟨rfl, rfl⟩) | (go_at_call 14; refine Hrm.out.mono ?_; rintro e w6 ⟨rfl, HR6⟩; have hhs := HR6.out.has ask Hask.out; rw [Hq.out] at hhs; simp only [Option.isSome_none] at hhs; have Hhs := Lib.hid hhs; clear hhs) | (go_at_call 15; refine Hhs.out.mono ?_; rintro e w7 ⟨rfl, HR7⟩))
            go_roundw
            case rel => exact ⟨j + 1, by omega, by go_num, _, HR7.out⟩
            case measure => simp [intOf]; omega
          | some z =>
            obtain ⟨kz, rfl⟩ := idx_nat hq
            have hpl := HR.out.place ask Hask.out
            rw [hq] at hpl
            simp only [Option.getD_some, Option.isSome_some] at hpl
            have Hq := Lib.hid hq
            clear hq
            refine hpl.mono ?_
            clear hpl
            rintro e w5 ⟨rfl, HR5⟩
            have hsk := HR5.out.seek ask (by omega)
            rw [Hq.out] at hsk
            simp only [Option.getD_some] at hsk
            have Hsk := Lib.hid hsk
            have Hln := Lib.hid HR5.out.len
            have Hrm := Lib.hid HR5.out.room
            clear hsk
            go_wp2_with (first | (go_at_call 11; refine Hsk.out.mono ?_; rintro e w' ⟨rfl, rfl⟩) | (go_at_call 13; refine Hln.out.mono ?_; rintro e w' ⟨rfl, rfl⟩) | (go_at_call 14; refine Hrm.out.mono ?_; rintro e w6 ⟨rfl, HR6⟩; have hhs := HR6.out.has ask Hask.out; rw [Hq.out] at hhs; simp only [Option.isSome_some] at hhs; have Hhs := Lib.hid hhs; clear hhs) | (go_at_call 15; refine Hhs.out.mono ?_; rintro e w7 ⟨rfl, HR7⟩))
            go_roundw
            case rel => exact ⟨j + 1, by omega, by go_num, _, HR7.out⟩
            case measure => simp [intOf]; omega
    · go_wp2_with fail
      go_ret
      obtain ⟨_, _, _, _, _, _, ho, _⟩ := Hrel.out
      exact ⟨rfl, ho⟩
end Go.Proofs.YtgkdemdpknljkaaDoor
