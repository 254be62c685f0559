/- Helpers, joined: Kc, Kd, Ke, Ka. -/
import Derived.Test.YthgkloapnihpaaaGreatM6
import Derived.RangeFuncNested
import Derived.RangeFuncBound
import Derived.RangeFuncCalls
import Derived.RangeFuncLeaves
import Derived.RangeFuncFrom
import Derived.RangeFuncWrites
import Derived.OwnWalkIn
import Derived.TacticsInMore
import Derived.LoopNIn
import Derived.LoopIn
import Derived.Shelf.RegionOpen

/- Graphs: how far nodes are from one (away), the nearest of those that an edge leads to (nearest), by contracts. -/
namespace Go.Proofs.YthgkloapnihpaaaGreat
open Go.RowKit Go.Maps Go.WideMaps Go.WideElems Go.ChangeShapes Go.WideShapes

/-- A map of distances. -/
structure AwAt (am k : Nat) (L : List Int) (f : Int → Nat) (W : World) : Prop where
  ex : ∃ DH, DomAt Tryz.prog 3 il fit64 asIs am k L DH W ∧ ∀ b, fit64 b → DH.atKey (il b) (.held (iv 0)) = .held (iv (if b ∈ L then (f b : Int) else 0))
  once : L.Nodup
/-- How many entries a map has. -/
def mapSz (W : World) (b : Nat) : Nat := match W.heap[b]? with
  | some (.map es _) => es.size
  | _ => 0
theorem mapSz_is {b n : Nat} {L : List Int} {D : DV} {W : World} (h : DomAt Tryz.prog 3 il fit64 asIs b n L D W) (hn : L.Nodup) : mapSz W b = L.length := by
  have h1 := dom_count h hn
  obtain ⟨es, clock, hb, F, hs, hD⟩ := h.own
  rw [hD] at h1
  unfold mapSz
  rw [hb]
  simp only [Maps.size] at h1
  rw [length_sorted] at h1
  simpa using h1
section
variable {am k : Nat} {L : List Int} {f : Int → Nat} {W W' : World}
theorem AwAt.kept {row : Option Nat} (h : AwAt am k L f W) (hg : W.grownBy W' row) (hne : some am ≠ row) : AwAt am k L f W' := by
  obtain ⟨DH, h1, h2⟩ := h.ex
  exact ⟨⟨DH, h1.kept hg hne, h2⟩, h.once⟩
theorem AwAt.look (h : AwAt am k L f W) {b : Int} (hb : fit64 b) (hL : b ∈ L) : (Instr.lookup 54 (.map (some am)) (iv b) false).run Tryz.prog W = .ok (iv (f b)) W := by
  obtain ⟨DH, h1, h2⟩ := h.ex
  exact look_as h1 Tryz.underlying54 (zero3 W) hb ((h2 b hb).trans (by rw [if_pos hL]))
theorem AwAt.lookOk (h : AwAt am k L f W) {b : Int} (hb : fit64 b) : (Instr.lookup 54 (.map (some am)) (iv b) true).run Tryz.prog W = .ok (.tuple #[iv (if b ∈ L then (f b : Int) else 0), .bool (decide (b ∈ L))]) W := by
  obtain ⟨DH, h1, h2⟩ := h.ex
  exact look_ok_as h1 Tryz.underlying54 (zero3 W) hb (h2 b hb)
theorem AwAt.obj (h : AwAt am k L f W) : ∃ o, W.heap[am]? = some o ∧ o.isCells = false := by
  obtain ⟨DH, h1, h2⟩ := h.ex
  exact dom_obj h1
theorem AwAt.lt (h : AwAt am k L f W) : am < W.heap.size := by
  obtain ⟨DH, h1, h2⟩ := h.ex
  exact h1.own.lt
theorem AwAt.sz (h : AwAt am k L f W) : mapSz W am = L.length := by
  obtain ⟨DH, h1, h2⟩ := h.ex
  exact mapSz_is h1 h.once
theorem AwAt.put (h : AwAt am k L f W) {b : Int} {v : Nat} (hb : fit64 b) (hL : b ∉ L) (hk : k < maxLen) : ∃ W7, (Instr.mapUpdate 54 (.map (some am)) (iv b) (iv v)).run Tryz.prog W = .ok () W7 ∧ AwAt am (k + 1) (L ++ [b]) (fun c => if c = b then v else f c) W7 ∧ W.grownBy W7 (some am) := by
  obtain ⟨DH, h1, h2⟩ := h.ex
  obtain ⟨W7, g1, g2, g3⟩ := put_as h1 Tryz.underlying54 hk hb (iv v) (L' := L ++ [b]) (fun y => by simp)
  refine ⟨W7, g1, ⟨⟨_, g2, fun c hc => ?_⟩, ?_⟩, g3⟩
  · rw [at_put h1 hb hc]
    by_cases e : c = b
    · subst e
      rw [if_pos rfl, if_pos (by simp), if_pos rfl]
    · rw [if_neg e, h2 c hc]
      simp only [e, if_false]
      by_cases g : c ∈ L
      · rw [if_pos g, if_pos (by simp [g])]
      · rw [if_neg g, if_neg (by simp [g, e])]
  · rw [List.nodup_append]
    exact ⟨h.once, by simp, fun x hx y hy e => by rw [List.mem_singleton] at hy; subst hy e; exact hL hx⟩
end
theorem aw_made (w : World) : AwAt w.heap.size 0 [] (fun _ => 0) (w.alloc (.map #[] 0)) := ⟨⟨.map [], dom_made Tryz.prog 3 il fit64 asIs w, fun _ _ => rfl⟩, by simp⟩
/-- Where the search stands. -/
structure BfSt (V : World) (am k : Nat) (R : Int → Int → Prop) (s : Int) (N P rim row L : List Int) (f : Int → Nat) (v7 : Value) (W : World) : Prop where
  aw : AwAt am k L f W
  row : IntsO W V.heap.size v7 row
  gro : V.grownBy W none
  bfs : BfsOk R s P rim f
  mem : ∀ x, x ∈ L ↔ x ∈ P ++ rim
  sub : ∀ x ∈ L, x ∈ N
  len : k = L.length
theorem BfSt.kept {V : World} {am k : Nat} {R : Int → Int → Prop} {s : Int} {N P rim row L : List Int} {f : Int → Nat} {v7 : Value} {W W' : World} (h : BfSt V am k R s N P rim row L f v7 W) (hg : W.grownBy W' none) : BfSt V am k R s N P rim row L f v7 W' :=
  ⟨h.aw.kept hg (by simp), h.row.kept hg (by cases v7.ownBlock <;> simp), h.gro.trans hg, h.bfs, h.mem, h.sub, h.len⟩
theorem BfSt.bound {V : World} {am k : Nat} {R : Int → Int → Prop} {s : Int} {N P rim row L : List Int} {f : Int → Nat} {v7 : Value} {W : World} (h : BfSt V am k R s N P rim row L f v7 W) : L.length ≤ N.length ∧ P.length + rim.length = L.length := by
  refine ⟨len_le h.aw.once h.sub, ?_⟩
  have := perm_of_mem h.bfs.once h.aw.once fun x => (h.mem x).symm
  rw [List.length_append] at this
  exact this
set_option maxHeartbeats 128000000 in
set_option maxRecDepth 100000 in
theorem away_any {Z : Nat → Prop} {B g c : Nat} {N : List Int} {E : List Ed} (s : Int) (hs : s ∈ N) (hN : N.length ≤ 500) (w : World) (h : GrAt Z B g c N E w) :
    Calls Tryz.prog 34 #[.pointer (some ⟨g, 0, none⟩), iv s] w fun e w' => ∃ am k L f, e = .returned (.map (some am)) ∧ Hid (AwAt am k L f w' ∧ (∀ a, a ∈ L ↔ ∃ n, Dst (EdR E) s a n) ∧ (∀ a ∈ L, Dst (EdR E) s a (f a)) ∧ Below w.heap.size w w') := by
  have hmm := @run_makeMap Tryz.prog
  have Hends : Hid (EndsIn N E) := by obtain ⟨ob, DO, F, DI, f, h, hZ⟩ := h; exact h.ends
  have Hfit : Hid (∀ a ∈ N, fit64 a) := by obtain ⟨ob, DO, F, DI, f, h, hZ⟩ := h; exact fun a ha => h.dom.fit a ha
  have HN := Lib.hid hN
  have Hs := Lib.hid hs
  have HT := Lib.hid (turned_any hN w h)
  obtain ⟨n, hn⟩ : ∃ n, N.length = n := ⟨_, rfl⟩
  have Hn := Lib.hid hn
  clear h hs hN hn
  go_enter Tryz.func34, Tryz.ntmps34
  go_wp2_with (first
    | (go_at_call 37; (with_reducible refine HT.out.mono ?_); rintro e V ⟨tb, rfl, KT⟩
       obtain ⟨V1, hV1⟩ : ∃ W, V.alloc (.map #[] 0) = W := ⟨_, rfl⟩
       have hg1 : V.grownBy V1 none := by rw [← hV1]; exact World.grownBy_alloc V _ none
       have hA1 : AwAt V.heap.size 0 [] (fun _ => 0) V1 := by rw [← hV1]; exact aw_made V
       obtain ⟨V2, hup, hA2, hg2⟩ := hA1.put (v := 0) (Hfit.out s Hs.out) (by simp) (by unfold maxLen; omega)
       have hup0 : (Instr.mapUpdate 54 (.map (some V.heap.size)) (iv s) (iv 0)).run Tryz.prog V1 = .ok () V2 := hup
       obtain ⟨V3, hV3⟩ : ∃ W, V2.alloc (.cells #[iv s] 3) = W := ⟨_, rfl⟩
       have hgv2 : V.grownBy V2 none := hg1.andThen hg2 (fun q e => .inl (by cases e; exact Nat.le_refl _))
       have H0 : Hid (BfSt V V.heap.size 1 (EdR E) s N [] [s] [s] [s] (fun c => if c = s then 0 else 0) (.slice (some ⟨V2.heap.size, 0, none⟩) 1 1) V3) := by
         rw [← hV3]
         refine ⟨hA2.kept (World.grownBy_alloc V2 _ none) (by simp), intsO_one V2 _ hgv2.size s, hgv2.trans (World.grownBy_alloc V2 _ none), BfsOk.start (by simp), fun x => by simp, fun x hx => ?_, rfl⟩
         simp at hx
         rw [hx]
         exact Hs.out
       clear hg1 hA1 hA2 hg2 hup hgv2)
    | go_in)
  try go_frame
  go_loopw [7] (fun v7 wr => ∃ k P rim L f, Hid (BfSt V V.heap.size k (EdR E) s N P rim rim L f v7 wr)) (fun v7 wr => n + lenOf v7 - mapSz wr V.heap.size)
  case atStart => exact ⟨1, [], [s], [s], _, H0⟩
  case round =>
    obtain ⟨k, P, rim, L, f, HB⟩ := hrel
    obtain ⟨wa, hwa⟩ : ∃ wa, wa = wr := ⟨_, rfl⟩
    subst hwa
    obtain ⟨p7, c7, rfl, hc7, hsl⟩ := HB.out.row.form
    have hbd := HB.out.bound
    rw [Hn.out] at hbd
    cases rim with
    | nil =>
      simp only [List.length_nil] at *
      have HB2 : Hid (BfSt V V.heap.size k (EdR E) s N P [] [] L f (.slice p7 0 c7) wa) := HB
      clear hsl hc7 HB
      go_wp2
      go_ret
      refine ⟨V.heap.size, k, L, f, rfl, HB2.out.aw, fun a => ?_, fun a ha => HB2.out.bfs.exact a ((HB2.out.mem a).1 ha), KT.out.2.1.grown (HB2.out.gro) KT.out.2.1.size (fun q e => by cases e)⟩
      rw [HB2.out.mem a, List.append_nil]
      exact HB2.out.bfs.all a
    | cons x rest =>
      obtain ⟨g7, off7, rfl, hgb, hgl, hcell⟩ := hsl (by simp)
      have ct := hcell 0 (by simp)
      rw [List.getD_cons_zero, Nat.add_zero] at ct
      have hxL : x ∈ L := (HB.out.mem x).2 (by simp)
      obtain ⟨-, h1c, htl⟩ := HB.out.row.tail
      have Htl := Lib.hid htl
      have Hfx := Lib.hid (Hfit.out x (HB.out.sub x hxL))
      have HxL := Lib.hid hxL
      have hbV : Below V.heap.size V wa := grown_of_below HB.out.gro
      obtain ⟨v30, zs, hl30, ho30, hz30, hm30⟩ := KT.out.1.ex x Hfx.out
      have hlk := hl30 wa hbV
      obtain ⟨p30, c30, rfl, hs30⟩ := (ho30.below hbV).sl
      have Ho30 := Lib.hid ho30
      have Hz30 := Lib.hid hz30
      have Hm30 := Lib.hid hm30
      obtain ⟨zl, hzl⟩ : ∃ zl, zs.length = zl := ⟨_, rfl⟩
      have Hzl := Lib.hid hzl
      rw [List.length_cons] at hc7 hbd ⊢
      obtain ⟨m, hm⟩ : ∃ m, rest.length = m := ⟨_, rfl⟩
      have Hm := Lib.hid hm
      rw [hm] at hc7 hbd Htl ⊢
      rw [hzl] at hlk
      have hzb : zl ≤ 500 := by
        have h1 := len_le hz30 (m := N) fun y hy => (Hends.out y x ((hm30 y).1 hy)).1
        have := HN.out
        omega
      have Hbd := Lib.hid hbd
      have hg0 : decide ((0 : Int) < (m : Int) + 1) = true := by simp
      have hix1 : (0 : Int) < (m : Int) + 1 := by omega
      clear hsl hcell hgb hgl htl hxL hbV hl30 ho30 hz30 hm30 hs30 hzl hm hbd
      by_cases hc1 : c7 = 1
      · subst hc1
        obtain rfl : m = 0 := by omega
        have HV : IntsO wa V.heap.size (.slice (some ⟨g7, off7, none⟩) 0 0) rest := Htl.out
        go_wp2
        have H1 : Hid (BfSt V V.heap.size k (EdR E) s N P (x :: (rest ++ ([] : List Int))) (rest ++ ([] : List Int)) L f (.slice (some ⟨g7, off7, none⟩) 0 0) wa) := by
          rw [List.append_nil]
          exact ⟨HB.out.aw, HV, HB.out.gro, HB.out.bfs, HB.out.mem, HB.out.sub, HB.out.len⟩
        clear HV ct hlk
        try go_frame
        go_loopw [7, 32] (fun v7 i wr => ∃ (q k : Nat) (new L : List Int) (f : Int → Nat), q ≤ zl ∧ i = .int .i64 ((q : Nat) : Int) ∧ Hid (BfSt V V.heap.size k (EdR E) s N P (x :: (rest ++ new)) (rest ++ new) L f v7 wr ∧ (∀ y ∈ zs.take q, y ∈ L))) (fun _ i _ => zl - (intOf i).toNat)
        case atStart => exact ⟨0, k, [], L, f, Nat.zero_le _, rfl, H1.out, by simp⟩
        case round =>
          obtain ⟨q, k2, new, L2, f2, hq, rfl, HI⟩ := hrel
          obtain ⟨wb, hwb⟩ : ∃ wb, wb = wr := ⟨_, rfl⟩
          subst hwb
          have hbd2 := HI.out.1.bound
          rw [Hn.out, List.length_cons, List.length_append, Hm.out] at hbd2
          by_cases hlt : q < zl
          · have hqz : q < zs.length := by rw [Hzl.out]; exact hlt
            have hsl : SlI wb p30 zs := by
              obtain ⟨p, c, e, hs⟩ := (Ho30.out.below (grown_of_below HI.out.1.gro)).sl
              simp only [Value.slice.injEq] at e
              rw [e.1]
              exact hs
            obtain ⟨b30, off30, rfl, hc0⟩ := hsl.at hqz
            have haz := getD_in (d := 0) hqz
            have htk := take_more hqz
            obtain ⟨a, ha⟩ : ∃ a, zs.getD q 0 = a := ⟨_, rfl⟩
            rw [ha] at hc0 haz htk
            have haR : EdR E a x := (Hm30.out a).1 haz
            have hfa := Hfit.out a (Hends.out a x haR).1
            have Htk := Lib.hid htk
            have hltI : (q : Int) < (zl : Int) := by omega
            have hlk := HI.out.1.aw.lookOk hfa
            by_cases haL : a ∈ L2
            · rw [decide_eq_true haL] at hlk
              generalize (if a ∈ L2 then ((f2 a : Nat) : Int) else 0) = av at hlk
              have HaL := Lib.hid haL
              clear hsl haz htk ha hqz haR hfa haL hbd2
              go_wp2
              go_roundw
              case rel =>
                refine ⟨q + 1, k2, new, L2, f2, by omega, by go_num, HI.out.1, fun y hy => ?_⟩
                rw [Htk.out] at hy
                rcases List.mem_append.1 hy with h1 | h1
                · exact HI.out.2 y h1
                · rw [List.mem_singleton] at h1; rw [h1]; exact HaL.out
              case measure => simp [intOf]; omega
            · rw [decide_eq_false haL, if_neg haL] at hlk
              have hxL2 : x ∈ L2 := (HI.out.1.mem x).2 (by simp)
              have hlx := HI.out.1.aw.look Hfx.out hxL2
              obtain ⟨d, hd⟩ : ∃ d, f2 x = d := ⟨_, rfl⟩
              rw [hd] at hlx
              have hdn : d ≤ 500 := by
                have h1 := dst_lt (N := N) Hends.out (HI.out.1.sub x hxL2) (HI.out.1.bfs.exact x ((HI.out.1.mem x).1 hxL2))
                have := HN.out
                omega
              have hk2 := HI.out.1.len
              have hnb := HN.out
              rw [Hn.out] at hnb
              obtain ⟨W7, hup, hA7, hg7⟩ := HI.out.1.aw.put (b := a) (v := d + 1) hfa haL (by unfold maxLen; omega)
              have hup2 : (Instr.mapUpdate 54 (.map (some V.heap.size)) (iv a) (iv ((d : Int) + 1))).run Tryz.prog wb = .ok () W7 := hup
              obtain ⟨o7, ho7, hc7b⟩ := HI.out.1.aw.obj
              have hadd : BfsOk (EdR E) s P (x :: (rest ++ new ++ [a])) (fun c => if c = a then d + 1 else f2 c) := by
                have h1 := HI.out.1.bfs.add (a := a) (f' := fun c => if c = a then d + 1 else f2 c) (fun h => haL ((HI.out.1.mem a).2 h)) haR (by simp [hd]) (fun y hy => by
                  have hya : y ≠ a := fun e => haL ((HI.out.1.mem a).2 (e ▸ hy))
                  simp [hya])
                exact h1
              have Hadd := Lib.hid hadd
              have HA7 := Lib.hid hA7
              have HR7 := Lib.hid (HI.out.1.row.kept hg7 (.inr (HI.out.1.row.no ho7 hc7b)))
              have Hgr7 : Hid (V.grownBy W7 none) := HI.out.1.gro.andThen hg7 (fun q e => .inl (by cases e; exact Nat.le_refl _))
              have HaN : Hid (a ∈ N) := (Hends.out a x haR).1
              have hrl : (rest ++ new).length ≤ 1000000 := by rw [List.length_append, Hm.out]; omega
              clear hsl haz htk ha hqz haR hfa haL hbd2 hxL2 hd hk2 hup hA7 hg7 ho7 hc7b hadd
              go_wp2_with (first
                | (at_builtin; refine wpList_append_o rfl _ _ rfl V.heap.size u7 (rest ++ new) a rfl (HR7.out.alloc _) ⟨W7.heap.size, 0, none⟩ 1 rfl (news_new W7 #[iv a] 3) hrl (by have := Hgr7.out.size; simp; omega) ?_
                   intro v8 w8 hf8 hg8 hl8
                   have hA := World.grownBy_alloc W7 (.cells #[iv a] 3) none
                   have H8 : Hid (BfSt V V.heap.size (k2 + 1) (EdR E) s N P (x :: (rest ++ (new ++ [a]))) (rest ++ (new ++ [a])) (L2 ++ [a]) (fun c => if c = a then d + 1 else f2 c) v8 w8) := by
                     refine ⟨(HA7.out.kept hA (by simp)).kept hg8 (fun e => by
                       obtain ⟨o, ho, hc⟩ := HA7.out.obj
                       exact HR7.out.no ho hc e.symm), by rw [← List.append_assoc]; exact hf8, (Hgr7.out.trans hA).andThen hg8 (fun q e => .inl (HR7.out.lt e).1), by rw [← List.append_assoc]; exact Hadd.out, fun y => ?_, fun y hy => ?_, by rw [HI.out.1.len, List.length_append]; rfl⟩
                     · rw [List.mem_append, HI.out.1.mem y]
                       simp only [List.mem_append, List.mem_cons, List.not_mem_nil, or_false]
                       constructor
                       · rintro ((h | h | h | h) | h) <;> simp [h]
                       · rintro (h | h | h | h | h) <;> simp [h]
                     · rcases List.mem_append.1 hy with h | h
                       · exact HI.out.1.sub y h
                       · rw [List.mem_singleton] at h; rw [h]; exact HaN.out
                   clear hf8 hg8 hl8 hA)
                | go_in)
              go_roundw
              case rel =>
                refine ⟨q + 1, k2 + 1, new ++ [a], L2 ++ [a], _, by omega, by go_num, H8.out, fun y hy => ?_⟩
                rw [Htk.out] at hy
                rcases List.mem_append.1 hy with h1 | h1
                · exact List.mem_append_left _ (HI.out.2 y h1)
                · exact List.mem_append_right _ h1
              case measure => simp [intOf]; omega
          · have hqz : q = zl := by omega
            have HP : Hid (BfSt V V.heap.size k2 (EdR E) s N (P ++ [x]) (rest ++ new) (rest ++ new) L2 f2 u7 wb) := by
              refine ⟨HI.out.1.aw, HI.out.1.row, HI.out.1.gro, HI.out.1.bfs.pop fun a ha => ?_, fun y => ?_, HI.out.1.sub, HI.out.1.len⟩
              · have h1 := (Hm30.out a).2 ha
                refine (HI.out.1.mem a).1 (HI.out.2 a ?_)
                rw [hqz, ← Hzl.out, List.take_length]
                exact h1
              · rw [HI.out.1.mem y]
                simp
            obtain ⟨p8, c8, rfl, -, -⟩ := HI.out.1.row.form
            have Hb2 := Lib.hid hbd2
            clear hqz hbd2
            go_wp2
            refine ⟨⟨k2, P ++ [x], rest ++ new, L2, f2, HP.out⟩, ?_⟩
            rw [HP.out.aw.sz, HB.out.aw.sz]
            have h1 := Hb2.out
            have h2 := Hbd.out
            have h3 := Hm.out
            simp only [lenOf, List.length_append]
            omega
      · have HV : IntsO wa V.heap.size (.slice (some ⟨g7, off7 + 1, none⟩) m (c7 - 1)) rest := by
          have h1 := Htl.out
          rw [if_neg hc1] at h1
          exact h1
        go_wp2
        have H1 : Hid (BfSt V V.heap.size k (EdR E) s N P (x :: (rest ++ ([] : List Int))) (rest ++ ([] : List Int)) L f (.slice (some ⟨g7, off7 + 1, none⟩) m (c7 - 1)) wa) := by
          rw [List.append_nil]
          exact ⟨HB.out.aw, HV, HB.out.gro, HB.out.bfs, HB.out.mem, HB.out.sub, HB.out.len⟩
        clear HV ct hlk
        try go_frame
        go_loopw [7, 32] (fun v7 i wr => ∃ (q k : Nat) (new L : List Int) (f : Int → Nat), q ≤ zl ∧ i = .int .i64 ((q : Nat) : Int) ∧ Hid (BfSt V V.heap.size k (EdR E) s N P (x :: (rest ++ new)) (rest ++ new) L f v7 wr ∧ (∀ y ∈ zs.take q, y ∈ L))) (fun _ i _ => zl - (intOf i).toNat)
        case atStart => exact ⟨0, k, [], L, f, Nat.zero_le _, rfl, H1.out, by simp⟩
        case round =>
          obtain ⟨q, k2, new, L2, f2, hq, rfl, HI⟩ := hrel
          obtain ⟨wb, hwb⟩ : ∃ wb, wb = wr := ⟨_, rfl⟩
          subst hwb
          have hbd2 := HI.out.1.bound
          rw [Hn.out, List.length_cons, List.length_append, Hm.out] at hbd2
          by_cases hlt : q < zl
          · have hqz : q < zs.length := by rw [Hzl.out]; exact hlt
            have hsl : SlI wb p30 zs := by
              obtain ⟨p, c, e, hs⟩ := (Ho30.out.below (grown_of_below HI.out.1.gro)).sl
              simp only [Value.slice.injEq] at e
              rw [e.1]
              exact hs
            obtain ⟨b30, off30, rfl, hc0⟩ := hsl.at hqz
            have haz := getD_in (d := 0) hqz
            have htk := take_more hqz
            obtain ⟨a, ha⟩ : ∃ a, zs.getD q 0 = a := ⟨_, rfl⟩
            rw [ha] at hc0 haz htk
            have haR : EdR E a x := (Hm30.out a).1 haz
            have hfa := Hfit.out a (Hends.out a x haR).1
            have Htk := Lib.hid htk
            have hltI : (q : Int) < (zl : Int) := by omega
            have hlk := HI.out.1.aw.lookOk hfa
            by_cases haL : a ∈ L2
            · rw [decide_eq_true haL] at hlk
              generalize (if a ∈ L2 then ((f2 a : Nat) : Int) else 0) = av at hlk
              have HaL := Lib.hid haL
              clear hsl haz htk ha hqz haR hfa haL hbd2
              go_wp2
              go_roundw
              case rel =>
                refine ⟨q + 1, k2, new, L2, f2, by omega, by go_num, HI.out.1, fun y hy => ?_⟩
                rw [Htk.out] at hy
                rcases List.mem_append.1 hy with h1 | h1
                · exact HI.out.2 y h1
                · rw [List.mem_singleton] at h1; rw [h1]; exact HaL.out
              case measure => simp [intOf]; omega
            · rw [decide_eq_false haL, if_neg haL] at hlk
              have hxL2 : x ∈ L2 := (HI.out.1.mem x).2 (by simp)
              have hlx := HI.out.1.aw.look Hfx.out hxL2
              obtain ⟨d, hd⟩ : ∃ d, f2 x = d := ⟨_, rfl⟩
              rw [hd] at hlx
              have hdn : d ≤ 500 := by
                have h1 := dst_lt (N := N) Hends.out (HI.out.1.sub x hxL2) (HI.out.1.bfs.exact x ((HI.out.1.mem x).1 hxL2))
                have := HN.out
                omega
              have hk2 := HI.out.1.len
              have hnb := HN.out
              rw [Hn.out] at hnb
              obtain ⟨W7, hup, hA7, hg7⟩ := HI.out.1.aw.put (b := a) (v := d + 1) hfa haL (by unfold maxLen; omega)
              have hup2 : (Instr.mapUpdate 54 (.map (some V.heap.size)) (iv a) (iv ((d : Int) + 1))).run Tryz.prog wb = .ok () W7 := hup
              obtain ⟨o7, ho7, hc7b⟩ := HI.out.1.aw.obj
              have hadd : BfsOk (EdR E) s P (x :: (rest ++ new ++ [a])) (fun c => if c = a then d + 1 else f2 c) := by
                have h1 := HI.out.1.bfs.add (a := a) (f' := fun c => if c = a then d + 1 else f2 c) (fun h => haL ((HI.out.1.mem a).2 h)) haR (by simp [hd]) (fun y hy => by
                  have hya : y ≠ a := fun e => haL ((HI.out.1.mem a).2 (e ▸ hy))
                  simp [hya])
                exact h1
              have Hadd := Lib.hid hadd
              have HA7 := Lib.hid hA7
              have HR7 := Lib.hid (HI.out.1.row.kept hg7 (.inr (HI.out.1.row.no ho7 hc7b)))
              have Hgr7 : Hid (V.grownBy W7 none) := HI.out.1.gro.andThen hg7 (fun q e => .inl (by cases e; exact Nat.le_refl _))
              have HaN : Hid (a ∈ N) := (Hends.out a x haR).1
              have hrl : (rest ++ new).length ≤ 1000000 := by rw [List.length_append, Hm.out]; omega
              clear hsl haz htk ha hqz haR hfa haL hbd2 hxL2 hd hk2 hup hA7 hg7 ho7 hc7b hadd
              go_wp2_with (first
                | (at_builtin; refine wpList_append_o rfl _ _ rfl V.heap.size u7 (rest ++ new) a rfl (HR7.out.alloc _) ⟨W7.heap.size, 0, none⟩ 1 rfl (news_new W7 #[iv a] 3) hrl (by have := Hgr7.out.size; simp; omega) ?_
                   intro v8 w8 hf8 hg8 hl8
                   have hA := World.grownBy_alloc W7 (.cells #[iv a] 3) none
                   have H8 : Hid (BfSt V V.heap.size (k2 + 1) (EdR E) s N P (x :: (rest ++ (new ++ [a]))) (rest ++ (new ++ [a])) (L2 ++ [a]) (fun c => if c = a then d + 1 else f2 c) v8 w8) := by
                     refine ⟨(HA7.out.kept hA (by simp)).kept hg8 (fun e => by
                       obtain ⟨o, ho, hc⟩ := HA7.out.obj
                       exact HR7.out.no ho hc e.symm), by rw [← List.append_assoc]; exact hf8, (Hgr7.out.trans hA).andThen hg8 (fun q e => .inl (HR7.out.lt e).1), by rw [← List.append_assoc]; exact Hadd.out, fun y => ?_, fun y hy => ?_, by rw [HI.out.1.len, List.length_append]; rfl⟩
                     · rw [List.mem_append, HI.out.1.mem y]
                       simp only [List.mem_append, List.mem_cons, List.not_mem_nil, or_false]
                       constructor
                       · rintro ((h | h | h | h) | h) <;> simp [h]
                       · rintro (h | h | h | h | h) <;> simp [h]
                     · rcases List.mem_append.1 hy with h | h
                       · exact HI.out.1.sub y h
                       · rw [List.mem_singleton] at h; rw [h]; exact HaN.out
                   clear hf8 hg8 hl8 hA)
                | go_in)
              go_roundw
              case rel =>
                refine ⟨q + 1, k2 + 1, new ++ [a], L2 ++ [a], _, by omega, by go_num, H8.out, fun y hy => ?_⟩
                rw [Htk.out] at hy
                rcases List.mem_append.1 hy with h1 | h1
                · exact List.mem_append_left _ (HI.out.2 y h1)
                · exact List.mem_append_right _ h1
              case measure => simp [intOf]; omega
          · have hqz : q = zl := by omega
            have HP : Hid (BfSt V V.heap.size k2 (EdR E) s N (P ++ [x]) (rest ++ new) (rest ++ new) L2 f2 u7 wb) := by
              refine ⟨HI.out.1.aw, HI.out.1.row, HI.out.1.gro, HI.out.1.bfs.pop fun a ha => ?_, fun y => ?_, HI.out.1.sub, HI.out.1.len⟩
              · have h1 := (Hm30.out a).2 ha
                refine (HI.out.1.mem a).1 (HI.out.2 a ?_)
                rw [hqz, ← Hzl.out, List.take_length]
                exact h1
              · rw [HI.out.1.mem y]
                simp
            obtain ⟨p8, c8, rfl, -, -⟩ := HI.out.1.row.form
            have Hb2 := Lib.hid hbd2
            clear hqz hbd2
            go_wp2
            refine ⟨⟨k2, P ++ [x], rest ++ new, L2, f2, HP.out⟩, ?_⟩
            rw [HP.out.aw.sz, HB.out.aw.sz]
            have h1 := Hb2.out
            have h2 := Hbd.out
            have h3 := Hm.out
            simp only [lenOf, List.length_append]
            omega
end Go.Proofs.YthgkloapnihpaaaGreat

/- Graphs: the nearest of those that an edge leads to (nearest), by a contract. -/
namespace Go.Proofs.YthgkloapnihpaaaGreat
open Go.RowKit Go.Maps Go.WideMaps Go.WideElems Go.ChangeShapes Go.WideShapes

set_option maxHeartbeats 64000000 in
set_option maxRecDepth 100000 in
theorem nearest_any {Z : Nat → Prop} {B g c am k : Nat} {N L : List Int} {E : List Ed} {f : Int → Nat} (s a : Int) (ha : a ∈ N) (hN : N.length ≤ 500) (w : World) (h : GrAt Z B g c N E w) (hA : AwAt am k L f w) (hL : ∀ a, a ∈ L ↔ ∃ n, Dst (EdR E) s a n) (hf : ∀ a ∈ L, Dst (EdR E) s a (f a)) (q : Nat) (hq : Near (EdR E) s a q) :
    Calls Tryz.prog 35 #[.pointer (some ⟨g, 0, none⟩), iv a, .map (some am)] w fun e w' => e = .returned (iv (q : Nat)) ∧ Hid (Below w.heap.size w w') := by
  obtain ⟨ob, DO, F, DI, fr, h, hZ⟩ := h
  have H := Lib.hid h
  have Hfit : Hid (∀ a ∈ N, fit64 a) := fun a ha => h.dom.fit a ha
  have HN := Lib.hid hN
  have c0 := h.box.cell
  have hl := h.dom.own.len Tryz.underlying71
  rw [dom_count h.dom (riseI_nodup h.nodes)] at hl
  obtain ⟨n, hn⟩ : ∃ n, N.length = n := ⟨_, rfl⟩
  have Hn := Lib.hid hn
  rw [hn] at hl
  have hfa := Hfit.out a ha
  have l1 := look_as h.dom Tryz.underlying71 (zero65 w) hfa ((h.atO a hfa).trans (by rw [if_pos ha]))
  have Hdm := Lib.hid (h.domI a ha)
  obtain ⟨ib, hib⟩ : ∃ ib, F a = ib := ⟨_, rfl⟩
  rw [hib] at l1 Hdm
  have HA := Lib.hid hA
  have HL := Lib.hid hL
  have Hf := Lib.hid hf
  have Hq := Lib.hid hq
  clear h hZ ha hN hA hL hf hq hn hib hfa
  go_enter Tryz.func35, Tryz.ntmps35
  go_wp2_with (first
    | (at_range; refine wpList_range_own _ rfl _ 74 rfl 3 23 K3 Tryz.underlying74 asIs ib c (DI a) rfl Hdm.out.own ?_; intro w2 hrg2 hg2 hs2)
    | go_in)
  obtain ⟨rg, hrg⟩ : ∃ rg, w.heap.size = rg := ⟨_, rfl⟩
  have Halt : Hid (am < rg) := by show _ < _; rw [← hrg]; exact HA.out.lt
  have H0 : Hid (RngX Tryz.prog 3 il fit64 asIs ib rg c (outsE N E a) [] (DI a) (has (DI a)) (Maps.size (DI a)) w2 ∧ AwAt am k L f w2 ∧ w.grownBy w2 none) := by
    refine ⟨?_, HA.out.kept hg2 (by simp), hg2⟩
    rw [← hrg]
    exact rngX_start Hdm.out hrg2
  have HRG : Hid (w.heap.size = rg) := hrg
  rw [hrg]
  clear hrg2 hg2 hs2 c0 l1 hl
  try go_frame
  go_loopw [7] (fun v7 wr => ∃ (t : Nat) (done : List Int) (left : Lit → Bool) (cnt : Nat), v7 = .int .i64 ((t : Nat) : Int) ∧ t ≤ n ∧ Hid (RngX Tryz.prog 3 il fit64 asIs ib rg c (outsE N E a) done (DI a) left cnt wr ∧ AwAt am k L f wr ∧ w.grownBy wr none) ∧ Hid ((t = n ∨ ∃ b ∈ done, Dst (EdR E) s b t) ∧ ∀ b ∈ done, ∀ m, Dst (EdR E) s b m → t ≤ m)) (fun _ wr => wr.rangeLeft ib rg)
  case atStart => exact ⟨n, [], _, _, rfl, Nat.le_refl _, H0.out, .inl rfl, by simp⟩
  case round =>
    obtain ⟨t, done, left, cnt, rfl, ht, HR, HQ⟩ := hrel
    have hfl : ∀ x ∈ outsE N E a, fit64 x := fun x hx => Hfit.out x (List.mem_filter.1 hx).1
    have hany : ∀ (v : Value) (y : DV × List MemPlace), asIs v = some y → ∃ c : Value, v = c := fun v _ _ => ⟨v, rfl⟩
    go_wp2_with (first | (at_next; refine wpList_next_ranges _ rfl _ rfl 3 K3 asIs (Value.int .i64) (fun c : Value => c) invI hany ib rg c (DI a) left cnt rfl HR.out.1.rng ?_ ?_) | go_in)
    · intro hc0 hl0
      have hall := rngX_all HR.out.1 hfl hl0
      have HE : Hid (t = q) := by
        obtain ⟨b, h1, h2⟩ := Hq.out.1
        have hbd : b ∈ done := (hall b).2 ((mem_outsE H.out.ends).2 h1)
        have h3 := HQ.out.2 b hbd q h2
        have h4 := dst_lt (N := N) H.out.ends (H.out.ends a b h1).2 h2
        rcases HQ.out.1 with h5 | ⟨b2, h5, h6⟩
        · have := Hn.out
          omega
        · have h7 := Hq.out.2 b2 t ((mem_outsE H.out.ends).1 (HR.out.1.sub b2 h5)) h6
          exact Nat.le_antisymm h3 h7
      clear hc0 hl0 hall hfl hany
      go_wp2
      go_ret
      exact ⟨by rw [HE.out]; rfl, grown_of_below HR.out.2.2⟩
    · intro x cv kl y1 y2 w3 cnt3 hkx hlk hv hat hrg3 hlt3 hg3 hs3 hen
      obtain ⟨b, left3, e, rfl, hfb, hbL, hbn, hrng⟩ := rngX_more enc3 HR.out.1 hfl hkx hlk hrg3
      obtain rfl : x = b := by simpa using e
      have hA3 := HR.out.2.1.kept hg3 (by have := Halt.out; simp; omega)
      have hlook := hA3.lookOk hfb
      have Hr3 : Hid (RngX Tryz.prog 3 il fit64 asIs ib rg c (outsE N E a) (done ++ [x]) (DI a) left3 cnt3 w3 ∧ AwAt am k L f w3 ∧ w.grownBy w3 none) := ⟨hrng, hA3, HR.out.2.2.andThen hg3 (fun j e => .inl (by cases e; exact Nat.le_of_eq HRG.out))⟩
      have Hlt3 : Hid (cnt3 < wr.rangeLeft ib rg) := by show _ < _; rw [HR.out.1.rng.left_eq]; exact hlt3
      by_cases hxL : x ∈ L
      · rw [decide_eq_true hxL, if_pos hxL] at hlook
        have hd := Hf.out x hxL
        have hdl := dst_lt (N := N) H.out.ends (List.mem_filter.1 hbL).1 hd
        obtain ⟨d, hde⟩ : ∃ d, f x = d := ⟨_, rfl⟩
        rw [hde] at hlook hd hdl
        rw [Hn.out] at hdl
        have hnb : n ≤ 500 := by have := HN.out; have := Hn.out; omega
        by_cases hdt : d ≤ t
        · have HQ2 : Hid ((d = n ∨ ∃ b ∈ done ++ [x], Dst (EdR E) s b d) ∧ ∀ b ∈ done ++ [x], ∀ m, Dst (EdR E) s b m → d ≤ m) := by
            refine ⟨.inr ⟨x, by simp, hd⟩, fun b hb m hm => ?_⟩
            rcases List.mem_append.1 hb with h1 | h1
            · exact Nat.le_trans hdt (HQ.out.2 b h1 m hm)
            · rw [List.mem_singleton] at h1
              subst h1
              exact Nat.le_of_eq (hd.same hm)
          have hi1 : (d : Int) ≤ (t : Int) := by omega
          by_cases hdq : d = t
          · subst hdq
            clear hkx hlk hv hat hrg3 hlt3 hg3 hs3 hfb hbL hbn hrng hA3 hfl hany e hxL hd hde hdl
            go_wp2
            refine ⟨⟨d, done ++ [x], left3, cnt3, rfl, by omega, Hr3.out, HQ2.out⟩, ?_⟩
            rw [Hr3.out.1.rng.left_eq]
            exact Hlt3.out
          · have hi2 : ¬ ((t : Int) ≤ (d : Int)) := by omega
            have hi3 : ¬ (t ≤ d) := by omega
            have hi4 : d < t := by omega
            have hi5 : (d : Int) < (t : Int) := by omega
            have hi6 : ¬ ((t : Int) < (d : Int)) := by omega
            have hi7 : ¬ (t < d) := by omega
            clear hkx hlk hv hat hrg3 hlt3 hg3 hs3 hfb hbL hbn hrng hA3 hfl hany e hxL hd hde
            go_wp2
            refine ⟨⟨d, done ++ [x], left3, cnt3, ?_, by omega, Hr3.out, HQ2.out⟩, ?_⟩
            · first | rfl | (simp; omega)
            rw [Hr3.out.1.rng.left_eq]
            exact Hlt3.out
        · have HQ2 : Hid ((t = n ∨ ∃ b ∈ done ++ [x], Dst (EdR E) s b t) ∧ ∀ b ∈ done ++ [x], ∀ m, Dst (EdR E) s b m → t ≤ m) := by
            refine ⟨HQ.out.1.imp id fun ⟨b, h1, h2⟩ => ⟨b, List.mem_append_left _ h1, h2⟩, fun b hb m hm => ?_⟩
            rcases List.mem_append.1 hb with h1 | h1
            · exact HQ.out.2 b h1 m hm
            · rw [List.mem_singleton] at h1
              subst h1
              have := hd.same hm
              omega
          have hi1 : (t : Int) ≤ (d : Int) := by omega
          have hi2 : ¬ ((d : Int) ≤ (t : Int)) := by omega
          have hi3 : t ≤ d := by omega
          have hi4 : t < d := by omega
          have hi5 : (t : Int) < (d : Int) := by omega
          have hi6 : ¬ ((d : Int) < (t : Int)) := by omega
          have hi7 : ¬ (d < t) := by omega
          clear hkx hlk hv hat hrg3 hlt3 hg3 hs3 hfb hbL hbn hrng hA3 hfl hany e hxL hd hde
          go_wp2
          refine ⟨⟨t, done ++ [x], left3, cnt3, ?_, by omega, Hr3.out, HQ2.out⟩, ?_⟩
          · first | rfl | (simp; omega)
          rw [Hr3.out.1.rng.left_eq]
          exact Hlt3.out
      · rw [decide_eq_false hxL, if_neg hxL] at hlook
        have HQ2 : Hid ((t = n ∨ ∃ b ∈ done ++ [x], Dst (EdR E) s b t) ∧ ∀ b ∈ done ++ [x], ∀ m, Dst (EdR E) s b m → t ≤ m) := by
          refine ⟨HQ.out.1.imp id fun ⟨b, h1, h2⟩ => ⟨b, List.mem_append_left _ h1, h2⟩, fun b hb m hm => ?_⟩
          rcases List.mem_append.1 hb with h1 | h1
          · exact HQ.out.2 b h1 m hm
          · rw [List.mem_singleton] at h1
            subst h1
            exact absurd ((HL.out b).2 ⟨m, hm⟩) hxL
        clear hkx hlk hv hat hrg3 hlt3 hg3 hs3 hfb hbL hbn hrng hA3 hfl hany e hxL
        go_wp2
        refine ⟨⟨t, done ++ [x], left3, cnt3, rfl, ht, Hr3.out, HQ2.out⟩, ?_⟩
        rw [Hr3.out.1.rng.left_eq]
        exact Hlt3.out
end Go.Proofs.YthgkloapnihpaaaGreat

/- slices.Backward over numbers, as a loop takes it. -/
namespace Go.Proofs.YthgkloapnihpaaaGreat
open Go.RowKit Go.Maps Go.WideMaps Go.WideElems Go.ChangeShapes Go.WideShapes
attribute [local go_sem] Oper.semAt_some

/-- What a round keeps: all that lay there ahead of the loop, but two blocks. -/
structure KpB (n₁ mb pb : Nat) (A B : World) : Prop where
  size : A.heap.size ≤ B.heap.size
  block : ∀ k, k < n₁ → k ≠ mb → k ≠ pb → B.heap[k]? = A.heap[k]?
theorem KpB.trans {n₁ mb pb : Nat} {A B C : World} (h : KpB n₁ mb pb A B) (k : KpB n₁ mb pb B C) : KpB n₁ mb pb A C := ⟨Nat.le_trans h.size k.size, fun i h1 h2 h3 => (k.block i h1 h2 h3).trans (h.block i h1 h2 h3)⟩
theorem KpB.refl (n₁ mb pb : Nat) (A : World) : KpB n₁ mb pb A A := ⟨Nat.le_refl _, fun _ _ _ _ => rfl⟩
theorem KpB.below {n₁ mb pb : Nat} {A B : World} (h : Below A.heap.size A B) (hn : n₁ ≤ A.heap.size) : KpB n₁ mb pb A B := ⟨h.size, fun k hk _ _ => h.block k (by omega)⟩
theorem KpB.ints {n₁ mb pb B : Nat} {W W' : World} {v : Value} {zs : List Int} (h : KpB n₁ mb pb W W') (hv : IntsO W B v zs) (hb : ∀ q, v.ownBlock = some q → q < n₁ ∧ q ≠ mb ∧ q ≠ pb) : IntsO W' B v zs := by
  rcases hv with hv | ⟨g, off, cap, cur, rfl, hB, hh, r⟩
  · exact .inl hv
  · obtain ⟨h1, h2, h3⟩ := hb g rfl
    exact .inr ⟨g, off, cap, cur, rfl, hB, (h.block g h1 h2 h3).trans hh, r⟩
/-- The places from the last one on, so many. -/
def revQ (n q : Nat) : List (Fin n) := (List.finRange n).reverse.take q
theorem revQ_next {n q : Nat} (h : q < n) : revQ n (q + 1) = revQ n q ++ [⟨n - 1 - q, by omega⟩] := by
  unfold revQ
  have hl : q < ((List.finRange n).reverse).length := by simp [h]
  rw [List.take_add_one, List.getElem?_eq_getElem hl]
  simp
theorem revQ_len {n q : Nat} (h : q ≤ n) : (revQ n q).length = q := by
  unfold revQ
  simp
  omega
theorem revQ_all (n : Nat) : revQ n n = (List.finRange n).reverse := by
  unfold revQ
  exact List.take_of_length_le (by simp)
theorem revQ_zero (n : Nat) : revQ n 0 = [] := rfl
set_option maxRecDepth 100000 in
set_option maxHeartbeats 32000000 in
theorem back1 (n : Nat) (hn : 1 ≤ n) (l Bs n₁ mb pb B : Nat) (v : Value) (O : List Int) (hl : O.length ≤ 500) (J Jx : List (Fin O.length) → World → Prop) (W : World)
    (hbx : Boxed W Bs 23 v) (hB1 : Bs < n₁ ∧ Bs ≠ mb ∧ Bs ≠ pb) (hv : IntsO W B v O) (hb : ∀ q, v.ownBlock = some q → q < n₁ ∧ q ≠ mb ∧ q ≠ pb)
    (hY : ∀ pre (x : Fin O.length) W1, J pre W1 → pre.length < O.length → YieldAt Fence.wide (n - 1) Tryz.prog l #[.int .i64 ((x.val : Nat) : Int), iv (O.getD x.val 0)] W1 fun e W' =>
      (e = .returned (.bool true) ∧ J (pre ++ [x]) W' ∧ KpB n₁ mb pb W1 W') ∨ (e = .returned (.bool false) ∧ Jx (pre ++ [x]) W')) (h0 : J [] W) :
    CallsIn Fence.wide n Tryz.prog 55 #[.func (.yield l) #[] #[], .pointer (some ⟨Bs, 0, none⟩)] W fun e W' => (∃ v, e = .returned v) ∧
      ((∃ xs, xs = revQ O.length O.length ∧ J xs W') ∨ (∃ pre, True ∧ Jx pre W')) := by
  obtain ⟨p, c, rfl, -, -⟩ := hv.form
  have x0 := hbx.cell
  have HB := Lib.hid hbx
  have HV := Lib.hid hv
  have HBs := Lib.hid hB1
  have Hb := Lib.hid hb
  have HY := Lib.hid hY
  have H0 : Hid (KpB n₁ mb pb W W ∧ J (revQ O.length 0) W) := ⟨KpB.refl _ _ _ _, h0⟩
  obtain ⟨m, hm⟩ : ∃ m, O.length = m := ⟨_, rfl⟩
  have Hm := Lib.hid hm
  clear hbx hB1 hv hb hY h0
  refine callsIn_of_wp Tryz.func55 rfl trivial ?_ rfl
  simp only [Tryz.ntmps55, List.size_toArray, List.length_cons, List.length_nil, Nat.reduceAdd, Nat.reduceSub, Array.replicate_succ, Array.replicate_zero, List.push_toArray, List.append_toArray, List.nil_append, List.cons_append]
  rw [hm] at x0 hl
  clear hm
  gi_wp2
  gi_loopw [3] (fun i wr => ∃ q : Nat, q ≤ m ∧ i = .int .i64 ((m : Int) - 1 - q) ∧ Hid (KpB n₁ mb pb W wr ∧ J (revQ O.length q) wr)) (fun i _ => (intOf i + 1).toNat)
  case atStart => exact ⟨0, Nat.zero_le _, by first | rfl | simp, H0.out⟩
  case round =>
    obtain ⟨q, hq, rfl, HJ⟩ := hrel
    by_cases hlt : q < m
    · obtain ⟨j, hj⟩ : ∃ j : Nat, j = m - 1 - q := ⟨_, rfl⟩
      have e : (m : Int) - 1 - q = (j : Int) := by omega
      rw [e]
      have hjm : j < m := by omega
      have hjO : j < O.length := by rw [Hm.out]; exact hjm
      have HBw : Hid (Boxed wr Bs 23 (.slice p O.length c)) := (HJ.out.1.block Bs HBs.out.1 HBs.out.2.1 HBs.out.2.2).trans HB.out
      have x1 := HBw.out.cell
      rw [Hm.out] at x1
      have hvw := HJ.out.1.ints HV.out Hb.out
      have hsl : SlI wr p O := by
        obtain ⟨p', c', e', hs⟩ := hvw.sl
        simp only [Value.slice.injEq] at e'
        rw [e'.1]
        exact hs
      obtain ⟨b1, off1, rfl, hc0⟩ := hsl.at hjO
      have hrn := revQ_next (n := O.length) (q := q) (by rw [Hm.out]; exact hlt)
      have hx : (⟨O.length - 1 - q, by omega⟩ : Fin O.length) = ⟨j, hjO⟩ := Fin.ext (by show O.length - 1 - q = j; rw [Hm.out]; exact hj.symm)
      rw [hx] at hrn
      have Hrn := Lib.hid hrn
      obtain ⟨fn, tmps, assign, body, hy, hR⟩ := HY.out (revQ O.length q) ⟨j, hjO⟩ wr HJ.out.2 (by rw [revQ_len (by rw [Hm.out]; exact hq), Hm.out]; exact hlt)
      dsimp only at hy
      obtain ⟨y, hye⟩ : ∃ y, O.getD j 0 = y := ⟨_, rfl⟩
      rw [hye] at hc0 hy
      have hix0 : (0 : Int) ≤ (j : Int) := by omega
      have hix1 : (j : Int) < (m : Int) := by omega
      have HR := Lib.hid hR
      have hjq : Hid ((j : Int) = (m : Int) - 1 - q) := e.symm
      clear hvw hsl hrn hx hR hye e hj hlt
      gi_wp2
      refine HR.out.mono ?_
      rintro e W3 (⟨rfl, hJ3, hk3⟩ | ⟨rfl, hJx3⟩)
      · have HJ3 : Hid (KpB n₁ mb pb W W3 ∧ J (revQ O.length (q + 1)) W3) := by
          refine ⟨HJ.out.1.trans hk3, ?_⟩
          rw [Hrn.out]
          exact hJ3
        clear hJ3 hk3
        have hwr : IntKind.i64.wrap ((j : Int) - 1) = (j : Int) - 1 := by rw [IntKind.wrap_i64]; omega
        gi_wp2
        go_roundw
        case rel =>
          have := hjq.out
          exact ⟨q + 1, by omega, by congr 1; omega, HJ3.out⟩
        case measure =>
          simp only [intOf]
          omega
      · gi_wp2
        refine bodyPost_ret (results_none rfl _ _ _) rfl ?_
        exact ⟨⟨_, rfl⟩, .inr ⟨_, trivial, hJx3⟩⟩
    · have hqm : q = m := by omega
      subst hqm
      have e : (q : Int) - 1 - q = -1 := by omega
      rw [e]
      have HJ2 : Hid (J (revQ O.length O.length) wr) := by
        show J _ _
        have := HJ.out.2
        rw [← Hm.out] at this
        exact this
      clear HJ
      gi_wp2
      go_end0
      exact ⟨⟨_, rfl⟩, .inl ⟨_, rfl, HJ2.out⟩⟩
theorem back_seq (n : Nat) (hn : 1 ≤ n) (Bs n₁ mb pb B : Nat) (v : Value) (O : List Int) (hl : O.length ≤ 500) (w : World) (hn1 : n₁ ≤ w.heap.size)
    (hbx : Boxed w Bs 23 v) (hB1 : Bs < n₁ ∧ Bs ≠ mb ∧ Bs ≠ pb) (hv : IntsO w B v O) (hb : ∀ q, v.ownBlock = some q → q < n₁ ∧ q ≠ mb ∧ q ≠ pb) :
    SeqStopsK Fence.wide n Tryz.prog 55 #[.pointer (some ⟨Bs, 0, none⟩)] (fun x : Fin O.length => #[.int .i64 ((x.val : Nat) : Int), iv (O.getD x.val 0)]) (KpB n₁ mb pb) (fun xs => xs = revQ O.length O.length) (fun _ => True) O.length w := fun l J Jx W hW _ _ hY h0 =>
  back1 n hn l Bs n₁ mb pb B v O hl J Jx W ((hW.block Bs (Nat.lt_of_lt_of_le hB1.1 hn1)).trans hbx) hB1 (hv.below hW) hb hY h0
set_option maxHeartbeats 3200000 in
set_option maxRecDepth 100000 in
theorem backward_any (p : Option Addr) (n c : Nat) (w : World) : Calls Tryz.prog 38 #[.slice p n c] w fun e w' => e = .returned (.func (.func 55) #[] #[.pointer (some ⟨w.heap.size, 0, none⟩)]) ∧ w.alloc (.cells #[.slice p n c] 23) = w' := by
  have hmf : ∀ (fn : Fn) (first cap : Array Value) (w : World), (Instr.makeFunc fn first cap).run Tryz.prog w = .ok (.func fn first cap) w := fun _ _ _ _ => rfl
  go_enter Tryz.func38, Tryz.ntmps38
  go_wp2
  go_ret
  exact ⟨rfl, rfl⟩
end Go.Proofs.YthgkloapnihpaaaGreat

/- Graphs: a stack of visits in memory; enter, by a contract. -/
namespace Go.Proofs.YthgkloapnihpaaaGreat
open Go.RowKit Go.Maps Go.WideMaps Go.WideElems Go.ChangeShapes Go.WideShapes

/-- A visit: the node, the list of what is still to be looked at, as a value and plainly. -/
abbrev Vis := Int × Value × List Int
/-- A stack's cells: the last one is the top, which stands first here. -/
def cellsS (ss : List Vis) : List Value := ss.reverse.flatMap fun x => [iv x.1, x.2.1]
theorem cellsS_cons (x : Vis) (ss : List Vis) : cellsS (x :: ss) = cellsS ss ++ [iv x.1, x.2.1] := by simp [cellsS]
theorem cellsS_len (ss : List Vis) : (cellsS ss).length = ss.length * 2 := by
  induction ss with
  | nil => rfl
  | cons x ss ih => rw [cellsS_cons, List.length_append, ih, List.length_cons, List.length_cons, List.length_cons, List.length_nil]; omega
def plainS (ss : List Vis) : List (Int × List Int) := ss.map fun x => (x.1, x.2.2)
/-- A stack in memory. -/
structure StkAt (B : Nat) (v : Value) (ss : List Vis) (W : World) : Prop where
  row : W.ownsRow B 107 2 v ss.length (cellsS ss)
  todo : ∀ x ∈ ss, IntsO W B x.2.1 x.2.2
theorem stk_nil (B : Nat) (W : World) : StkAt B (.slice none 0 0) [] W := ⟨World.ownsRow_nil _ _ _ _, by simp⟩
theorem row_off {W W' : World} {Z : Nat → Prop} {B e s n : Nat} {v : Value} {xs : List Value} (h : W.ownsRow B e s v n xs) (hg : Off Z W W') (hz : ∀ q, v.ownBlock = some q → ¬ Z q) : W'.ownsRow B e s v n xs := by
  refine ⟨h.1, h.2.imp id fun ⟨g, cap, cur, e, hb, hh, r⟩ => ⟨g, cap, cur, e, hb, (hg.block g (Array.getElem?_eq_some_iff.1 hh).1 (hz g (by rw [e]; rfl))).trans hh, r⟩⟩
theorem IntsO.off {W W' : World} {Z : Nat → Prop} {B : Nat} {v : Value} {zs : List Int} (h : IntsO W B v zs) (hg : Off Z W W') (hz : ∀ q, v.ownBlock = some q → ¬ Z q) : IntsO W' B v zs := by
  rcases h with h | ⟨g, off, cap, cur, rfl, hb, hh, r⟩
  · exact .inl h
  · exact .inr ⟨g, off, cap, cur, rfl, hb, (hg.block g (Array.getElem?_eq_some_iff.1 hh).1 (hz g rfl)).trans hh, r⟩
theorem StkAt.off {B : Nat} {v : Value} {ss : List Vis} {W W' : World} {Z : Nat → Prop} (h : StkAt B v ss W) (hg : Off Z W W') (hz : ∀ q, v.ownBlock = some q → ¬ Z q) (hz2 : ∀ x ∈ ss, ∀ q, x.2.1.ownBlock = some q → ¬ Z q) : StkAt B v ss W' :=
  ⟨row_off h.row hg hz, fun x hx => (h.todo x hx).off hg (hz2 x hx)⟩
theorem off_of_grown {W W' : World} {row : Option Nat} (h : W.grownBy W' row) : Off (fun k => some k = row) W W' := ⟨h.os, h.tape, h.output, h.size, fun k hk hz => h.block k hk hz⟩
theorem StkAt.kept {B : Nat} {v : Value} {ss : List Vis} {W W' : World} (h : StkAt B v ss W) (hg : W.grownBy W' none) : StkAt B v ss W' :=
  h.off (off_of_grown hg) (fun q _ e => by cases e) (fun x _ q _ e => by cases e)
/-- A row of cells is no other block. -/
theorem row_ne {W : World} {B e s n k : Nat} {v : Value} {xs : List Value} {o : Obj} (h : W.ownsRow B e s v n xs) (hk : W.heap[k]? = some o) (hne : ∀ cur, o ≠ .cells cur e (0, 0)) : v.ownBlock ≠ some k := by
  rcases h.2 with ⟨rfl, _⟩ | ⟨g, cap, cur, rfl, _, hg, _⟩
  · simp [Value.ownBlock]
  · intro e1
    have e2 : g = k := by simpa [Value.ownBlock] using e1
    subst e2
    rw [hk] at hg
    exact hne cur (Option.some.inj hg)
theorem IntsO.ne {W : World} {B k : Nat} {v : Value} {zs : List Int} {o : Obj} (h : IntsO W B v zs) (hk : W.heap[k]? = some o) (hne : ∀ cur, o ≠ .cells cur 3 (0, 0)) : v.ownBlock ≠ some k := by
  rcases h with ⟨rfl, _⟩ | ⟨g, off, cap, cur, rfl, _, hg, _⟩
  · simp [Value.ownBlock]
  · intro e1
    have e2 : g = k := by simpa [Value.ownBlock] using e1
    subst e2
    rw [hk] at hg
    exact hne cur (Option.some.inj hg)
/-- A stack's own row is none of its lists. -/
theorem StkAt.apart {B B2 : Nat} {v v2 : Value} {ss : List Vis} {zs : List Int} {W : World} (h : StkAt B v ss W) (h2 : IntsO W B2 v2 zs) : ∀ q, v.ownBlock = some q → v2.ownBlock ≠ some q := by
  intro q e
  rcases h.row.2 with ⟨rfl, _⟩ | ⟨g, cap, cur, rfl, _, hg, _⟩
  · simp [Value.ownBlock] at e
  · have e2 : g = q := by simpa [Value.ownBlock] using e
    subst e2
    exact h2.ne hg fun cur2 e3 => by cases e3
theorem row_pop {W : World} {B e s g k c : Nat} {xs ys : List Value} (hx : xs.length = k * s) (h : W.ownsRow B e s (.slice (some ⟨g, 0, none⟩) (k + 1) c) (k + 1) (xs ++ ys)) : W.ownsRow B e s (.slice (some ⟨g, 0, none⟩) k c) k xs := by
  rcases h.2 with ⟨e1, _⟩ | ⟨g', cap, cur, e1, hb, hg, hn, hm, hs, ht⟩
  · cases e1
  · cases e1
    refine ⟨hx, .inr ⟨g, c, cur, rfl, hb, hg, by omega, hm, hs, ?_⟩⟩
    have h1 : (cur.toList.take ((k + 1) * s)).take (k * s) = xs := by rw [ht, List.take_left' hx]
    rw [List.take_take, Nat.min_eq_left (Nat.mul_le_mul_right _ (by omega))] at h1
    exact h1
theorem elem107 : (Tryz.prog.info? 107).map (fun i => (i.zero, i.size, i.bytes)) = some (some (.agg #[.int .i64 0, .slice none 0 0]), 2, 32) := by kernel_rfl
theorem vis_news (w : World) (p0 p1 : Value) (t : TypeId) : ∀ j u, [p0, p1][j]? = some u → (w.alloc (.cells #[p0, p1] t)).cell? ((⟨w.heap.size, 0, none⟩ : Addr).add j) = some u := World.news_of_block (World.alloc_heap_new w _)
theorem slice_one {W : World} {B : Nat} {v : Value} {zs : List Int} (h : IntsO W B v zs) : v.oneCell' = true := by
  obtain ⟨p, c, rfl, -⟩ := h.form
  rfl
set_option maxHeartbeats 64000000 in
set_option maxRecDepth 100000 in
theorem enter_no {g mb n : Nat} {S : List Int} {D : DV} (k : Int) (hk : fit64 k) (w : World) (v : Value) (hS : SeenAt mb n S D w) (hkS : k ∈ S) :
    Calls Tryz.prog 56 #[.pointer (some ⟨g, 0, none⟩), v, .map (some mb), iv k] w fun e w' => e = .returned v ∧ w.grownBy w' none := by
  have hlook := hS.look hk
  rw [decide_eq_true hkS] at hlook
  obtain ⟨W1, hW1⟩ : ∃ W, w.alloc (.cells #[] 108) = W := ⟨_, rfl⟩
  have Hg1 : Hid (w.grownBy W1 none) := by show w.grownBy _ _; rw [← hW1]; exact World.grownBy_alloc w _ none
  clear hS hkS
  go_enter Tryz.func56, Tryz.ntmps56
  go_wp2
  go_ret
  exact ⟨rfl, Hg1.out⟩
set_option maxHeartbeats 64000000 in
set_option maxRecDepth 100000 in
theorem enter_yes {Z : Nat → Prop} {B g c mb n : Nat} {N S : List Int} {E : List Ed} {D : DV} (k : Int) (hk : fit64 k) (hc : c ≤ 100000) (V w : World) (h : GrAt Z B g c N E V) (hV : Below V.heap.size V w) (hmb : V.heap.size ≤ mb) (v : Value) (ss : List Vis) (hst : StkAt V.heap.size v ss w) (hl : ss.length ≤ 100000) (hn : n ≤ 100000) (hS : SeenAt mb n S D w) (hkS : k ∉ S) :
    Calls Tryz.prog 56 #[.pointer (some ⟨g, 0, none⟩), v, .map (some mb), iv k] w fun e w' => ∃ v' vo, e = .returned v' ∧ Hid (SeenAt mb (n + 1) (S ++ [k]) (D.put (il k) (.held unitV)) w' ∧ StkAt V.heap.size v' ((k, vo, outsE N E k) :: ss) w' ∧ Off (fun q => q = mb ∨ v.ownBlock = some q) w w' ∧ (∀ q, vo.ownBlock = some q → w.heap.size ≤ q) ∧ ∀ q, v'.ownBlock = some q → v.ownBlock = some q ∨ w.heap.size ≤ q) := by
  obtain ⟨i0, hi, hz0, hz1, hz2⟩ := info_parts elem107
  have hlook := hS.look hk
  rw [decide_eq_false hkS] at hlook
  obtain ⟨W1, hW1⟩ : ∃ W, w.alloc (.cells #[] 108) = W := ⟨_, rfl⟩
  have hg1 : w.grownBy W1 none := by rw [← hW1]; exact World.grownBy_alloc w _ none
  have hS1 := hS.kept hg1 (by simp)
  obtain ⟨W2, hup, hS2, hg2⟩ := hS1.put hk (by unfold maxLen; omega)
  obtain ⟨o1, ho1, hc1⟩ := hS1.obj
  have hst1 := hst.kept hg1
  have hst2 : StkAt V.heap.size v ss W2 := hst1.off (off_of_grown hg2) (fun q e e2 => row_no hst1.row ho1 hc1 (by cases e2; exact e)) (fun x hx q e e2 => (hst1.todo x hx).no ho1 hc1 (by cases e2; exact e))
  have hgw2 : w.grownBy W2 (some mb) := (hg1.but _).trans hg2
  have hV2 : Below V.heap.size V W2 := hV.grown hgw2 hV.size (fun q e => by cases e; exact hmb)
  obtain ⟨mo, hmo⟩ : ∃ mo, (outsE N E k).length = mo := ⟨_, rfl⟩
  have Hmo := Lib.hid hmo
  have HOut := Lib.hid (out_any k hk hc W2 (h.below hV2))
  have Hst2 := Lib.hid hst2
  have HS2 := Lib.hid hS2
  have Hgw2 := Lib.hid hgw2
  have HV2 := Lib.hid hV2
  have Hl := Lib.hid hl
  clear h hV hmb hst hl hn hS hkS hg1 hS1 hS2 hg2 ho1 hc1 hst1 hst2 hgw2 hV2 hmo
  go_enter Tryz.func56, Tryz.ntmps56
  go_wp2_with (first
    | (go_at_call 36; (with_reducible refine HOut.out.mono ?_); rintro e w3 ⟨vo, rfl, K3⟩
       have ho3 := intsO_row K3.out.1
       obtain ⟨p3, c3, rfl⟩ := row_sl K3.out.1
       rw [Hmo.out] at ho3 ⊢
       have hst3 := Hst2.out.kept (grown_below K3.out.2)
       have hS3 := HS2.out.kept (grown_below K3.out.2) (by simp)
       have Ho3 := Lib.hid ho3
       have Hst3 := Lib.hid hst3
       have HS3 := Lib.hid hS3
       clear ho3 hst3 hS3)
    | (at_builtin; refine wpList_append_own_at _ rfl _ _ 103 rfl V.heap.size 107 i0 (.agg #[.int .i64 0, .slice none 0 0]) 2 32 Tryz.underlying103 hi hz0 hz1 hz2 rfl (by decide) v ss.length (cellsS ss) rfl (Hst3.out.row.alloc _) ⟨w3.heap.size, 0, none⟩ 1 1 [iv k, .slice p3 mo c3] rfl rfl (vis_news w3 (iv k) (.slice p3 mo c3) 107) (by intro u hu; simp only [List.mem_cons, List.not_mem_nil, or_false] at hu; rcases hu with rfl | rfl <;> rfl) (by unfold maxLen; have := Hl.out; omega) (by have := Hl.out; omega) (by have := HV2.out.size; have := K3.out.2.size; simp; omega) ?_)
    | go_in)
  intro v4 w4 hown hgrow hnil hat
  have hA := World.grownBy_alloc w3 (.cells #[iv k, .slice p3 mo c3] 107) none
  have HK : Hid (SeenAt mb (n + 1) (S ++ [k]) (D.put (il k) (.held unitV)) w4 ∧ StkAt V.heap.size v4 ((k, .slice p3 mo c3, outsE N E k) :: ss) w4 ∧ Off (fun q => q = mb ∨ v.ownBlock = some q) w w4) := by
    refine ⟨(HS3.out.kept hA (by simp)).kept hgrow (fun e => by
      obtain ⟨o, ho, hc⟩ := HS3.out.obj
      exact row_no Hst3.out.row ho hc e.symm), ⟨by rw [cellsS_cons]; exact hown, fun x hx => ?_⟩, ?_⟩
    · have hle : V.heap.size ≤ W2.heap.size := HV2.out.size
      rcases List.mem_cons.1 hx with rfl | hx
      · exact ((Ho3.out.low hle).alloc _).beside hgrow (Hst3.out.apart Ho3.out)
      · exact ((Hst3.out.todo x hx).alloc _).beside hgrow (Hst3.out.apart (Hst3.out.todo x hx))
    · have h1 : w.grownBy w3 (some mb) := Hgw2.out.trans ((grown_below K3.out.2).but _)
      refine ⟨hgrow.os.trans (hA.os.trans h1.os), hgrow.tape.trans (hA.tape.trans h1.tape), hgrow.output.trans (hA.output.trans h1.output), Nat.le_trans h1.size (Nat.le_trans hA.size hgrow.size), fun q hq hz => ?_⟩
      have hq3 : q < w3.heap.size := Nat.lt_of_lt_of_le hq h1.size
      refine (hgrow.block q (Nat.lt_of_lt_of_le hq3 hA.size) (fun e => hz (.inr e.symm))).trans ((hA.block q hq3 (by simp)).trans (h1.block q hq (fun e => hz (.inl (Option.some.inj e)))))
  have HL : Hid ((∀ q, (Value.slice p3 mo c3).ownBlock = some q → w.heap.size ≤ q) ∧ ∀ q, v4.ownBlock = some q → v.ownBlock = some q ∨ w.heap.size ≤ q) := by
    have h1 := Hgw2.out.size
    have h2 := K3.out.2.size
    refine ⟨fun q hq => ?_, fun q hq => ?_⟩
    · have := (Ho3.out.lt hq).1
      omega
    · rcases hat with e | e
      · exact .inl (e ▸ hq)
      · right
        rw [e] at hq
        have h3 : w3.heap.size + 1 = q := Option.some.inj hq
        omega
  clear hown hgrow hnil hat hA
  go_wp2
  go_ret
  exact ⟨v4, _, rfl, HK.out.1, HK.out.2.1, HK.out.2.2, HL.out.1, HL.out.2⟩
end Go.Proofs.YthgkloapnihpaaaGreat
