/- Committed, with its closure. -/
import Derived.Test.YtfjjhjojcgacbaaDoorM9
namespace Go.Proofs.YtfjjhjojcgacbaaDoor
open Go.RowKit Go.Maps Go.WideMaps Go.WideElems Go.ChangeShapes Go.WideShapes
variable {T : TypeId} {er : Nat → Addr}

/-- Is a transaction of that number committed? -/
def comZ (rs : List Rec) (x : Int) : Bool := match findR x rs 0 with
  | none => false
  | some i => match rs[i]? with
    | none => false
    | some r => r.status == 3

set_option maxHeartbeats 8000000 in
set_option maxRecDepth 100000 in
theorem com_47 (x : Int) (p : Nat) (a : Option Addr) (n c : Nat) (rs : List Rec) (hn : rs.length = n) (hn2 : n ≤ 400) (w : World) (h : TxIn w a rs) (hp : w.heap[p]? = some (.cells #[.slice a n c] 46)) :
    Calls Tryd.prog 47 #[.int .i64 x, .pointer (some ⟨p, 0, none⟩)] w fun e w' => e = .returned (.bool (comZ rs x)) ∧ Hid (Below w.heap.size w w') := by
  have HI := Lib.hid (find_any x a n c rs hn hn2 w h)
  have HP := Lib.hid hp
  have Hh := Lib.hid h
  have Hn := Lib.hid hn
  have c0 := row_uno hp
  clear hp h hn
  cases hf : findR x rs 0 with
  | none =>
    have e0 : comZ rs x = false := by unfold comZ; rw [hf]
    rw [e0]
    rw [hf] at HI
    clear hf e0
    go_enter Tryd.func47, Tryd.ntmps47
    go_wp2_with (first
      | (go_at_call 46; (with_reducible refine HI.out.mono ?_); rintro e w3 ⟨rfl, h3⟩))
    go_ret
    exact ⟨rfl, h3.out⟩
  | some i =>
    obtain ⟨j, r, hj, hr, hid⟩ := findR_some _ _ _ _ hf
    rw [Nat.zero_add] at hj
    subst hj
    have e0 : comZ rs x = (r.status == 3) := by unfold comZ; rw [hf]; simp only []; rw [hr]
    rw [e0]
    rw [hf] at HI
    have hil : i < rs.length := (List.getElem?_eq_some_iff.1 hr).1
    obtain ⟨b4, o4, r', a4, d4, rfl, hr', -, hc4⟩ := Hh.out i hil
    rw [hr] at hr'
    injection hr' with hr'
    subst hr'
    have hiI : (i : Int) < (n : Int) := by have := Hn.out; omega
    have i0 : (0 : Int) ≤ (i : Int) := by omega
    have HC := Lib.hid hc4
    clear hf e0 hr hil hc4 hid
    go_enter Tryd.func47, Tryd.ntmps47
    go_wp2_with (first
      | (go_at_call 46; (with_reducible refine HI.out.mono ?_); rintro e w3 ⟨rfl, h3⟩
         obtain ⟨u0, u1, u2, u3, u4, u5, u6⟩ := HC.out w3 h3.out
         have c1 := row_uno (keepB h3.out HP.out)))
    go_ret
    exact ⟨rfl, h3.out⟩

set_option maxHeartbeats 4000000 in
set_option maxRecDepth 100000 in
theorem only_47 {q : Nat} (p : Int → Bool) (a b : Option Addr) (n c m d : Nat) (xs : List Value) (es : List Ev) (hx : xs.length = n * 2) (hm : es.length = m) (h1 : ∀ u ∈ xs, u.oneCell' = true) (hn : n ≤ 100000 ∧ m ≤ 100000) (w : World) (h : SlAt w a xs) (g : EvsAt w b es m)
    (HK : ∀ V, Below w.heap.size w V → ∀ x : Int, Calls Tryd.prog 47 #[.int .i64 x, .pointer (some ⟨q, 0, none⟩)] V fun e w' => e = .returned (.bool (p x)) ∧ Hid (Below V.heap.size V w')) :
    Calls Tryd.prog 17 #[hv a n c b m d, .func (.func 47) #[] #[.pointer (some ⟨q, 0, none⟩)]] w fun e w' => ∃ v1 v2, e = .returned (.agg #[v1, v2]) ∧ Hid (w'.ownsRow w.heap.size 31 2 v1 n xs ∧ w'.ownsRow w.heap.size 34 8 v2 (es.filter fun e => p e.tx).length (evs (es.filter fun e => p e.tx)) ∧ Below w.heap.size w w') := by
  obtain ⟨i0, hi, hz0, hz1, hz2⟩ := info_parts elem34
  obtain ⟨W1, hW1, Hb1, hs1, Hx1⟩ := cells_new w #[.slice a n c, .slice b m d] 25
  obtain ⟨W, hW, Hb2, hs2, Hy⟩ := cells_new W1 #[.slice none 0 0, .slice none 0 0] 25
  have HB : Hid (Below w.heap.size w W) := stepB Hb1.out Hb2.out
  have HX : Hid (∀ V, Below W.heap.size W V → V.cell? ⟨w.heap.size, 0, none⟩ = some (.slice a n c) ∧ V.cell? ⟨w.heap.size, 1, none⟩ = some (.slice b m d)) := fun V hV => row_two (keepB hV (keepB Hb2.out Hx1.out))
  have H1 := Lib.hid (clone_obs a n c xs hx h1 hn.1 W (h.below HB.out))
  have Hg := Lib.hid (g.below HB.out)
  have HK' := Lib.hid HK
  have Hm := Lib.hid hm
  have Hmm : Hid (m ≤ 100000) := hn.2
  have hmm : (m : Int) ≤ 100000 := by omega
  have Hws : Hid (w.heap.size ≤ W.heap.size) := HB.out.size
  have Hw1 : Hid (W1.heap.size < W.heap.size ∧ w.heap.size ≤ W1.heap.size) := ⟨hs2.out, Nat.le_of_lt hs1.out⟩
  clear h g hx hm h1 hn Hb1 Hb2 Hx1 HK hs1 hs2
  obtain ⟨x0, x1⟩ := HX.out W (Below.refl _ _)
  go_enter Tryd.func17, Tryd.ntmps17
  go_wp2_with (first
    | (go_at_call 39; (with_reducible refine H1.out.mono ?_); rintro e w2 ⟨v1, rfl, K2⟩; obtain ⟨a1, c1, rfl, -, -⟩ := row_sl K2.out.1
       obtain ⟨W3, hW3, Hb3, hs3, Hq⟩ := cells_new w2 #[.slice none 0 0, .slice none 0 0] 25
       obtain ⟨G1, G2, hG1, hG2, ⟨⟨g0, l0⟩, ⟨g1, l1⟩⟩, HG, HL, HCg, HOg⟩ := box_put2x (w := w2) (.slice a1 n c1) (.slice none 0 0) Hq.out (Nat.le_refl _)
       obtain ⟨y0, y1⟩ := HX.out G2 (stepB K2.out.2 (Hb3.out.trans HL.out))))
  have HD : Hid (OnAt W w2.heap.size (.slice a1 n c1) n xs (.slice none 0 0) ((es.take 0).filter fun e => p e.tx) G2) := ⟨stepB K2.out.2 (Hb3.out.trans HL.out), K2.out.2.size, HG.out, row_kept K2.out.1 (Hb3.out.trans HL.out), by simpa [evs] using World.ownsRow_nil _ _ _ _⟩
  obtain ⟨Q, hQ⟩ : ∃ Q, w2.heap.size = Q := ⟨_, rfl⟩
  rw [hQ] at HD ⊢
  clear hQ hG1 hG2 g0 l0 g1 l1 HG HL HCg HOg hW3 Hb3 hs3 Hq y0 y1 x0 x1 K2 H1
  go_wp2_with fail
  go_loopw [15] (fun i wr => ∃ k v, k ≤ m ∧ i = .int .i64 ((k : Nat) : Int) ∧ Hid (OnAt W Q (.slice a1 n c1) n xs v ((es.take k).filter fun e => p e.tx) wr)) (fun i _ => m - (intOf i).toNat)
  case atStart => exact ⟨0, _, Nat.zero_le _, rfl, HD.out⟩
  case round =>
    clear HD
    obtain ⟨k, v, hk, rfl, HD⟩ := hrel
    have z0 := (row_two HD.out.box)
    obtain ⟨z0, z1⟩ := z0
    by_cases hlt : k < m
    · obtain ⟨b1, o1, x, rfl, hx, hc⟩ := Hg.out k hlt
      obtain ⟨u0, u1, u2, u3, u4, u5, u6, u7⟩ := hc wr HD.out.below
      have hlt2 : (k : Int) < (m : Int) := by omega
      obtain ⟨W4, hW4, Hb4, hs4, Hr⟩ := cells_new wr #[.int .i64 x.kind, .int .i64 x.tx, .int .i64 x.thread, .int .i64 x.obj, .int .i64 x.op, .int .i64 x.key, .int .i64 x.val, .int .i64 x.ret] 34
      obtain ⟨r0, r1, r2, r3, r4, r5, r6, r7⟩ := row_eight Hr.out
      have HS := Lib.hid (HK'.out W4 (stepB (stepB HB.out HD.out.below) Hb4.out) x.tx)
      have Hf := Lib.hid (filter_next (fun e : Ev => p e.tx) hx)
      have HC := Lib.hid hc
      have HP := Lib.hid (show ∀ R, p x.tx = R → (es.take (k + 1)).filter (fun e => p e.tx) = (es.take k).filter (fun e => p e.tx) ++ (if R then [x] else []) from fun R e => by rw [Hf.out, e])
      have hlen : Hid (((es.take k).filter fun e => p e.tx).length ≤ 100000) := by
        have h1 := List.length_filter_le (fun e : Ev => p e.tx) (es.take k)
        have h2 := List.length_take_le k es
        show _ ≤ _
        have := Hmm.out
        omega
      generalize (es.take k).filter (fun e => p e.tx) = fs at HD HP hlen
      generalize p x.tx = R at HS HP
      clear Hf hc hx
      cases R
      · have HE : Hid ((es.take (k + 1)).filter (fun e => p e.tx) = fs) := by show _ = _; rw [HP.out _ rfl]; simp
        clear HP
        go_wp2_with (first | (go_at_call 47; (with_reducible refine HS.out.mono ?_); rintro e w8 ⟨rfl, h8⟩))
        go_roundw
        case rel => exact ⟨k + 1, v, by omega, by go_num, by show OnAt _ _ _ _ _ _ _ _; rw [HE.out]; exact HD.out.next (stepB Hb4.out h8.out)⟩
        case measure => simp [intOf]; omega
      · have HE : Hid ((es.take (k + 1)).filter (fun e => p e.tx) = fs ++ [x]) := by show _ = _; rw [HP.out _ rfl]; simp
        clear HP
        go_wp2_with (first
          | (go_at_call 47; (with_reducible refine HS.out.mono ?_); rintro e w8 ⟨rfl, h8⟩
             have HD8 : Hid (OnAt W Q (.slice a1 n c1) n xs v fs w8) := HD.out.next (stepB Hb4.out h8.out)
             obtain ⟨s0, s1⟩ := row_two HD8.out.box
             obtain ⟨t0, t1, t2, t3, t4, t5, t6, t7⟩ := row_eight (keepB h8.out Hr.out))
          | (at_builtin; refine wpList_append_own _ rfl _ _ 23 rfl W.heap.size 34 i0 Ev.zero.agg 8 64 Tryd.underlying23 hi hz0 hz1 hz2 rfl (by decide) v _ _ rfl (HD8.out.row.alloc _) ⟨w8.heap.size, 0, none⟩ 1 1 [.int .i64 x.kind, .int .i64 x.tx, .int .i64 x.thread, .int .i64 x.obj, .int .i64 x.op, .int .i64 x.key, .int .i64 x.val, .int .i64 x.ret] rfl rfl (eight_news _ _ _ _ _ _ _ _ _ _) (by intro u hu; simp only [List.mem_cons, List.not_mem_nil, or_false] at hu; rcases hu with rfl | rfl | rfl | rfl | rfl | rfl | rfl | rfl <;> rfl) (by unfold maxLen; have := hlen.out; omega) (by have := hlen.out; omega) (by show _ ≤ _; simp; exact Nat.le_trans HD8.out.below.size (Nat.le_succ _)) ?_))
        intro v' w9 hown9 hgrow9 hnil9
        obtain ⟨a9, c9, rfl, -, -⟩ := row_sl hown9
        obtain ⟨U1, hU1, ⟨m0, m1⟩, HU⟩ := (HD8.out.next ((Below.refl _ _).alloc (Nat.le_refl _) (.cells #[.int .i64 x.kind, .int .i64 x.tx, .int .i64 x.thread, .int .i64 x.obj, .int .i64 x.op, .int .i64 x.key, .int .i64 x.val, .int .i64 x.ret] 34))).put (e := x) hgrow9 hown9
        clear hown9 hgrow9 hnil9
        go_wp2_with fail
        go_roundw
        case rel => exact ⟨k + 1, _, by omega, by go_num, by show OnAt _ _ _ _ _ _ _ _; rw [HE.out]; exact HU.out⟩
        case measure => simp [intOf]; omega
    · have hkm : k = m := by omega
      have HE : Hid ((es.take k).filter (fun e => p e.tx) = es.filter fun e => p e.tx) := by show _ = _; rw [hkm, List.take_of_length_le (by have := Hm.out; omega)]
      rw [HE.out] at HD
      obtain ⟨a2, c2, rfl, -, -⟩ := row_sl HD.out.row
      obtain ⟨F1, F2, hF1, hF2, ⟨⟨f0, e0⟩, ⟨f1, e1⟩⟩, HF, HE2, HC, HO⟩ := box_put2x (w := w) (.slice a1 n c1) (.slice a2 (es.filter fun e => p e.tx).length c2) (keepB' HD.out.below Hw1.out.1 Hy.out) Hw1.out.2
      clear HE
      go_wp2_with fail
      refine bodyPost_ret (results_row1 rfl _ _ W1.heap.size 25 _ (0, 0) _ rfl HF.out Tryd.underlying25 rfl (by kernel_rfl)) rfl ?_
      refine ⟨_, _, rfl, ?_, ?_, (stepB HB.out HD.out.below).trans HE2.out⟩
      · exact row_base (HO.out _ _ _ _ _ _ Hw1.out.1 HD.out.row1) Hws.out
      · exact row_base (HO.out _ _ _ _ _ _ Hw1.out.1 HD.out.row) Hws.out

/-- What Committed answers. -/
def ComIs (n : Nat) (xs : List Value) (es : List Ev) (r : Option St) (w : World) (e : Ending) (w' : World) : Prop := match r with
  | none => ∃ t p, ErrH (.iface t (.pointer (some p))) w e w'
  | some s => HisE n xs (es.filter fun e => comZ s.recs e.tx) w e w'

set_option maxHeartbeats 8000000 in
set_option maxRecDepth 100000 in
theorem com_no (a b : Option Addr) (n c m d : Nat) (os : List (Int × Int)) (es : List Ev) (hn : os.length = n) (hm : es.length = m) (w : World) (ho : SlAt w a (obs os)) (he : EvsAt w b es m) (hG : Glob T er w) (hz : tabZ os es = none) :
    Calls Tryd.prog 26 #[hv a n c b m d] w (ComIs n (obs os) es none w) := by
  obtain ⟨W1, hW1, Hb1, hs1, Hx1⟩ := cells_new w #[.slice a n c, .slice b m d] 25
  obtain ⟨W, hW, Hb2, hs2, Hy⟩ := cells_new W1 #[.slice none 0 0, .slice none 0 0] 25
  have HB : Hid (Below w.heap.size w W) := stepB Hb1.out Hb2.out
  have HX : Hid (∀ V, Below W.heap.size W V → V.cell? ⟨w.heap.size, 0, none⟩ = some (.slice a n c) ∧ V.cell? ⟨w.heap.size, 1, none⟩ = some (.slice b m d)) := fun V hV => row_two (keepB hV (keepB Hb2.out Hx1.out))
  obtain ⟨x0, x1⟩ := HX.out W (Below.refl _ _)
  have HT := Lib.hid (tab_any (T := T) (er := er) a b n c m d os es hn hm W (ho.below HB.out) (he.below HB.out) (hG.below' HB.out))
  rw [hz] at HT
  have Hw1 : Hid (W1.heap.size < W.heap.size ∧ w.heap.size ≤ W1.heap.size) := ⟨hs2.out, Nat.le_of_lt hs1.out⟩
  clear ho he hG hn hm hz hs1 hs2
  go_enter Tryd.func26, Tryd.ntmps26
  go_wp2_with (first
    | (go_at_call 24; (with_reducible refine HT.out.mono ?_); rintro e w2 ⟨t9, p9, rfl, h2⟩
       obtain ⟨Wd, hWd, Hbd, hsd, Hxd⟩ := cells_new w2 #[.slice none 0 0] 46
       have d0' : Wd.cell? ⟨w2.heap.size, 0, none⟩ = some (.slice none 0 0) := by simp [World.cell?, Hxd.out]
       have df := frozen_of_row _ _ 0 _ _ Hxd.out
       obtain ⟨We, hWe⟩ : ∃ We, Wd.setCell ⟨w2.heap.size, 0, none⟩ (.slice none 0 0) = We := ⟨_, rfl⟩
       have Bd : Hid (Below w2.heap.size w2 We) := by
         show Below _ _ _
         rw [← hWe]; exact Hbd.out.setCell (p := ⟨w2.heap.size, 0, none⟩) (Nat.le_refl _) _
       have B2 : Hid (Below W.heap.size W We) := stepB h2.out Bd.out
       obtain ⟨F1, F2, hF1, hF2, ⟨⟨f0, e0⟩, ⟨f1, e1⟩⟩, HF, HE2, HC2, HO⟩ := box_put2x (w := w) (.slice none 0 0) (.slice none 0 0) (keepB B2.out Hy.out) Hw1.out.2))
  refine bodyPost_ret (results_row_tmp rfl _ _ W1.heap.size 25 _ (0, 0) _ rfl HF.out Tryd.underlying25 rfl (by kernel_rfl)) rfl ?_
  exact ⟨_, _, rfl, (stepB HB.out B2.out).trans HE2.out⟩

set_option maxHeartbeats 8000000 in
set_option maxRecDepth 100000 in
theorem com_ok (a b : Option Addr) (n c m d : Nat) (os : List (Int × Int)) (es : List Ev) (hn : os.length = n) (hm : es.length = m) (w : World) (ho : SlAt w a (obs os)) (he : EvsAt w b es m) (hG : Glob T er w) (h64 : n ≤ 64 ∧ m ≤ 400) {s : St} (hz : tabZ os es = some s) :
    Calls Tryd.prog 26 #[hv a n c b m d] w (ComIs n (obs os) es (some s) w) := by
  obtain ⟨W1, hW1, Hb1, hs1, Hx1⟩ := cells_new w #[.slice a n c, .slice b m d] 25
  obtain ⟨W, hW, Hb2, hs2, Hy⟩ := cells_new W1 #[.slice none 0 0, .slice none 0 0] 25
  have HB : Hid (Below w.heap.size w W) := stepB Hb1.out Hb2.out
  have HX : Hid (∀ V, Below W.heap.size W V → V.cell? ⟨w.heap.size, 0, none⟩ = some (.slice a n c) ∧ V.cell? ⟨w.heap.size, 1, none⟩ = some (.slice b m d)) := fun V hV => row_two (keepB hV (keepB Hb2.out Hx1.out))
  obtain ⟨x0, x1⟩ := HX.out W (Below.refl _ _)
  have HT := Lib.hid (tab_any (T := T) (er := er) a b n c m d os es hn hm W (ho.below HB.out) (he.below HB.out) (hG.below' HB.out))
  rw [hz] at HT
  have Hw1 : Hid (W1.heap.size < W.heap.size ∧ w.heap.size ≤ W1.heap.size) := ⟨hs2.out, Nat.le_of_lt hs1.out⟩
  have Ho := Lib.hid (ho.below HB.out)
  have He := Lib.hid (he.below HB.out)
  have HO1 := Lib.hid (fun q (V : World) h g hk => only_47 (q := q) (comZ s.recs) a b n c m d (obs os) es (by rw [obs_len, hn]) hm (obs_one os) ⟨by omega, by omega⟩ V h g hk)
  clear ho he hG hn hm hz hs1 hs2
  go_enter Tryd.func26, Tryd.ntmps26
  go_wp2_with (first
    | (go_at_call 24; (with_reducible refine HT.out.mono ?_); rintro e w2 ⟨dvs, a3, c3, rfl, h2⟩
       have HI : Hid (TxIn w2 a3 s.recs) := h2.out.2.1.inn rfl
       have B2 : Hid (Below W.heap.size W w2) := h2.out.2.2
       have HL4 : Hid (s.recs.length ≤ 400) := by have := h2.out.1.few; have := h2.out.1.taken; show _ ≤ _; omega
       clear h2
       obtain ⟨n3, hn3⟩ : ∃ n3, s.recs.length = n3 := ⟨_, rfl⟩
       have Hn3 := Lib.hid hn3
       rw [hn3]
       clear hn3
       obtain ⟨W4, hW4, Hb4, hs4, Hx4⟩ := cells_new w2 #[.slice a3 n3 c3] 46
       have B4 : Hid (Below W.heap.size W W4) := stepB B2.out Hb4.out
       obtain ⟨y0, y1⟩ := HX.out W4 B4.out
       have HK : Hid (∀ V, Below W4.heap.size W4 V → ∀ x : Int, Calls Tryd.prog 47 #[.int .i64 x, .pointer (some ⟨w2.heap.size, 0, none⟩)] V fun e w' => e = .returned (.bool (comZ s.recs x)) ∧ Hid (Below V.heap.size V w')) := fun V hV x => com_47 x _ a3 n3 c3 s.recs Hn3.out (by have := HL4.out; rw [Hn3.out] at this; exact this) V (HI.out.below (stepB Hb4.out hV)) (keepB hV Hx4.out)
       have HO2 := Lib.hid (HO1.out w2.heap.size W4 (Ho.out.below B4.out) (He.out.below B4.out) HK.out)
       clear HI)
    | (go_at_call 17; (with_reducible refine HO2.out.mono ?_); rintro e w5 ⟨v1, v2, rfl, K5⟩
       obtain ⟨a1, c1, rfl, -, -⟩ := row_sl K5.out.1
       obtain ⟨a2, c2, rfl, -, -⟩ := row_sl K5.out.2.1
       have B5 : Hid (Below W.heap.size W w5) := stepB B4.out K5.out.2.2
       obtain ⟨F1, F2, hF1, hF2, ⟨⟨f0, e0⟩, ⟨f1, e1⟩⟩, HF, HE2, HC2, HO⟩ := box_put2x (w := w) (.slice a1 n c1) (.slice a2 (es.filter fun e => comZ s.recs e.tx).length c2) (keepB B5.out Hy.out) Hw1.out.2))
  refine bodyPost_ret (results_row_tmp rfl _ _ W1.heap.size 25 _ (0, 0) _ rfl HF.out Tryd.underlying25 rfl (by kernel_rfl)) rfl ?_
  have B9 : Below w.heap.size w w5 := stepB HB.out B5.out
  have hl4 : W1.heap.size < W4.heap.size := Nat.lt_of_lt_of_le Hw1.out.1 B4.out.size
  have hl5 : w.heap.size ≤ W4.heap.size := Nat.le_trans Hw1.out.2 (Nat.le_of_lt hl4)
  refine ⟨_, _, rfl, ?_, ?_, B9.trans HE2.out⟩
  · exact row_base (HO.out _ _ _ _ _ _ hl4 K5.out.1) hl5
  · exact row_base (HO.out _ _ _ _ _ _ hl4 K5.out.2.1) hl5
theorem com_any (a b : Option Addr) (n c m d : Nat) (os : List (Int × Int)) (es : List Ev) (hn : os.length = n) (hm : es.length = m) (w : World) (ho : SlAt w a (obs os)) (he : EvsAt w b es m) (hG : Glob T er w) (h64 : n ≤ 64 ∧ m ≤ 400) :
    Calls Tryd.prog 26 #[hv a n c b m d] w (ComIs n (obs os) es (tabZ os es) w) := by
  cases hz : tabZ os es with
  | none => exact com_no a b n c m d os es hn hm w ho he hG hz
  | some s => exact com_ok a b n c m d os es hn hm w ho he hG h64 hz
end Go.Proofs.YtfjjhjojcgacbaaDoor
