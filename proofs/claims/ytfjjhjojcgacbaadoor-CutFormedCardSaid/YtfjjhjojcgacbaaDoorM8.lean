/- Helpers, joined: Ne, Nf, Ng, Nh, Ni. -/
import Derived.Test.YtfjjhjojcgacbaaDoorM7
import Derived.Laws.MakeOwn
import Derived.LaidEql

/- Txs: the transactions of an automaton; Table. -/
namespace Go.Proofs.YtfjjhjojcgacbaaDoor
open Go.RowKit Go.Maps Go.WideMaps Go.WideElems Go.ChangeShapes Go.WideShapes
variable {T : TypeId} {er : Nat → Addr}

theorem deeds_one (ds : List Deed) : ∀ u ∈ deeds ds, u.oneCell' = true := by
  intro u hu; simp [deeds, Deed.row] at hu; rcases hu with ⟨e, _, rfl | rfl | rfl | rfl | rfl | rfl | rfl | rfl⟩ <;> rfl
set_option maxHeartbeats 2000000 in
set_option maxRecDepth 100000 in
theorem clone_deeds (a : Option Addr) (n c : Nat) (xs : List Value) (hx : xs.length = n * 8) (h1 : ∀ u ∈ xs, u.oneCell' = true) (hn : n ≤ 100000) (w : World) (h : SlAt w a xs) :
    Calls Tryd.prog 53 #[.slice a n c] w fun e w' => ∃ v', e = .returned v' ∧ Hid (w'.ownsRow w.heap.size 75 8 v' n xs ∧ Below w.heap.size w w') := by
  obtain ⟨i0, hi, hz0, hz1, hz2⟩ := info_parts elem75
  have q22 : ∀ (w : World) (a : Option Addr) (n c n' c' : Nat), (Go.binOp .eql 55 (.slice a n c) (.slice none n' c')).run Tryd.prog w = .ok (.bool a.isNone) w := fun w a n c n' c' => Lib.run_eql_slice_nil w _ _ a n c n' c' Tryd.underlying55
  rcases h with ⟨rfl, rfl⟩ | ⟨b, off, rfl, hbl, hc⟩
  · have hn0 : n = 0 := by simp at hx; omega
    subst hn0
    clear hx h1 hn
    go_enter Tryd.func53, Tryd.ntmps53
    go_wp2
    go_ret
    exact ⟨_, rfl, ⟨rfl, .inl ⟨rfl, rfl⟩⟩, Below.refl _ _⟩
  have A : Aside (∀ j u, xs[j]? = some u → w.cell? ⟨b, off + j, none⟩ = some u) := hc
  have Hx := Lib.hid hx
  have H1 := Lib.hid h1
  clear hc hbl hx h1
  go_enter Tryd.func53, Tryd.ntmps53
  go_wp2_with (at_builtin; refine wpList_append_own _ rfl _ _ 55 rfl w.heap.size 75 i0 zeroDeed 8 64 Tryd.underlying55 hi hz0 hz1 hz2 rfl (by decide) _ _ _ rfl (World.ownsRow_made w #[] 0 (Nat.le_refl _) (Nat.zero_le _) rfl) ⟨b, off, none⟩ n c xs rfl ?qc1 ?qc2 ?qc3 ?qc4 ?qc5 ?qc6 ?_)
  case qc1 => exact Hx.out
  case qc2 =>
    intro j u hj
    rw [Addr.add_lit]
    refine Lib.cell?_alloc_some _ ?_
    exact A.out j u hj
  case qc3 => exact H1.out
  case qc4 => unfold maxLen; omega
  case qc5 => omega
  case qc6 => simp
  intro v' w1 hown hgrow hnil
  have Ho : Hid (w1.ownsRow w.heap.size 75 8 v' n xs ∧ Below w.heap.size w w1) := ⟨by simpa using hown, ((Below.refl _ w).alloc (Nat.le_refl _) _).grown hgrow (by simp) (by intro k hk; simp [Value.ownBlock] at hk; omega)⟩
  clear hown hgrow hnil
  go_wp2
  go_ret
  exact ⟨v', rfl, Ho.out⟩

/-- A transaction's cells. -/
abbrev Rec.tx (r : Rec) (dv : Value) : List Value := [.int .i64 r.id, .int .i64 r.thread, .int .i64 r.status, .int .i64 r.beg, .int .i64 r.fin, .int .i64 r.tri, dv]
def txs : List Rec → List Value → List Value
  | r :: rs, d :: ds => r.tx d ++ txs rs ds
  | _, _ => []
theorem txs_snoc : ∀ (rs : List Rec) (ds : List Value) (r : Rec) (d : Value), rs.length = ds.length → txs (rs ++ [r]) (ds ++ [d]) = txs rs ds ++ r.tx d
  | [], [], r, d, _ => rfl
  | [], _ :: _, _, _, h => by simp at h
  | _ :: _, [], _, _, h => by simp at h
  | x :: rs, y :: ds, r, d, h => by
    have ih := txs_snoc rs ds r d (by simpa using h)
    show x.tx y ++ txs (rs ++ [r]) (ds ++ [d]) = x.tx y ++ txs rs ds ++ r.tx d
    rw [ih, List.append_assoc]
theorem txs_get : ∀ (rs : List Rec) (ds : List Value) (k : Nat) (r : Rec) (d : Value) (j : Nat), rs[k]? = some r → ds[k]? = some d → j < 7 → (txs rs ds)[k * 7 + j]? = (r.tx d)[j]?
  | [], _, k, r, d, j, h, _, _ => by simp at h
  | _ :: _, [], k, r, d, j, _, h, _ => by simp at h
  | x :: rs, y :: ds, 0, r, d, j, h, h', hj => by
    simp at h h'
    subst h h'
    show (x.tx y ++ txs rs ds)[0 * 7 + j]? = _
    rw [Nat.zero_mul, Nat.zero_add, List.getElem?_append_left (by simpa using hj)]
  | x :: rs, y :: ds, k + 1, r, d, j, h, h', hj => by
    have ih := txs_get rs ds k r d j (by simpa using h) (by simpa using h') hj
    show (x.tx y ++ txs rs ds)[(k + 1) * 7 + j]? = _
    rw [List.getElem?_append_right (by simp; omega), ← ih]
    congr 1
    simp
    omega
/-- A list of transactions in memory, each with a list of deeds of its own. -/
structure TxAt (B : Nat) (rs : List Rec) (dvs : List Value) (v : Value) (V : World) : Prop where
  len : dvs.length = rs.length
  row : V.ownsRow B 57 7 v rs.length (txs rs dvs)
  ds : ∀ (i : Nat) (r : Rec) (dv : Value), rs[i]? = some r → dvs[i]? = some dv → V.ownsRow B 75 8 dv r.ds.length (deeds r.ds)
theorem TxAt.keep {B : Nat} {rs : List Rec} {dvs : List Value} {v : Value} {V U : World} (h : TxAt B rs dvs v V) (hb : Below V.heap.size V U) : TxAt B rs dvs v U :=
  ⟨h.len, row_kept h.row hb, fun i r dv hr hd => row_kept (h.ds i r dv hr hd) hb⟩
theorem TxAt.base {B C : Nat} {rs : List Rec} {dvs : List Value} {v : Value} {V : World} (h : TxAt C rs dvs v V) (hb : B ≤ C) : TxAt B rs dvs v V :=
  ⟨h.len, row_base h.row hb, fun i r dv hr hd => row_base (h.ds i r dv hr hd) hb⟩
/-- One more. -/
theorem TxAt.put {B : Nat} {rs : List Rec} {dvs : List Value} {v v' dv : Value} {V U : World} {r : Rec} (h : TxAt B rs dvs v V) (hg : V.grownBy U v.ownBlock) (hr : U.ownsRow B 57 7 v' (rs.length + 1) (txs rs dvs ++ r.tx dv)) (hd : V.ownsRow B 75 8 dv r.ds.length (deeds r.ds)) : TxAt B (rs ++ [r]) (dvs ++ [dv]) v' U := by
  refine ⟨by simp [h.len], ?_, ?_⟩
  · rw [txs_snoc _ _ _ _ h.len.symm, List.length_append]
    exact hr
  · intro i r2 d2 hi hj
    by_cases hlt : i < rs.length
    · rw [List.getElem?_append_left hlt] at hi
      rw [List.getElem?_append_left (by rw [h.len]; exact hlt)] at hj
      exact row_other (h.ds i r2 d2 hi hj) h.row (by decide) hg
    · rw [List.getElem?_append_right (by omega)] at hi
      rw [List.getElem?_append_right (by rw [h.len]; omega)] at hj
      have e0 : i - rs.length = 0 := by
        have := (List.getElem?_eq_some_iff.1 hi).1
        simp at this
        omega
      rw [e0] at hi
      rw [h.len, e0] at hj
      simp at hi hj
      subst hi hj
      exact row_other hd h.row (by decide) hg
theorem box_putN {w V : World} {rb o : Nat} {cs : Array Value} {x : Value} {t : TypeId} (p : Value) (hM : V.heap[rb]? = some (.cells cs t)) (ho : cs[o]? = some x) (hr : w.heap.size ≤ rb) :
    ∃ V1, V.setCell ⟨rb, o, none⟩ p = V1 ∧ (V.cell? ⟨rb, o, none⟩ = some x ∧ V.frozen? ⟨rb, o, none⟩ = false) ∧ Hid (V1.heap[rb]? = some (.cells (cs.setIfInBounds o p) t)) ∧ Hid (Below w.heap.size V V1) :=
  ⟨_, rfl, ⟨(cell_of_row _ _ o _ _ _ hM).trans ho, frozen_of_row _ rb o _ t hM⟩, heap_setCell_same V rb o _ t p hM, (Below.refl _ _).setCell (p := ⟨rb, o, none⟩) hr _⟩
theorem row_seven {W : World} {B : Nat} {x0 x1 x2 x3 x4 x5 x6 : Value} {t : TypeId} (h : W.heap[B]? = some (.cells #[x0, x1, x2, x3, x4, x5, x6] t)) : W.cell? ⟨B, 0, none⟩ = some x0 ∧ W.cell? ⟨B, 1, none⟩ = some x1 ∧ W.cell? ⟨B, 2, none⟩ = some x2 ∧ W.cell? ⟨B, 3, none⟩ = some x3 ∧ W.cell? ⟨B, 4, none⟩ = some x4 ∧ W.cell? ⟨B, 5, none⟩ = some x5 ∧ W.cell? ⟨B, 6, none⟩ = some x6 := by simp [World.cell?, h]
theorem seven_news (w : World) (p0 p1 p2 p3 p4 p5 p6 : Value) (t : TypeId) : ∀ j u, [p0, p1, p2, p3, p4, p5, p6][j]? = some u → (w.alloc (.cells #[p0, p1, p2, p3, p4, p5, p6] t)).cell? ((⟨w.heap.size, 0, none⟩ : Addr).add j) = some u := World.news_of_block (World.alloc_heap_new w _)
abbrev zeroTx : Value := .agg #[.int .i64 0, .int .i64 0, .int .i64 0, .int .i64 0, .int .i64 0, .int .i64 0, .slice none 0 0]
theorem elem57 : (Tryd.prog.info? 57).map (fun i => (i.zero, i.size, i.bytes)) = some (some zeroTx, 7, 72) := by kernel_rfl

/-- The pointers to the records lie in a row. -/
def PtrAt (w : World) (a : Option Addr) (M : List (Nat × Value)) : Prop := ∀ k, k < M.length → ∃ b o m, a = some ⟨b, o, none⟩ ∧ M[k]? = some m ∧ ∀ V, Below w.heap.size w V → V.cell? ⟨b, o + k, none⟩ = some (.pointer (some ⟨m.1, 0, none⟩))
theorem PtrAt.of {w : World} {a : Option Addr} {M : List (Nat × Value)} (h : SlAt w a (M.map fun m => .pointer (some ⟨m.1, 0, none⟩))) : PtrAt w a M := by
  intro k hk
  rcases h with ⟨_, h⟩ | ⟨b, o, rfl, hl, hc⟩
  · rw [List.map_eq_nil_iff] at h; subst h; simp at hk
  · have hk2 : (M.map fun m => Value.pointer (some ⟨m.1, 0, none⟩))[k]? = some (.pointer (some ⟨M[k].1, 0, none⟩)) := by
      rw [List.getElem?_map, List.getElem?_eq_getElem hk]; rfl
    have hbl := hl (by intro e; rw [List.map_eq_nil_iff] at e; subst e; simp at hk)
    exact ⟨b, o, M[k], rfl, List.getElem?_eq_getElem hk, fun V hV => (hV.cell (p := ⟨b, o + k, none⟩) hbl).trans (hc k _ hk2)⟩

set_option maxHeartbeats 8000000 in
set_option maxRecDepth 100000 in
theorem txs_any {B A : Nat} {os : List (Int × Int)} {s : St} {M : List (Nat × Value)} {oa : Option Addr} {oc : Nat} {rv : Value} {mb eb : Nat} (w : World) (h : AutoAt B A os s.recs s.busy s.taken M oa oc rv mb eb w) (hs : s.Ok) :
    Calls Tryd.prog 45 #[.pointer (some ⟨A, 0, none⟩)] w fun e w' => ∃ dvs v, e = .returned v ∧ Hid (TxAt w.heap.size s.recs dvs v w' ∧ Below w.heap.size w w') := by
  obtain ⟨i0, hi0, hz0, hz1, hz2⟩ := info_parts elem57
  obtain ⟨a, c, hrv, hsl, -⟩ := row_sl h.order
  subst hrv
  obtain ⟨n, hn⟩ : ∃ n, M.length = n := ⟨_, rfl⟩
  have hn2 : n ≤ 400 := by have := h.len; have := hs.few; have := hs.taken; omega
  obtain ⟨W1, hmk, hmo, hmg⟩ := run_make_own (P := Tryd.prog) w w.heap.size 46 57 i0 zeroTx 7 Tryd.underlying46 hi0 hz0 hz1 .i64 .i64 n (by rw [hz2]; omega) (by unfold maxLen; omega) (Nat.le_refl _)
  have HB1 : Hid (Below w.heap.size w W1) := (Below.refl _ w).grown hmg (Nat.le_refl _) (by simp)
  have HA := Lib.hid h
  have HP := Lib.hid (PtrAt.of hsl)
  have HT : Hid (TxAt w.heap.size (s.recs.take 0) [] (.slice (some ⟨w.heap.size, 0, none⟩) 0 n) W1) := ⟨rfl, by simpa [txs] using hmo, fun i r dv hr _ => by simp at hr⟩
  have HC := Lib.hid @clone_deeds
  have HD1 := Lib.hid @deeds_len
  have HDo := Lib.hid @deeds_one
  have HRf : Hid (∀ r ∈ s.recs, r.ds.length ≤ 400) := fun r hr => by have := (hs.recs r hr).few; have := hs.taken; omega
  have HL : Hid (s.recs.length = n) := by have := h.len; show _ = _; omega
  have c2 : w.cell? ⟨A, 2, none⟩ = some (.slice a n c) := by rw [← hn]; exact (cell_of_row _ _ 2 _ _ _ h.auto).trans rfl
  have c2b : W1.cell? ⟨A, 2, none⟩ = some (.slice a n c) := by rw [← hn]; exact (cell_of_row _ _ 2 _ _ _ (HA.out.keep HB1.out).auto).trans rfl
  have HN := Lib.hid hn
  have n0 : (0 : Int) ≤ n := by omega
  clear h hsl hn hmo hmg hs
  go_enter Tryd.func45, Tryd.ntmps45
  go_wp2_with fail
  clear hmk c2 c2b
  go_loopw [3, 18] (fun l i wr => ∃ (k : Nat) (dvs : List Value) (lv : Value), k ≤ n ∧ lv = l ∧ i = .int .i64 ((k : Nat) : Int) ∧ Hid (TxAt w.heap.size (s.recs.take k) dvs lv wr ∧ Below w.heap.size w wr)) (fun _ i _ => n - (intOf i).toNat)
  case atStart => exact ⟨0, [], _, Nat.zero_le _, rfl, rfl, HT.out, HB1.out⟩
  case round =>
    clear HT
    obtain ⟨k, dvs, lv, hk, rfl, rfl, HT⟩ := hrel
    by_cases hlt : k < n
    · have hlI : (k : Int) < (n : Int) := by omega
      obtain ⟨b1, o1, m1, rfl, hm1, hc⟩ := HP.out k (by rw [HN.out]; exact hlt)
      have y0 := hc wr HT.out.2
      obtain ⟨r, hr⟩ : ∃ r, s.recs[k]? = some r := ⟨_, List.getElem?_eq_getElem (by rw [HL.out]; exact hlt)⟩
      have hone := (HA.out.keep HT.out.2).one k r m1 hr hm1
      obtain ⟨a2, d2, hv2, hsl2, -⟩ := row_sl hone.2.2
      have hrow := hone.2.1
      rw [hv2] at hrow
      obtain ⟨z0, z1, z2, z3, z4, z5, z6, z7⟩ := row_eight hrow
      have hdl : r.ds.length ≤ 400 := HRf.out r (List.mem_of_getElem? hr)
      obtain ⟨dl, hdle⟩ : ∃ dl, r.ds.length = dl := ⟨_, rfl⟩
      rw [hdle] at z6
      obtain ⟨W4, hW4, Hb4, hs4, Hr⟩ := cells_new wr #[.int .i64 r.id, .int .i64 r.thread, .int .i64 r.status, .int .i64 r.beg, .int .i64 r.fin, .int .i64 r.tri, .slice a2 dl d2] 57
      obtain ⟨r0, r1, r2, r3, r4, r5, r6⟩ := row_seven Hr.out
      have HCl := Lib.hid (HC.out a2 dl d2 (deeds r.ds) (by rw [HD1.out, hdle]) (HDo.out _) (by omega) W4 (hsl2.below Hb4.out))
      have Htk : Hid (s.recs.take (k + 1) = s.recs.take k ++ [r]) := by show _ = _; rw [List.take_add_one, hr]; rfl
      have Hlk : Hid ((s.recs.take k).length ≤ 400 ∧ 1 + (s.recs.take k).length ≤ 400 + 1) := by have := List.length_take_le k s.recs; refine ⟨?_, ?_⟩ <;> omega
      have Hdle := Lib.hid hdle
      clear hc hr hm1 hone hv2 hsl2 hrow hdl hdle
      go_wp2_with (first
        | (go_at_call 53; (with_reducible refine HCl.out.mono ?_); rintro e w8 ⟨v3, rfl, K8⟩
           obtain ⟨a3, c3, rfl, -, -⟩ := row_sl K8.out.1
           obtain ⟨W9, hW9, ⟨g6, l6⟩, HX9, HB9⟩ := box_putN (w := wr) (o := 6) (.slice a3 dl c3) (keepB K8.out.2 Hr.out) rfl (Nat.le_refl _)
           obtain ⟨q0, q1, q2, q3, q4, q5, q6⟩ := row_seven HX9.out
           have B9 : Hid (Below wr.heap.size wr W9) := (stepB Hb4.out K8.out.2).trans HB9.out
           have HT9 : Hid (TxAt w.heap.size (s.recs.take k) dvs lv W9) := HT.out.1.keep B9.out
           have HD9 : Hid (W9.ownsRow w.heap.size 75 8 (.slice a3 dl c3) r.ds.length (deeds r.ds)) := by rw [Hdle.out, ← hW9]; exact row_base (row_setOff K8.out.1 (keepB K8.out.2 Hr.out) (by decide) _) (Nat.le_trans HT.out.2.size Hb4.out.size)
           have BW9 : Hid (Below w.heap.size w W9) := stepB HT.out.2 B9.out)
        | (at_builtin; refine wpList_append_own _ rfl _ _ 46 rfl w.heap.size 57 i0 zeroTx 7 72 Tryd.underlying46 hi0 hz0 hz1 hz2 rfl (by decide) lv _ _ rfl (HT9.out.row.alloc _) ⟨W9.heap.size, 0, none⟩ 1 1 [.int .i64 r.id, .int .i64 r.thread, .int .i64 r.status, .int .i64 r.beg, .int .i64 r.fin, .int .i64 r.tri, .slice a3 dl c3] rfl rfl (seven_news _ _ _ _ _ _ _ _ _) (by intro u hu; simp only [List.mem_cons, List.not_mem_nil, or_false] at hu; rcases hu with rfl | rfl | rfl | rfl | rfl | rfl | rfl <;> rfl) (by unfold maxLen; have := Hlk.out; omega) (by have := Hlk.out; omega) (by show _ ≤ _; simp; exact Nat.le_trans BW9.out.size (Nat.le_succ _)) ?_))
      intro v' w10 hown hgrow hnil
      have HU : Hid (TxAt w.heap.size (s.recs.take (k + 1)) (dvs ++ [.slice a3 dl c3]) v' w10) := by
        show TxAt _ _ _ _ _
        rw [Htk.out]
        exact (HT9.out.keep ((Below.refl _ _).alloc (Nat.le_refl _) _)).put hgrow (by rw [List.length_take]; exact hown) (row_kept HD9.out ((Below.refl _ _).alloc (Nat.le_refl _) _))
      have BU : Hid (Below w.heap.size w w10) := (BW9.out.alloc BW9.out.size _).grown hgrow (by simp; exact Nat.le_trans BW9.out.size (Nat.le_succ _)) (fun j e => (HT9.out.row.lt j e).1)
      clear hown hgrow hnil
      go_wp2_with fail
      go_roundw
      case rel => exact ⟨k + 1, _, _, by omega, rfl, by go_num, HU.out, BU.out⟩
      case measure => simp [intOf]; omega
    · have hkn : k = n := by omega
      have HF : Hid (TxAt w.heap.size s.recs dvs lv wr) := by have := HT.out.1; rwa [hkn, List.take_of_length_le (by have := HL.out; omega)] at this
      go_wp2_with fail
      go_ret
      exact ⟨dvs, _, rfl, HF.out, HT.out.2⟩

/-- What Table answers. -/
def TabIs (r : Option St) (w : World) (e : Ending) (w' : World) : Prop := match r with
  | none => ∃ t p, e = .returned (.tuple #[.slice none 0 0, .iface t (.pointer (some p))]) ∧ Hid (Below w.heap.size w w')
  | some s => ∃ dvs a c, e = .returned (.tuple #[.slice a s.recs.length c, .nilIface]) ∧ Hid (s.Ok ∧ TxAt w.heap.size s.recs dvs (.slice a s.recs.length c) w' ∧ Below w.heap.size w w')

set_option maxHeartbeats 4000000 in
set_option maxRecDepth 100000 in
theorem tab_any (a b : Option Addr) (n c m d : Nat) (os : List (Int × Int)) (es : List Ev) (hn : os.length = n) (hm : es.length = m) (w : World) (ho : SlAt w a (obs os)) (he : EvsAt w b es m) (hG : Glob T er w) :
    Calls Tryd.prog 24 #[hv a n c b m d] w (TabIs (tabZ os es) w) := by
  obtain ⟨W, hW, Hb, hs, Hx⟩ := cells_new w #[.slice a n c, .slice b m d] 25
  have HV := Lib.hid (feedAll_any (T := T) (er := er) a b n c m d os es hn hm W (ho.below Hb.out) (he.below Hb.out) (hG.below' Hb.out))
  obtain ⟨x0, x1⟩ := row_two Hx.out
  clear ho he hG hn hm hs
  cases hk : tabZ os es with
  | none =>
    rw [hk] at HV
    clear hk
    go_enter Tryd.func24, Tryd.ntmps24
    go_wp2_with (first | (go_at_call 44; (with_reducible refine HV.out.mono ?_); rintro e w2 ⟨t9, p9, rfl, h2⟩))
    go_ret2
    exact ⟨_, _, rfl, stepB Hb.out h2.out⟩
  | some s =>
    rw [hk] at HV
    clear hk
    go_enter Tryd.func24, Tryd.ntmps24
    go_wp2_with (first
      | (go_at_call 44; (with_reducible refine HV.out.mono ?_); rintro e w2 ⟨A, M, oa, oc, rv, mb, eb, rfl, h2⟩)
      | (go_at_call 45; (with_reducible refine (txs_any w2 h2.out.2.1 h2.out.1).mono ?_); rintro e w3 ⟨dvs, v, rfl, h3⟩
         obtain ⟨a3, c3, rfl, -, -⟩ := row_sl h3.out.1.row))
    go_ret2
    exact ⟨dvs, a3, c3, rfl, h2.out.1, h3.out.1.base (Nat.le_trans Hb.out.size h2.out.2.2.size), stepB Hb.out (stepB h2.out.2.2 h3.out.2)⟩
end Go.Proofs.YtfjjhjojcgacbaaDoor

/- Find. -/
namespace Go.Proofs.YtfjjhjojcgacbaaDoor
open Go.RowKit Go.Maps Go.WideMaps Go.WideElems Go.ChangeShapes Go.WideShapes
variable {T : TypeId} {er : Nat → Addr}

/-- A list of transactions that lies there, now and later. -/
def TxIn (w : World) (a : Option Addr) (rs : List Rec) : Prop := ∀ k, k < rs.length → ∃ b o r a2 d2, a = some ⟨b, o, none⟩ ∧ rs[k]? = some r ∧ SlAt w a2 (deeds r.ds) ∧ ∀ V, Below w.heap.size w V → (V.cell? ⟨b, o + k * 7, none⟩ = some (.int .i64 r.id) ∧ V.cell? ⟨b, o + k * 7 + 1, none⟩ = some (.int .i64 r.thread) ∧ V.cell? ⟨b, o + k * 7 + 2, none⟩ = some (.int .i64 r.status) ∧ V.cell? ⟨b, o + k * 7 + 3, none⟩ = some (.int .i64 r.beg) ∧ V.cell? ⟨b, o + k * 7 + 4, none⟩ = some (.int .i64 r.fin) ∧ V.cell? ⟨b, o + k * 7 + 5, none⟩ = some (.int .i64 r.tri) ∧ V.cell? ⟨b, o + k * 7 + 6, none⟩ = some (.slice a2 r.ds.length d2))
theorem TxIn.below {w V : World} {a : Option Addr} {rs : List Rec} (h : TxIn w a rs) (hb : Below w.heap.size w V) : TxIn V a rs := by
  intro k hk
  obtain ⟨b, o, r, a2, d2, h1, h2, h3, h4⟩ := h k hk
  exact ⟨b, o, r, a2, d2, h1, h2, h3.below hb, fun U hU => h4 U (stepB hb hU)⟩
theorem TxAt.inn {B : Nat} {rs : List Rec} {dvs : List Value} {a : Option Addr} {n c : Nat} {w : World} (h : TxAt B rs dvs (.slice a n c) w) (hn : n = rs.length) : TxIn w a rs := by
  subst hn
  obtain ⟨a', c', e, hs, -⟩ := row_sl h.row
  injection e with e1 e2 e3
  subst e1
  intro k hk
  have hr : rs[k]? = some rs[k] := List.getElem?_eq_getElem hk
  have hd : dvs[k]? = some (dvs[k]'(by rw [h.len]; exact hk)) := List.getElem?_eq_getElem _
  generalize rs[k] = r at hr
  generalize dvs[k]'(by rw [h.len]; exact hk) = dv at hd
  have hrow := h.ds k r dv hr hd
  obtain ⟨a2, d2, hv2, hs2, -⟩ := row_sl hrow
  have g := fun j hj => txs_get rs dvs k r dv j hr hd hj
  rw [hv2] at g
  have g0 := g 0 (by decide)
  have g1 := g 1 (by decide)
  have g2 := g 2 (by decide)
  have g3 := g 3 (by decide)
  have g4 := g 4 (by decide)
  have g5 := g 5 (by decide)
  have g6 := g 6 (by decide)
  rcases hs with ⟨_, he⟩ | ⟨b, o, rfl, hl, hc⟩
  · rw [he] at g0
    simp at g0
  · have hbl := hl (by intro e; rw [e] at g0; simp at g0)
    have k1 : ∀ V, Below w.heap.size w V → ∀ j u, (txs rs dvs)[j]? = some u → V.cell? ⟨b, o + j, none⟩ = some u := fun V hV j u hj => (hV.cell (p := ⟨b, o + j, none⟩) hbl).trans (hc j u hj)
    refine ⟨b, o, r, a2, d2, rfl, hr, hs2, fun V hV => ?_⟩
    have q := k1 V hV
    have q0 := q _ _ g0
    have q1 := q _ _ g1
    have q2 := q _ _ g2
    have q3 := q _ _ g3
    have q4 := q _ _ g4
    have q5 := q _ _ g5
    have q6 := q _ _ g6
    rw [Nat.add_zero] at q0
    rw [← Nat.add_assoc] at q1 q2 q3 q4 q5 q6
    exact ⟨q0, q1, q2, q3, q4, q5, q6⟩

set_option maxRecDepth 100000 in
theorem findOne (x : Int) (p : Nat) (i th st be fi tr : Int) (dv : Value) (w : World) (hp : w.heap[p]? = some (.cells #[.int .i64 x] 3)) :
    Calls Tryd.prog 55 #[.agg #[.int .i64 i, .int .i64 th, .int .i64 st, .int .i64 be, .int .i64 fi, .int .i64 tr, dv], .pointer (some ⟨p, 0, none⟩)] w fun e w' => e = .returned (.bool (i == x)) ∧ Hid (Below w.heap.size w w') := by
  obtain ⟨W, hW, Hb, hs, Hx⟩ := cells_new w #[.int .i64 i, .int .i64 th, .int .i64 st, .int .i64 be, .int .i64 fi, .int .i64 tr, dv] 57
  obtain ⟨x0, x1, x2, x3, x4, x5, x6⟩ := row_seven Hx.out
  have y0 : W.cell? ⟨p, 0, none⟩ = some (.int .i64 x) := (cell_of_row _ _ 0 _ _ _ (keepB Hb.out hp)).trans rfl
  clear hp Hx hs
  go_enter Tryd.func55, Tryd.ntmps55
  go_wp2_with fail
  go_ret
  exact ⟨rfl, Hb.out⟩

/-- The answer of IndexFunc. -/
def idxZ : Option Nat → Int
  | some j => (j : Int)
  | none => -1

set_option maxHeartbeats 4000000 in
set_option maxRecDepth 100000 in
theorem index_any (x : Int) (p : Nat) (a : Option Addr) (n c : Nat) (rs : List Rec) (hn : rs.length = n) (hn2 : n ≤ 400) (w : World) (h : TxIn w a rs) (hp : w.heap[p]? = some (.cells #[.int .i64 x] 3)) :
    Calls Tryd.prog 54 #[.slice a n c, .func (.func 55) #[] #[.pointer (some ⟨p, 0, none⟩)]] w fun e w' => e = .returned (.int .i64 (idxZ (findR x rs 0))) ∧ Hid (Below w.heap.size w w') := by
  obtain ⟨R, hR⟩ : ∃ R, findR x rs 0 = R := ⟨_, rfl⟩
  rw [hR]
  have HR : Hid (findR x (rs.drop 0) 0 = R) := by show _ = _; rw [List.drop_zero]; exact hR
  have Hh := Lib.hid h
  have Hn := Lib.hid hn
  have Hp := Lib.hid hp
  clear h hn hR hp
  go_enter Tryd.func54, Tryd.ntmps54
  go_wp2_with fail
  go_loopw [8] (fun i wr => ∃ k : Nat, k ≤ n ∧ i = .int .i64 ((k : Nat) : Int) ∧ Hid (findR x (rs.drop k) k = R) ∧ Hid (Below w.heap.size w wr)) (fun i _ => n - (intOf i).toNat)
  case atStart => exact ⟨0, Nat.zero_le _, rfl, HR.out, Below.refl _ _⟩
  case round =>
    clear HR
    obtain ⟨k, hk, rfl, HR, HB⟩ := hrel
    by_cases hlt : k < n
    · have hlI : (k : Int) < (n : Int) := by omega
      obtain ⟨b1, o1, r, a2, d2, rfl, hr, -, hc⟩ := Hh.out k (by rw [Hn.out]; exact hlt)
      obtain ⟨y0, y1, y2, y3, y4, y5, y6⟩ := hc wr HB.out
      have HV := Lib.hid (findOne x p r.id r.thread r.status r.beg r.fin r.tri (.slice a2 r.ds.length d2) wr (keepB HB.out Hp.out))
      have hdr : rs.drop k = r :: rs.drop (k + 1) := by
        obtain ⟨hkl, hkr⟩ := List.getElem?_eq_some_iff.1 hr
        rw [← hkr]
        exact List.drop_eq_getElem_cons hkl
      have HS : Hid ((if r.id = x then some k else findR x (rs.drop (k + 1)) (k + 1)) = R) := by
        show _ = _
        rw [← HR.out, hdr]
        rfl
      obtain ⟨dl, hdl⟩ : ∃ dl, r.ds.length = dl := ⟨_, rfl⟩
      rw [hdl] at y6 HV
      clear hc hr hdr hdl
      by_cases hid : r.id = x
      · have HF : Hid (R = some k) := by show _ = _; rw [← HS.out, if_pos hid]
        have HV2 : Hid (Calls Tryd.prog 55 #[.agg #[.int .i64 r.id, .int .i64 r.thread, .int .i64 r.status, .int .i64 r.beg, .int .i64 r.fin, .int .i64 r.tri, .slice a2 dl d2], .pointer (some ⟨p, 0, none⟩)] wr fun e w' => e = .returned (.bool true) ∧ Hid (Below wr.heap.size wr w')) := by
          have := HV.out
          rw [beq_yes hid] at this
          exact this
        clear hid HV HS
        go_wp2_with (first | (go_at_call 55; (with_reducible refine HV2.out.mono ?_); rintro e w8 ⟨rfl, h8⟩))
        go_ret
        exact ⟨by rw [HF.out]; rfl, stepB HB.out h8.out⟩
      · have HF : Hid (findR x (rs.drop (k + 1)) (k + 1) = R) := by show _ = _; rw [← HS.out, if_neg hid]
        have HV2 : Hid (Calls Tryd.prog 55 #[.agg #[.int .i64 r.id, .int .i64 r.thread, .int .i64 r.status, .int .i64 r.beg, .int .i64 r.fin, .int .i64 r.tri, .slice a2 dl d2], .pointer (some ⟨p, 0, none⟩)] wr fun e w' => e = .returned (.bool false) ∧ Hid (Below wr.heap.size wr w')) := by
          have := HV.out
          rw [beq_no hid] at this
          exact this
        clear hid HV HS
        go_wp2_with (first | (go_at_call 55; (with_reducible refine HV2.out.mono ?_); rintro e w8 ⟨rfl, h8⟩))
        go_roundw
        case rel => exact ⟨k + 1, by omega, by go_num, HF.out, stepB HB.out h8.out⟩
        case measure => simp [intOf]; omega
    · have hkn : k = n := by omega
      have HF : Hid (R = none) := by
        show _ = _
        rw [← HR.out, List.drop_of_length_le (by have := Hn.out; omega)]
        rfl
      go_wp2_with fail
      go_ret
      exact ⟨by rw [HF.out]; rfl, HB.out⟩

set_option maxHeartbeats 4000000 in
set_option maxRecDepth 100000 in
theorem find_any (x : Int) (a : Option Addr) (n c : Nat) (rs : List Rec) (hn : rs.length = n) (hn2 : n ≤ 400) (w : World) (h : TxIn w a rs) :
    Calls Tryd.prog 46 #[.slice a n c, .int .i64 x] w fun e w' => e = .returned (.tuple #[.int .i64 (((findR x rs 0).getD 0 : Nat) : Int), .bool (findR x rs 0).isSome]) ∧ Hid (Below w.heap.size w w') := by
  obtain ⟨W, hW, Hb, hs, Hx⟩ := cells_new w #[.int .i64 x] 3
  have HI := Lib.hid (index_any x w.heap.size a n c rs hn hn2 W (h.below Hb.out) Hx.out)
  clear h hn Hx hs
  cases hR : findR x rs 0 with
  | none =>
    rw [hR] at HI
    have HI2 : Hid (Calls Tryd.prog 54 #[.slice a n c, .func (.func 55) #[] #[.pointer (some ⟨w.heap.size, 0, none⟩)]] W fun e w' => e = .returned (.int .i64 (-1)) ∧ Hid (Below W.heap.size W w')) := HI.out
    clear hR HI
    go_enter Tryd.func46, Tryd.ntmps46
    go_wp2_with (first | (go_at_call 54; (with_reducible refine HI2.out.mono ?_); rintro e w8 ⟨rfl, h8⟩))
    go_ret2
    exact ⟨rfl, stepB Hb.out h8.out⟩
  | some j =>
    rw [hR] at HI
    have HI2 : Hid (Calls Tryd.prog 54 #[.slice a n c, .func (.func 55) #[] #[.pointer (some ⟨w.heap.size, 0, none⟩)]] W fun e w' => e = .returned (.int .i64 (j : Int)) ∧ Hid (Below W.heap.size W w')) := HI.out
    have hj0 : (0 : Int) ≤ j := by omega
    clear hR HI
    go_enter Tryd.func46, Tryd.ntmps46
    go_wp2_with (first | (go_at_call 54; (with_reducible refine HI2.out.mono ?_); rintro e w8 ⟨rfl, h8⟩))
    go_ret2
    exact ⟨rfl, stepB Hb.out h8.out⟩
end Go.Proofs.YtfjjhjojcgacbaaDoor

/- Drop. -/
namespace Go.Proofs.YtfjjhjojcgacbaaDoor
open Go.RowKit Go.Maps Go.WideMaps Go.WideElems Go.ChangeShapes Go.WideShapes
variable {T : TypeId} {er : Nat → Addr}

/-- A list of deeds that lies there, now and later. -/
def DeedIn (w : World) (a : Option Addr) (ds : List Deed) : Prop := ∀ k, k < ds.length → ∃ b o d, a = some ⟨b, o, none⟩ ∧ ds[k]? = some d ∧ ∀ V, Below w.heap.size w V → (V.cell? ⟨b, o + k * 8, none⟩ = some (.int .i64 d.obj) ∧ V.cell? ⟨b, o + k * 8 + 1, none⟩ = some (.int .i64 d.op) ∧ V.cell? ⟨b, o + k * 8 + 2, none⟩ = some (.int .i64 d.key) ∧ V.cell? ⟨b, o + k * 8 + 3, none⟩ = some (.int .i64 d.val) ∧ V.cell? ⟨b, o + k * 8 + 4, none⟩ = some (.int .i64 d.ret) ∧ V.cell? ⟨b, o + k * 8 + 5, none⟩ = some (.int .i64 d.got) ∧ V.cell? ⟨b, o + k * 8 + 6, none⟩ = some (.int .i64 d.pos) ∧ V.cell? ⟨b, o + k * 8 + 7, none⟩ = some (.int .i64 d.back))
theorem deeds_get : ∀ (ds : List Deed) (k : Nat) (d : Deed) (j : Nat), ds[k]? = some d → j < 8 → (deeds ds)[k * 8 + j]? = d.row[j]?
  | [], k, d, j, h, _ => by simp at h
  | x :: ds, 0, d, j, h, hj => by
    simp at h
    subst h
    show (x.row ++ deeds ds)[0 * 8 + j]? = _
    rw [Nat.zero_mul, Nat.zero_add, List.getElem?_append_left (by simpa [Deed.row] using hj)]
  | x :: ds, k + 1, d, j, h, hj => by
    have ih := deeds_get ds k d j (by simpa using h) hj
    show (x.row ++ deeds ds)[(k + 1) * 8 + j]? = _
    rw [List.getElem?_append_right (by simp [Deed.row]; omega), ← ih]
    congr 1
    simp [Deed.row]
    omega
theorem DeedIn.of {w : World} {a : Option Addr} {ds : List Deed} (hs : SlAt w a (deeds ds)) : DeedIn w a ds := by
  intro k hk
  have hd : ds[k]? = some ds[k] := List.getElem?_eq_getElem hk
  generalize ds[k] = d at hd
  have g := fun j hj => deeds_get ds k d j hd hj
  have g0 := g 0 (by decide)
  have g1 := g 1 (by decide)
  have g2 := g 2 (by decide)
  have g3 := g 3 (by decide)
  have g4 := g 4 (by decide)
  have g5 := g 5 (by decide)
  have g6 := g 6 (by decide)
  have g7 := g 7 (by decide)
  rcases hs with ⟨_, he⟩ | ⟨b, o, rfl, hl, hc⟩
  · rw [he] at g0
    simp [Deed.row] at g0
  · have hbl := hl (by intro e; rw [e] at g0; simp [Deed.row] at g0)
    have k1 : ∀ V, Below w.heap.size w V → ∀ j u, (deeds ds)[j]? = some u → V.cell? ⟨b, o + j, none⟩ = some u := fun V hV j u hj => (hV.cell (p := ⟨b, o + j, none⟩) hbl).trans (hc j u hj)
    refine ⟨b, o, d, rfl, hd, fun V hV => ?_⟩
    have q := k1 V hV
    have q0 := q _ _ g0
    have q1 := q _ _ g1
    have q2 := q _ _ g2
    have q3 := q _ _ g3
    have q4 := q _ _ g4
    have q5 := q _ _ g5
    have q6 := q _ _ g6
    have q7 := q _ _ g7
    rw [Nat.add_zero] at q0
    rw [← Nat.add_assoc] at q1 q2 q3 q4 q5 q6 q7
    exact ⟨q0, q1, q2, q3, q4, q5, q6, q7⟩
/-- Events without two places. -/
def skipZ (p q : Int) : List Ev → Nat → List Ev
  | [], _ => []
  | e :: es, i => if (i : Int) = p ∨ (i : Int) = q then skipZ p q es (i + 1) else e :: skipZ p q es (i + 1)
theorem skipZ_snoc (p q : Int) (x : Ev) : ∀ (es : List Ev) (i : Nat), skipZ p q (es ++ [x]) i = skipZ p q es i ++ (if ((i + es.length : Nat) : Int) = p ∨ ((i + es.length : Nat) : Int) = q then [] else [x])
  | [], i => by simp [skipZ]
  | e :: es, i => by
    have ih := skipZ_snoc p q x es (i + 1)
    rw [show i + 1 + es.length = i + (e :: es).length from by simp; omega] at ih
    show (if (i : Int) = p ∨ (i : Int) = q then skipZ p q (es ++ [x]) (i + 1) else e :: skipZ p q (es ++ [x]) (i + 1)) = (if (i : Int) = p ∨ (i : Int) = q then skipZ p q es (i + 1) else e :: skipZ p q es (i + 1)) ++ _
    rw [ih]
    split <;> rfl
theorem skipZ_len (p q : Int) : ∀ (es : List Ev) (i : Nat), (skipZ p q es i).length ≤ es.length
  | [], _ => by simp [skipZ]
  | e :: es, i => by
    have ih := skipZ_len p q es (i + 1)
    unfold skipZ
    split
    · simp; omega
    · simp; omega
theorem skipZ_next {p q : Int} {es : List Ev} {k : Nat} {x : Ev} (hx : es[k]? = some x) : skipZ p q (es.take (k + 1)) 0 = skipZ p q (es.take k) 0 ++ (if (k : Int) = p ∨ (k : Int) = q then [] else [x]) := by
  have hl : k < es.length := (List.getElem?_eq_some_iff.1 hx).1
  rw [List.take_add_one, hx, Option.toList_some, skipZ_snoc, List.length_take, Nat.min_eq_left (by omega), Nat.zero_add]
/-- What Drop answers. -/
inductive Drop3 where
  | shape
  | tx
  | index
  | out (l : List Ev)
def dropZ (os : List (Int × Int)) (es : List Ev) (tx k : Int) : Drop3 := match tabZ os es with
  | none => .shape
  | some s => match findR tx s.recs 0 with
    | none => .tx
    | some i => match (s.recs[i]?.map (·.ds)).getD [] with
      | ds => if k < 0 then .index else match ds[k.toNat]? with
        | none => .index
        | some d => .out (skipZ d.pos d.back es 0)
def ErrH (v : Value) (w : World) (e : Ending) (w' : World) : Prop := e = .returned (.tuple #[.agg #[.slice none 0 0, .slice none 0 0], v]) ∧ Hid (Below w.heap.size w w')
def HisE (n : Nat) (xs : List Value) (es : List Ev) (w : World) (e : Ending) (w' : World) : Prop := ∃ v1 v2, e = .returned (.tuple #[.agg #[v1, v2], .nilIface]) ∧ Hid (w'.ownsRow w.heap.size 31 2 v1 n xs ∧ w'.ownsRow w.heap.size 34 8 v2 es.length (evs es) ∧ Below w.heap.size w w')
def DropIs (T : TypeId) (er : Nat → Addr) (n : Nat) (xs : List Value) (r : Drop3) (w : World) (e : Ending) (w' : World) : Prop := match r with
  | .shape => ∃ t p, ErrH (.iface t (.pointer (some p))) w e w'
  | .tx => ErrH (.iface T (.pointer (some (er 0)))) w e w'
  | .index => ErrH (.iface T (.pointer (some (er 1)))) w e w'
  | .out l => HisE n xs l w e w'

set_option maxHeartbeats 8000000 in
set_option maxRecDepth 100000 in
theorem drop_shape (a b : Option Addr) (n c m d : Nat) (tx k : Int) (os : List (Int × Int)) (es : List Ev) (hn : os.length = n) (hm : es.length = m) (w : World) (ho : SlAt w a (obs os)) (he : EvsAt w b es m) (hG : Glob T er w) (hz : tabZ os es = none) :
    Calls Tryd.prog 25 #[hv a n c b m d, .int .i64 tx, .int .i64 k] w (DropIs T er n (obs os) .shape w) := by
  obtain ⟨W1, hW1, Hb1, hs1, Hx1⟩ := cells_new w #[.slice a n c, .slice b m d] 25
  obtain ⟨W, hW, Hb2, hs2, Hy⟩ := cells_new W1 #[.slice none 0 0, .slice none 0 0] 25
  have HB : Hid (Below w.heap.size w W) := stepB Hb1.out Hb2.out
  have HX : Hid (∀ V, Below W.heap.size W V → V.cell? ⟨w.heap.size, 0, none⟩ = some (.slice a n c) ∧ V.cell? ⟨w.heap.size, 1, none⟩ = some (.slice b m d)) := fun V hV => row_two (keepB hV (keepB Hb2.out Hx1.out))
  obtain ⟨x0, x1⟩ := HX.out W (Below.refl _ _)
  have HT := Lib.hid (tab_any (T := T) (er := er) a b n c m d os es hn hm W (ho.below HB.out) (he.below HB.out) (hG.below' HB.out))
  rw [hz] at HT
  have HG := Lib.hid (hG.below' HB.out)
  have Hw13 : Hid (13 ≤ W1.heap.size) := Nat.le_trans hG.size (Nat.le_of_lt hs1.out)
  have Hw1 : Hid (W1.heap.size < W.heap.size ∧ w.heap.size ≤ W1.heap.size) := ⟨hs2.out, Nat.le_of_lt hs1.out⟩
  clear ho he hG hn hm hz hs1 hs2
  go_enter Tryd.func25, Tryd.ntmps25
  go_wp2_with (first
    | (go_at_call 24; (with_reducible refine HT.out.mono ?_); rintro e w2 ⟨t9, p9, rfl, h2⟩
       obtain ⟨F1, F2, hF1, hF2, ⟨⟨f0, e0⟩, ⟨f1, e1⟩⟩, HF, HE2, HC2, HO⟩ := box_put2x (w := w) (.slice none 0 0) (.slice none 0 0) (keepB h2.out Hy.out) Hw1.out.2))
  refine bodyPost_ret (results_row_tmp rfl _ _ W1.heap.size 25 _ (0, 0) _ rfl HF.out Tryd.underlying25 rfl (by kernel_rfl)) rfl ?_
  exact ⟨_, _, rfl, (stepB HB.out h2.out).trans HE2.out⟩

set_option maxHeartbeats 8000000 in
set_option maxRecDepth 100000 in
theorem drop_tx (a b : Option Addr) (n c m d : Nat) (tx k : Int) (os : List (Int × Int)) (es : List Ev) (hn : os.length = n) (hm : es.length = m) (w : World) (ho : SlAt w a (obs os)) (he : EvsAt w b es m) (hG : Glob T er w) {s : St} (hz : tabZ os es = some s) (hf : findR tx s.recs 0 = none) :
    Calls Tryd.prog 25 #[hv a n c b m d, .int .i64 tx, .int .i64 k] w (DropIs T er n (obs os) .tx w) := by
  obtain ⟨W1, hW1, Hb1, hs1, Hx1⟩ := cells_new w #[.slice a n c, .slice b m d] 25
  obtain ⟨W, hW, Hb2, hs2, Hy⟩ := cells_new W1 #[.slice none 0 0, .slice none 0 0] 25
  have HB : Hid (Below w.heap.size w W) := stepB Hb1.out Hb2.out
  have HX : Hid (∀ V, Below W.heap.size W V → V.cell? ⟨w.heap.size, 0, none⟩ = some (.slice a n c) ∧ V.cell? ⟨w.heap.size, 1, none⟩ = some (.slice b m d)) := fun V hV => row_two (keepB hV (keepB Hb2.out Hx1.out))
  obtain ⟨x0, x1⟩ := HX.out W (Below.refl _ _)
  have HT := Lib.hid (tab_any (T := T) (er := er) a b n c m d os es hn hm W (ho.below HB.out) (he.below HB.out) (hG.below' HB.out))
  rw [hz] at HT
  have HG := Lib.hid (hG.below' HB.out)
  have Hw13 : Hid (13 ≤ W1.heap.size) := Nat.le_trans hG.size (Nat.le_of_lt hs1.out)
  have Hw1 : Hid (W1.heap.size < W.heap.size ∧ w.heap.size ≤ W1.heap.size) := ⟨hs2.out, Nat.le_of_lt hs1.out⟩
  have Hf := Lib.hid hf
  clear ho he hG hn hm hz hs1 hs2 hf
  go_enter Tryd.func25, Tryd.ntmps25
  go_wp2_with (first
    | (go_at_call 24; (with_reducible refine HT.out.mono ?_); rintro e w2 ⟨dvs, a3, c3, rfl, h2⟩
       have HI : Hid (TxIn w2 a3 s.recs) := h2.out.2.1.inn rfl
       have B2 : Hid (Below W.heap.size W w2) := h2.out.2.2
       have HL4 : Hid (s.recs.length ≤ 400) := by have := h2.out.1.few; have := h2.out.1.taken; show _ ≤ _; omega
       clear h2
       obtain ⟨n3, hn3⟩ : ∃ n3, s.recs.length = n3 := ⟨_, rfl⟩
       have Hn3 := Lib.hid hn3
       rw [hn3]
       clear hn3
       have HFi : Hid (Calls Tryd.prog 46 #[.slice a3 n3 c3, .int .i64 tx] w2 fun e w' => e = .returned (.tuple #[.int .i64 0, .bool false]) ∧ Hid (Below w2.heap.size w2 w')) := by
         have := find_any tx a3 n3 c3 s.recs Hn3.out (by have := HL4.out; rw [Hn3.out] at this; exact this) w2 HI.out
         rw [Hf.out] at this
         exact this)
    | (go_at_call 46; (with_reducible refine HFi.out.mono ?_); rintro e w3 ⟨rfl, h3⟩
       have B3 : Hid (Below W.heap.size W w3) := stepB B2.out h3.out
       have c0 := (HG.out.below' B3.out).eTx))
  have B4 : Hid (Below W.heap.size W w3.drew) := B3.out.drew
  obtain ⟨F1, F2, hF1, hF2, ⟨⟨f0, e0⟩, ⟨f1, e1⟩⟩, HF, HE2, HC2, HO⟩ := box_put2x (w := w) (.slice none 0 0) (.slice none 0 0) (keepB B4.out Hy.out) Hw1.out.2
  have HS0 : Hid (w3.drew.cell? ⟨0, 0, none⟩ = some (.iface T (.pointer (some (er 0))))) := (HG.out.below' B4.out).eTx
  have HSF : Hid (F2.cell? ⟨0, 0, none⟩ = some (.iface T (.pointer (some (er 0))))) := HC2.out _ _ _ (Nat.ne_of_lt (Nat.lt_of_lt_of_le (by decide) Hw13.out)) HS0.out
  clear c0
  go_region_held3 (fun w' => w'.cell? ⟨0, 0, none⟩ = some (.iface T (.pointer (some (er 0)))))
    (first | (with_reducible exact HS0.out) | (with_reducible exact HSF.out))
    (fail)
  all_goals
    go_wp2_with fail
    refine bodyPost_ret (results_row_tmp rfl _ _ W1.heap.size 25 _ (0, 0) _ rfl HF.out Tryd.underlying25 rfl (by kernel_rfl)) rfl ?_
    exact ⟨rfl, (stepB HB.out B4.out).trans HE2.out⟩

set_option maxHeartbeats 8000000 in
set_option maxRecDepth 100000 in
theorem drop_neg (a b : Option Addr) (n c m d : Nat) (tx k : Int) (os : List (Int × Int)) (es : List Ev) (hn : os.length = n) (hm : es.length = m) (w : World) (ho : SlAt w a (obs os)) (he : EvsAt w b es m) (hG : Glob T er w) {s : St} (hz : tabZ os es = some s) {i : Nat} (hf : findR tx s.recs 0 = some i) {r : Rec} (hr : s.recs[i]? = some r) (hk : k < 0) :
    Calls Tryd.prog 25 #[hv a n c b m d, .int .i64 tx, .int .i64 k] w (DropIs T er n (obs os) .index w) := by
  obtain ⟨W1, hW1, Hb1, hs1, Hx1⟩ := cells_new w #[.slice a n c, .slice b m d] 25
  obtain ⟨W, hW, Hb2, hs2, Hy⟩ := cells_new W1 #[.slice none 0 0, .slice none 0 0] 25
  have HB : Hid (Below w.heap.size w W) := stepB Hb1.out Hb2.out
  have HX : Hid (∀ V, Below W.heap.size W V → V.cell? ⟨w.heap.size, 0, none⟩ = some (.slice a n c) ∧ V.cell? ⟨w.heap.size, 1, none⟩ = some (.slice b m d)) := fun V hV => row_two (keepB hV (keepB Hb2.out Hx1.out))
  obtain ⟨x0, x1⟩ := HX.out W (Below.refl _ _)
  have HT := Lib.hid (tab_any (T := T) (er := er) a b n c m d os es hn hm W (ho.below HB.out) (he.below HB.out) (hG.below' HB.out))
  rw [hz] at HT
  have HG := Lib.hid (hG.below' HB.out)
  have Hw13 : Hid (13 ≤ W1.heap.size) := Nat.le_trans hG.size (Nat.le_of_lt hs1.out)
  have Hw1 : Hid (W1.heap.size < W.heap.size ∧ w.heap.size ≤ W1.heap.size) := ⟨hs2.out, Nat.le_of_lt hs1.out⟩
  have Hf := Lib.hid hf
  have Hr := Lib.hid hr
  have i0 : (0 : Int) ≤ i := by omega
  clear ho he hG hn hm hz hs1 hs2 hf hr
  go_enter Tryd.func25, Tryd.ntmps25
  go_wp2_with (first
    | (go_at_call 24; (with_reducible refine HT.out.mono ?_); rintro e w2 ⟨dvs, a3, c3, rfl, h2⟩
       have HI : Hid (TxIn w2 a3 s.recs) := h2.out.2.1.inn rfl
       have B2 : Hid (Below W.heap.size W w2) := h2.out.2.2
       have HL4 : Hid (s.recs.length ≤ 400) := by have := h2.out.1.few; have := h2.out.1.taken; show _ ≤ _; omega
       clear h2
       obtain ⟨n3, hn3⟩ : ∃ n3, s.recs.length = n3 := ⟨_, rfl⟩
       have Hn3 := Lib.hid hn3
       rw [hn3]
       clear hn3
       have HFi : Hid (Calls Tryd.prog 46 #[.slice a3 n3 c3, .int .i64 tx] w2 fun e w' => e = .returned (.tuple #[.int .i64 (i : Int), .bool true]) ∧ Hid (Below w2.heap.size w2 w')) := by
         have := find_any tx a3 n3 c3 s.recs Hn3.out (by have := HL4.out; rw [Hn3.out] at this; exact this) w2 HI.out
         rw [Hf.out] at this
         exact this)
    | (go_at_call 46; (with_reducible refine HFi.out.mono ?_); rintro e w3 ⟨rfl, h3⟩
       have B3 : Hid (Below W.heap.size W w3) := stepB B2.out h3.out
       have c0 := (HG.out.below' B3.out).eIndex))
  have B4 : Hid (Below W.heap.size W w3.drew) := B3.out.drew
  obtain ⟨F1, F2, hF1, hF2, ⟨⟨f0, e0⟩, ⟨f1, e1⟩⟩, HF, HE2, HC2, HO⟩ := box_put2x (w := w) (.slice none 0 0) (.slice none 0 0) (keepB B4.out Hy.out) Hw1.out.2
  have HS0 : Hid (w3.drew.cell? ⟨1, 0, none⟩ = some (.iface T (.pointer (some (er 1))))) := (HG.out.below' B4.out).eIndex
  have HSF : Hid (F2.cell? ⟨1, 0, none⟩ = some (.iface T (.pointer (some (er 1))))) := HC2.out _ _ _ (Nat.ne_of_lt (Nat.lt_of_lt_of_le (by decide) Hw13.out)) HS0.out
  clear c0
  go_region_held3 (fun w' => w'.cell? ⟨1, 0, none⟩ = some (.iface T (.pointer (some (er 1)))))
    (first | (with_reducible exact HS0.out) | (with_reducible exact HSF.out))
    (fail)
  all_goals
    go_wp2_with fail
    refine bodyPost_ret (results_row_tmp rfl _ _ W1.heap.size 25 _ (0, 0) _ rfl HF.out Tryd.underlying25 rfl (by kernel_rfl)) rfl ?_
    exact ⟨rfl, (stepB HB.out B4.out).trans HE2.out⟩

set_option maxHeartbeats 8000000 in
set_option maxRecDepth 100000 in
theorem drop_far (a b : Option Addr) (n c m d : Nat) (tx k : Int) (os : List (Int × Int)) (es : List Ev) (hn : os.length = n) (hm : es.length = m) (w : World) (ho : SlAt w a (obs os)) (he : EvsAt w b es m) (hG : Glob T er w) {s : St} (hz : tabZ os es = some s) {i : Nat} (hf : findR tx s.recs 0 = some i) {r : Rec} (hr : s.recs[i]? = some r) (hk0 : 0 ≤ k) (hk : (r.ds.length : Int) ≤ k) :
    Calls Tryd.prog 25 #[hv a n c b m d, .int .i64 tx, .int .i64 k] w (DropIs T er n (obs os) .index w) := by
  obtain ⟨W1, hW1, Hb1, hs1, Hx1⟩ := cells_new w #[.slice a n c, .slice b m d] 25
  obtain ⟨W, hW, Hb2, hs2, Hy⟩ := cells_new W1 #[.slice none 0 0, .slice none 0 0] 25
  have HB : Hid (Below w.heap.size w W) := stepB Hb1.out Hb2.out
  have HX : Hid (∀ V, Below W.heap.size W V → V.cell? ⟨w.heap.size, 0, none⟩ = some (.slice a n c) ∧ V.cell? ⟨w.heap.size, 1, none⟩ = some (.slice b m d)) := fun V hV => row_two (keepB hV (keepB Hb2.out Hx1.out))
  obtain ⟨x0, x1⟩ := HX.out W (Below.refl _ _)
  have HT := Lib.hid (tab_any (T := T) (er := er) a b n c m d os es hn hm W (ho.below HB.out) (he.below HB.out) (hG.below' HB.out))
  rw [hz] at HT
  have HG := Lib.hid (hG.below' HB.out)
  have Hw13 : Hid (13 ≤ W1.heap.size) := Nat.le_trans hG.size (Nat.le_of_lt hs1.out)
  have Hw1 : Hid (W1.heap.size < W.heap.size ∧ w.heap.size ≤ W1.heap.size) := ⟨hs2.out, Nat.le_of_lt hs1.out⟩
  have Hf := Lib.hid hf
  have Hr := Lib.hid hr
  have i0 : (0 : Int) ≤ i := by omega
  obtain ⟨ln, hln⟩ : ∃ ln, r.ds.length = ln := ⟨_, rfl⟩
  rw [hln] at hk
  have Hlen := Lib.hid hln
  have hk1 : ¬ k < 0 := by omega
  clear hln
  clear ho he hG hn hm hz hs1 hs2 hf hr
  go_enter Tryd.func25, Tryd.ntmps25
  go_wp2_with (first
    | (go_at_call 24; (with_reducible refine HT.out.mono ?_); rintro e w2 ⟨dvs, a3, c3, rfl, h2⟩
       have HI : Hid (TxIn w2 a3 s.recs) := h2.out.2.1.inn rfl
       have B2 : Hid (Below W.heap.size W w2) := h2.out.2.2
       have HL4 : Hid (s.recs.length ≤ 400) := by have := h2.out.1.few; have := h2.out.1.taken; show _ ≤ _; omega
       clear h2
       obtain ⟨n3, hn3⟩ : ∃ n3, s.recs.length = n3 := ⟨_, rfl⟩
       have Hn3 := Lib.hid hn3
       rw [hn3]
       clear hn3
       have HFi : Hid (Calls Tryd.prog 46 #[.slice a3 n3 c3, .int .i64 tx] w2 fun e w' => e = .returned (.tuple #[.int .i64 (i : Int), .bool true]) ∧ Hid (Below w2.heap.size w2 w')) := by
         have := find_any tx a3 n3 c3 s.recs Hn3.out (by have := HL4.out; rw [Hn3.out] at this; exact this) w2 HI.out
         rw [Hf.out] at this
         exact this)
    | (go_at_call 46; (with_reducible refine HFi.out.mono ?_); rintro e w3 ⟨rfl, h3⟩
       have B3 : Hid (Below W.heap.size W w3) := stepB B2.out h3.out
       have c0 := (HG.out.below' B3.out).eIndex
       have hil : i < s.recs.length := (List.getElem?_eq_some_iff.1 Hr.out).1
       obtain ⟨b4, o4, r', a4, d4, rfl, hr', hsl4, hc4⟩ := HI.out i hil
       rw [Hr.out] at hr'
       injection hr' with hr'
       subst hr'
       rw [Hn3.out] at hil
       have hiI : (i : Int) < (n3 : Int) := by omega
       obtain ⟨u0, u1, u2, u3, u4, u5, u6⟩ := hc4 w3 h3.out
       rw [Hlen.out] at u6
       clear hc4
       clear hsl4))
  have B4 : Hid (Below W.heap.size W w3.drew) := B3.out.drew
  obtain ⟨F1, F2, hF1, hF2, ⟨⟨f0, e0⟩, ⟨f1, e1⟩⟩, HF, HE2, HC2, HO⟩ := box_put2x (w := w) (.slice none 0 0) (.slice none 0 0) (keepB B4.out Hy.out) Hw1.out.2
  have HS0 : Hid (w3.drew.cell? ⟨1, 0, none⟩ = some (.iface T (.pointer (some (er 1))))) := (HG.out.below' B4.out).eIndex
  have HSF : Hid (F2.cell? ⟨1, 0, none⟩ = some (.iface T (.pointer (some (er 1))))) := HC2.out _ _ _ (Nat.ne_of_lt (Nat.lt_of_lt_of_le (by decide) Hw13.out)) HS0.out
  clear c0
  go_region_held3 (fun w' => w'.cell? ⟨1, 0, none⟩ = some (.iface T (.pointer (some (er 1)))))
    (first | (with_reducible exact HS0.out) | (with_reducible exact HSF.out))
    (fail)
  all_goals
    go_wp2_with fail
    refine bodyPost_ret (results_row_tmp rfl _ _ W1.heap.size 25 _ (0, 0) _ rfl HF.out Tryd.underlying25 rfl (by kernel_rfl)) rfl ?_
    exact ⟨rfl, (stepB HB.out B4.out).trans HE2.out⟩

set_option maxHeartbeats 8000000 in
set_option maxRecDepth 100000 in
theorem drop_out (a b : Option Addr) (n c m d : Nat) (tx : Int) (k : Nat) (os : List (Int × Int)) (es : List Ev) (hn : os.length = n) (hm : es.length = m) (w : World) (ho : SlAt w a (obs os)) (he : EvsAt w b es m) (hG : Glob T er w) {s : St} (hz : tabZ os es = some s) (h64 : n ≤ 64 ∧ m ≤ 400) {i : Nat} (hf : findR tx s.recs 0 = some i) {r : Rec} (hr : s.recs[i]? = some r) {dd : Deed} (hd : r.ds[k]? = some dd) :
    Calls Tryd.prog 25 #[hv a n c b m d, .int .i64 tx, .int .i64 (k : Int)] w (DropIs T er n (obs os) (.out (skipZ dd.pos dd.back es 0)) w) := by
  obtain ⟨i0', hi', hz0, hz1, hz2⟩ := info_parts elem34
  obtain ⟨W1, hW1, Hb1, hs1, Hx1⟩ := cells_new w #[.slice a n c, .slice b m d] 25
  obtain ⟨W, hW, Hb2, hs2, Hy⟩ := cells_new W1 #[.slice none 0 0, .slice none 0 0] 25
  have HB : Hid (Below w.heap.size w W) := stepB Hb1.out Hb2.out
  have HX : Hid (∀ V, Below W.heap.size W V → V.cell? ⟨w.heap.size, 0, none⟩ = some (.slice a n c) ∧ V.cell? ⟨w.heap.size, 1, none⟩ = some (.slice b m d)) := fun V hV => row_two (keepB hV (keepB Hb2.out Hx1.out))
  obtain ⟨x0, x1⟩ := HX.out W (Below.refl _ _)
  have HT := Lib.hid (tab_any (T := T) (er := er) a b n c m d os es hn hm W (ho.below HB.out) (he.below HB.out) (hG.below' HB.out))
  rw [hz] at HT
  have HG := Lib.hid (hG.below' HB.out)
  have Hw13 : Hid (13 ≤ W1.heap.size) := Nat.le_trans hG.size (Nat.le_of_lt hs1.out)
  have Hw1 : Hid (W1.heap.size < W.heap.size ∧ w.heap.size ≤ W1.heap.size) := ⟨hs2.out, Nat.le_of_lt hs1.out⟩
  have Hf := Lib.hid hf
  have Hr := Lib.hid hr
  have i0 : (0 : Int) ≤ i := by omega
  have k0 : (0 : Int) ≤ k := by omega
  have k1 : ¬ (k : Int) < 0 := by omega
  obtain ⟨ln, hln⟩ : ∃ ln, r.ds.length = ln := ⟨_, rfl⟩
  have hkl : k < ln := by rw [← hln]; exact (List.getElem?_eq_some_iff.1 hd).1
  have k2 : (k : Int) < (ln : Int) := by omega
  have k3 : ¬ (ln : Int) ≤ (k : Int) := by omega
  have Hlen := Lib.hid hln
  have Hd := Lib.hid hd
  have hm4 : (m : Int) ≤ 400 := by omega
  have Hm := Lib.hid hm
  have Hos : Hid ((obs os).length = n * 2) := by show _ = _; rw [obs_len, hn]
  have HCl := Lib.hid (fun V hV => clone_obs a n c (obs os) Hos.out (obs_one os) (by omega) V ((ho.below HB.out).below hV))
  have Hev := Lib.hid (he.below HB.out)
  have H64 := Lib.hid h64
  generalize obs os = xs at *
  clear ho he hG hn hm hz hs1 hs2 hf hr hln hkl hd h64
  go_enter Tryd.func25, Tryd.ntmps25
  go_wp2_with (first
    | (go_at_call 24; (with_reducible refine HT.out.mono ?_); rintro e w2 ⟨dvs, a3, c3, rfl, h2⟩
       have HI : Hid (TxIn w2 a3 s.recs) := h2.out.2.1.inn rfl
       have B2 : Hid (Below W.heap.size W w2) := h2.out.2.2
       have HL4 : Hid (s.recs.length ≤ 400) := by have := h2.out.1.few; have := h2.out.1.taken; show _ ≤ _; omega
       clear h2
       obtain ⟨n3, hn3⟩ : ∃ n3, s.recs.length = n3 := ⟨_, rfl⟩
       have Hn3 := Lib.hid hn3
       rw [hn3]
       clear hn3
       have HFi : Hid (Calls Tryd.prog 46 #[.slice a3 n3 c3, .int .i64 tx] w2 fun e w' => e = .returned (.tuple #[.int .i64 (i : Int), .bool true]) ∧ Hid (Below w2.heap.size w2 w')) := by
         have := find_any tx a3 n3 c3 s.recs Hn3.out (by have := HL4.out; rw [Hn3.out] at this; exact this) w2 HI.out
         rw [Hf.out] at this
         exact this)
    | (go_at_call 46; (with_reducible refine HFi.out.mono ?_); rintro e w3 ⟨rfl, h3⟩
       have B3 : Hid (Below W.heap.size W w3) := stepB B2.out h3.out
       have hil : i < s.recs.length := (List.getElem?_eq_some_iff.1 Hr.out).1
       obtain ⟨b4, o4, r', a4, d4, rfl, hr', hsl4, hc4⟩ := HI.out i hil
       rw [Hr.out] at hr'
       injection hr' with hr'
       subst hr'
       rw [Hn3.out] at hil
       have hiI : (i : Int) < (n3 : Int) := by omega
       obtain ⟨u0, u1, u2, u3, u4, u5, u6⟩ := hc4 w3 h3.out
       rw [Hlen.out] at u6
       clear hc4
       obtain ⟨b5, o5, d', rfl, hd', hc5⟩ := DeedIn.of (hsl4.below h3.out) k (by rw [Hlen.out]; omega)
       rw [Hd.out] at hd'
       injection hd' with hd'
       subst hd'
       obtain ⟨v0, v1', v2', v3, v4, v5, v6, v7⟩ := hc5 w3 (Below.refl _ _)
       obtain ⟨W5, hW5, Hb5, hs5, Hz5⟩ := cells_new w3 #[.int .i64 dd.obj, .int .i64 dd.op, .int .i64 dd.key, .int .i64 dd.val, .int .i64 dd.ret, .int .i64 dd.got, .int .i64 dd.pos, .int .i64 dd.back] 75
       have B5 : Hid (Below W.heap.size W W5) := stepB B3.out Hb5.out
       obtain ⟨y0, y1⟩ := HX.out W5 B5.out
       clear hc5 hsl4 HFi)
    | (go_at_call 39; (with_reducible refine (HCl.out _ B5.out).mono ?_); rintro e w6 ⟨v1, rfl, K6⟩; obtain ⟨a1, c1, rfl, -, -⟩ := row_sl K6.out.1
       obtain ⟨W7, hW7, Hb7, hs7, Hq⟩ := cells_new w6 #[.slice none 0 0, .slice none 0 0] 25
       obtain ⟨G1, G2, hG1, hG2, ⟨⟨g0, l0⟩, ⟨g1, l1⟩⟩, HGx, HLx, HCg, HOg⟩ := box_put2x (w := w6) (.slice a1 n c1) (.slice none 0 0) Hq.out (Nat.le_refl _)
       have B7 : Hid (Below W5.heap.size W5 G2) := stepB K6.out.2 (Hb7.out.trans HLx.out)
       obtain ⟨p0, p1⟩ := HX.out G2 (stepB B5.out B7.out)))
  have HD : Hid (OnAt W5 w6.heap.size (.slice a1 n c1) n xs (.slice none 0 0) (skipZ dd.pos dd.back (es.take 0) 0) G2) := ⟨B7.out, K6.out.2.size, HGx.out, row_kept K6.out.1 (Hb7.out.trans HLx.out), by simpa [evs, skipZ] using World.ownsRow_nil _ _ _ _⟩
  have HQd : Hid (W5.heap[w3.heap.size]? = some (.cells #[.int .i64 dd.obj, .int .i64 dd.op, .int .i64 dd.key, .int .i64 dd.val, .int .i64 dd.ret, .int .i64 dd.got, .int .i64 dd.pos, .int .i64 dd.back] 75)) := Hz5.out
  have HP6 : Hid (W5.heap[W1.heap.size]? = some (.cells #[.slice none 0 0, .slice none 0 0] 25)) := keepB B5.out Hy.out
  obtain ⟨Q, hQ⟩ : ∃ Q, w6.heap.size = Q := ⟨_, rfl⟩
  obtain ⟨q5, hq5⟩ : ∃ q, w3.heap.size = q := ⟨_, rfl⟩
  rw [hq5] at HQd ⊢
  rw [hQ] at HD ⊢
  clear hQ hq5 hW7 Hb7 hs7 Hq hG1 hG2 g0 l0 g1 l1 HGx HLx HCg HOg y0 y1 x0 x1 K6 HCl p0 p1 u0 u1 u2 u3 u4 u5 u6 v0 v1' v2' v3 v4 v5 v6 v7 Hz5 hs5 hW5 Hb5
  go_wp2_with fail
  go_loopw [64] (fun i wr => ∃ k v, k ≤ m ∧ i = .int .i64 ((k : Nat) : Int) ∧ Hid (OnAt W5 Q (.slice a1 n c1) n xs v (skipZ dd.pos dd.back (es.take k) 0) wr)) (fun i _ => m - (intOf i).toNat)
  case atStart => exact ⟨0, _, Nat.zero_le _, rfl, HD.out⟩
  case round =>
    clear HD
    obtain ⟨k, v, hk, rfl, HD⟩ := hrel
    obtain ⟨z0, z1⟩ := row_two HD.out.box
    obtain ⟨-, -, -, -, -, -, d6, d7⟩ := row_eight (keepB HD.out.below HQd.out)
    by_cases hlt : k < m
    · obtain ⟨b8, o8, x, rfl, hx, hc⟩ := (Hev.out.below B5.out) k hlt
      obtain ⟨u0, u1, u2, u3, u4, u5, u6, u7⟩ := hc wr HD.out.below
      have hlt2 : (k : Int) < (m : Int) := by omega
      obtain ⟨W8, hW8, Hb8, hs8, Hr8⟩ := cells_new wr #[.int .i64 x.kind, .int .i64 x.tx, .int .i64 x.thread, .int .i64 x.obj, .int .i64 x.op, .int .i64 x.key, .int .i64 x.val, .int .i64 x.ret] 34
      obtain ⟨r0, r1, r2, r3, r4, r5, r6, r7⟩ := row_eight Hr8.out
      have HD8 : Hid (OnAt W5 Q (.slice a1 n c1) n xs v (skipZ dd.pos dd.back (es.take k) 0) W8) := HD.out.next Hb8.out
      obtain ⟨s0, s1⟩ := row_two HD8.out.box
      obtain ⟨-, -, -, -, -, -, e6, e7⟩ := row_eight (keepB HD8.out.below HQd.out)
      have Hf2 := Lib.hid (skipZ_next (p := dd.pos) (q := dd.back) hx)
      have hlen : Hid ((skipZ dd.pos dd.back (es.take k) 0).length ≤ 400) := by
        have h1 := skipZ_len dd.pos dd.back (es.take k) 0
        have h2 := List.length_take_le k es
        show _ ≤ _
        have := H64.out
        omega
      generalize skipZ dd.pos dd.back (es.take k) 0 = fs at HD HD8 Hf2 hlen
      clear hc hx
      by_cases hp : (k : Int) = dd.pos
      · have HE : Hid (skipZ dd.pos dd.back (es.take (k + 1)) 0 = fs) := by show _ = _; rw [Hf2.out, if_pos (.inl hp)]; simp
        have hp1 : ((k : Int) == dd.pos) = true := beq_yes hp
        have hp2 : ((k : Int) != dd.pos) = false := by simp [hp]
        have Hp := Lib.hid hp
        clear hp Hf2
        go_wp2_with fail
        go_roundw
        case rel => exact ⟨k + 1, v, by omega, by go_num, by show OnAt _ _ _ _ _ _ _ _; rw [HE.out]; exact HD8.out⟩
        case measure => simp [intOf]; omega
      · by_cases hq : (k : Int) = dd.back
        · have HE : Hid (skipZ dd.pos dd.back (es.take (k + 1)) 0 = fs) := by show _ = _; rw [Hf2.out, if_pos (.inr hq)]; simp
          have hp1 : ((k : Int) == dd.pos) = false := beq_no hp
          have hp2 : ((k : Int) != dd.pos) = true := by simp [hp]
          have hq1 : ((k : Int) == dd.back) = true := beq_yes hq
          have hq2 : ((k : Int) != dd.back) = false := by simp [hq]
          clear hp hq Hf2
          go_wp2_with fail
          go_roundw
          case rel => exact ⟨k + 1, v, by omega, by go_num, by show OnAt _ _ _ _ _ _ _ _; rw [HE.out]; exact HD8.out⟩
          case measure => simp [intOf]; omega
        · have HE : Hid (skipZ dd.pos dd.back (es.take (k + 1)) 0 = fs ++ [x]) := by show _ = _; rw [Hf2.out, if_neg (by rintro (h | h) <;> contradiction)]
          have hp1 : ((k : Int) == dd.pos) = false := beq_no hp
          have hp2 : ((k : Int) != dd.pos) = true := by simp [hp]
          have hq1 : ((k : Int) == dd.back) = false := beq_no hq
          have hq2 : ((k : Int) != dd.back) = true := by simp [hq]
          clear hp hq Hf2
          go_wp2_with (first
            | (at_builtin; refine wpList_append_own _ rfl _ _ 23 rfl W5.heap.size 34 i0' Ev.zero.agg 8 64 Tryd.underlying23 hi' hz0 hz1 hz2 rfl (by decide) v _ _ rfl (HD8.out.row.alloc _) ⟨W8.heap.size, 0, none⟩ 1 1 [.int .i64 x.kind, .int .i64 x.tx, .int .i64 x.thread, .int .i64 x.obj, .int .i64 x.op, .int .i64 x.key, .int .i64 x.val, .int .i64 x.ret] rfl rfl (eight_news _ _ _ _ _ _ _ _ _ _) (by intro u hu; simp only [List.mem_cons, List.not_mem_nil, or_false] at hu; rcases hu with rfl | rfl | rfl | rfl | rfl | rfl | rfl | rfl <;> rfl) (by unfold maxLen; have := hlen.out; omega) (by have := hlen.out; omega) (by show _ ≤ _; simp; exact Nat.le_trans HD8.out.below.size (Nat.le_succ _)) ?_))
          intro v' w9 hown9 hgrow9 hnil9
          obtain ⟨a9, c9, rfl, -, -⟩ := row_sl hown9
          obtain ⟨U1, hU1, ⟨m0, m1⟩, HU⟩ := (HD8.out.next ((Below.refl _ _).alloc (Nat.le_refl _) (.cells #[.int .i64 x.kind, .int .i64 x.tx, .int .i64 x.thread, .int .i64 x.obj, .int .i64 x.op, .int .i64 x.key, .int .i64 x.val, .int .i64 x.ret] 34))).put (e := x) hgrow9 hown9
          clear hown9 hgrow9 hnil9
          go_wp2_with fail
          go_roundw
          case rel => exact ⟨k + 1, _, by omega, by go_num, by show OnAt _ _ _ _ _ _ _ _; rw [HE.out]; exact HU.out⟩
          case measure => simp [intOf]; omega
    · have hkm : k = m := by omega
      have HE : Hid (skipZ dd.pos dd.back (es.take k) 0 = skipZ dd.pos dd.back es 0) := by show _ = _; rw [hkm, List.take_of_length_le (by have := Hm.out; omega)]
      rw [HE.out] at HD
      obtain ⟨a2, c2, rfl, -, -⟩ := row_sl HD.out.row
      have hlw : W1.heap.size < W5.heap.size := Nat.lt_of_lt_of_le Hw1.out.1 B5.out.size
      have Hlw := Lib.hid hlw
      obtain ⟨F1, F2, hF1, hF2, ⟨⟨f0, e0⟩, ⟨f1, e1⟩⟩, HF, HE2, HC2, HO⟩ := box_put2x (w := w) (.slice a1 n c1) (.slice a2 (skipZ dd.pos dd.back es 0).length c2) (keepB HD.out.below HP6.out) Hw1.out.2
      clear HE hlw
      go_wp2_with fail
      refine bodyPost_ret (results_row_tmp rfl _ _ W1.heap.size 25 _ (0, 0) _ rfl HF.out Tryd.underlying25 rfl (by kernel_rfl)) rfl ?_
      have B9 : Below w.heap.size w wr := stepB HB.out (stepB B5.out HD.out.below)
      have hl5 : w.heap.size ≤ W5.heap.size := Nat.le_trans Hw1.out.2 (Nat.le_of_lt Hlw.out)
      refine ⟨_, _, rfl, ?_, ?_, B9.trans HE2.out⟩
      · exact row_base (HO.out _ _ _ _ _ _ Hlw.out HD.out.row1) hl5
      · exact row_base (HO.out _ _ _ _ _ _ Hlw.out HD.out.row) hl5

theorem drop_any (a b : Option Addr) (n c m d : Nat) (tx k : Int) (os : List (Int × Int)) (es : List Ev) (hn : os.length = n) (hm : es.length = m) (w : World) (ho : SlAt w a (obs os)) (he : EvsAt w b es m) (hG : Glob T er w) (h64 : n ≤ 64 ∧ m ≤ 400) :
    Calls Tryd.prog 25 #[hv a n c b m d, .int .i64 tx, .int .i64 k] w (DropIs T er n (obs os) (dropZ os es tx k) w) := by
  cases hz : tabZ os es with
  | none =>
    have : dropZ os es tx k = .shape := by unfold dropZ; rw [hz]
    rw [this]
    exact drop_shape a b n c m d tx k os es hn hm w ho he hG hz
  | some s =>
    cases hf : findR tx s.recs 0 with
    | none =>
      have : dropZ os es tx k = .tx := by unfold dropZ; rw [hz]; simp only []; rw [hf]
      rw [this]
      exact drop_tx a b n c m d tx k os es hn hm w ho he hG hz hf
    | some i =>
      obtain ⟨j, r, hj, hr, hid⟩ := findR_some _ _ _ _ hf
      rw [Nat.zero_add] at hj
      subst hj
      have hd : dropZ os es tx k = if k < 0 then .index else match r.ds[k.toNat]? with | none => .index | some d => .out (skipZ d.pos d.back es 0) := by
        unfold dropZ; rw [hz]; simp only []; rw [hf]; simp only []; rw [hr]; rfl
      rw [hd]
      by_cases hk : k < 0
      · rw [if_pos hk]
        exact drop_neg a b n c m d tx k os es hn hm w ho he hG hz hf hr hk
      · rw [if_neg hk]
        cases hdd : r.ds[k.toNat]? with
        | none =>
          have : r.ds.length ≤ k.toNat := List.getElem?_eq_none_iff.1 hdd
          exact drop_far a b n c m d tx k os es hn hm w ho he hG hz hf hr (by omega) (by omega)
        | some dd =>
          have := drop_out (T := T) (er := er) a b n c m d tx k.toNat os es hn hm w ho he hG hz h64 hf hr hdd
          rw [show ((k.toNat : Nat) : Int) = k from by omega] at this
          exact this
end Go.Proofs.YtfjjhjojcgacbaaDoor

/- Spare. -/
namespace Go.Proofs.YtfjjhjojcgacbaaDoor
open Go.RowKit Go.Maps Go.WideMaps Go.WideElems Go.ChangeShapes Go.WideShapes
variable {T : TypeId} {er : Nat → Addr}

/-- One more event: how many objects are named. -/
def namedS (N : Nat) (e : Ev) : Nat := if e.kind = 2 then max N (e.obj.toNat + 1) else N
def namedZ (es : List Ev) : Nat := es.foldl namedS 0
/-- What Spare answers. -/
def SpareIs (os : List (Int × Int)) (es : List Ev) (r : Option St) (w : World) (e : Ending) (w' : World) : Prop := match r with
  | none => ∃ t p, ErrH (.iface t (.pointer (some p))) w e w'
  | some _ => HisE (namedZ es) (obs (os.take (namedZ es))) es w e w'
theorem hisOk_obj {os : List (Int × Int)} {es : List Ev} (h : hisOk os es = true) : ∀ e ∈ es, e.kind = 2 → 0 ≤ e.obj ∧ e.obj < os.length := by
  intro e he hk
  unfold hisOk at h
  simp only [Bool.and_eq_true, decide_eq_true_eq] at h
  have h1 := List.all_eq_true.1 h.2.2.2 e he
  unfold evOk at h1
  rw [hk] at h1
  simp at h1
  exact ⟨(valid_call h1.1 hk).1, h1.2.1⟩
theorem hisOk_len {os : List (Int × Int)} {es : List Ev} (h : hisOk os es = true) : os.length ≤ 8 ∧ es.length ≤ 400 := by
  unfold hisOk at h
  simp only [Bool.and_eq_true, decide_eq_true_eq] at h
  exact ⟨h.1, h.2.1⟩
theorem tabZ_his {os : List (Int × Int)} {es : List Ev} {s : St} (h : tabZ os es = some s) : hisOk os es = true := by
  unfold tabZ at h
  split at h
  · assumption
  · cases h
theorem named_le {n : Nat} : ∀ (es : List Ev) (N : Nat), N ≤ n → (∀ e ∈ es, e.kind = 2 → 0 ≤ e.obj ∧ e.obj < n) → es.foldl namedS N ≤ n
  | [], N, h, _ => h
  | e :: es, N, h, h2 => by
    rw [List.foldl_cons]
    refine named_le es _ ?_ (fun x hx => h2 x (List.mem_cons_of_mem _ hx))
    unfold namedS
    split
    · rename_i hk
      have := h2 e (List.mem_cons_self) hk
      omega
    · exact h
theorem obs_take : ∀ (os : List (Int × Int)) (k : Nat), (obs os).take (k * 2) = obs (os.take k)
  | [], k => by simp [obs]
  | o :: os, 0 => by simp [obs]
  | o :: os, k + 1 => by
    have ih := obs_take os k
    have e : obs (o :: os) = .int .i64 o.1 :: .int .i64 o.2 :: obs os := rfl
    have e2 : obs (o :: os.take k) = .int .i64 o.1 :: .int .i64 o.2 :: obs (os.take k) := rfl
    rw [e, show (k + 1) * 2 = k * 2 + 1 + 1 from by omega, List.take_succ_cons, List.take_succ_cons, List.take_succ_cons, ih, e2]

set_option maxHeartbeats 8000000 in
set_option maxRecDepth 100000 in
theorem spare_no (a b : Option Addr) (n c m d : Nat) (os : List (Int × Int)) (es : List Ev) (hn : os.length = n) (hm : es.length = m) (w : World) (ho : SlAt w a (obs os)) (he : SlAt w b (evs es)) (hG : Glob T er w) (hz : tabZ os es = none) :
    Calls Tryd.prog 27 #[hv a n c b m d] w (SpareIs os es none w) := by
  obtain ⟨W1, hW1, Hb1, hs1, Hx1⟩ := cells_new w #[.slice a n c, .slice b m d] 25
  obtain ⟨W, hW, Hb2, hs2, Hy⟩ := cells_new W1 #[.slice none 0 0, .slice none 0 0] 25
  have HB : Hid (Below w.heap.size w W) := stepB Hb1.out Hb2.out
  have HX : Hid (∀ V, Below W.heap.size W V → V.cell? ⟨w.heap.size, 0, none⟩ = some (.slice a n c) ∧ V.cell? ⟨w.heap.size, 1, none⟩ = some (.slice b m d)) := fun V hV => row_two (keepB hV (keepB Hb2.out Hx1.out))
  obtain ⟨x0, x1⟩ := HX.out W (Below.refl _ _)
  have HT := Lib.hid (check_any (T := T) (er := er) a b n c m d os es hn hm W (ho.below HB.out) (EvsAt.of (he.below HB.out) hm) (hG.below' HB.out))
  rw [hz] at HT
  have Hw1 : Hid (W1.heap.size < W.heap.size ∧ w.heap.size ≤ W1.heap.size) := ⟨hs2.out, Nat.le_of_lt hs1.out⟩
  clear ho he hG hn hm hz hs1 hs2
  go_enter Tryd.func27, Tryd.ntmps27
  go_wp2_with (first
    | (go_at_call 28; (with_reducible refine HT.out.mono ?_); rintro e w2 ⟨he, h2⟩
       obtain ⟨t9, p9, rfl⟩ : ∃ t p, e = .returned (.iface t (.pointer (some p))) := he
       obtain ⟨F1, F2, hF1, hF2, ⟨⟨f0, e0⟩, ⟨f1, e1⟩⟩, HF, HE2, HC2, HO⟩ := box_put2x (w := w) (.slice none 0 0) (.slice none 0 0) (keepB h2.out Hy.out) Hw1.out.2))
  refine bodyPost_ret (results_row_tmp rfl _ _ W1.heap.size 25 _ (0, 0) _ rfl HF.out Tryd.underlying25 rfl (by kernel_rfl)) rfl ?_
  exact ⟨_, _, rfl, (stepB HB.out h2.out).trans HE2.out⟩

set_option maxHeartbeats 8000000 in
set_option maxRecDepth 100000 in
theorem spare_ok (a b : Option Addr) (n c m d : Nat) (os : List (Int × Int)) (es : List Ev) (hn : os.length = n) (hm : es.length = m) (w : World) (ho : SlAt w a (obs os)) (he : SlAt w b (evs es)) (hG : Glob T er w) (hnc : n ≤ c) {s : St} (hz : tabZ os es = some s) :
    Calls Tryd.prog 27 #[hv a n c b m d] w (SpareIs os es (some s) w) := by
  obtain ⟨W1, hW1, Hb1, hs1, Hx1⟩ := cells_new w #[.slice a n c, .slice b m d] 25
  obtain ⟨W, hW, Hb2, hs2, Hy⟩ := cells_new W1 #[.slice none 0 0, .slice none 0 0] 25
  have HB : Hid (Below w.heap.size w W) := stepB Hb1.out Hb2.out
  have HX : Hid (∀ V, Below W.heap.size W V → V.cell? ⟨w.heap.size, 0, none⟩ = some (.slice a n c) ∧ V.cell? ⟨w.heap.size, 1, none⟩ = some (.slice b m d)) := fun V hV => row_two (keepB hV (keepB Hb2.out Hx1.out))
  obtain ⟨x0, x1⟩ := HX.out W (Below.refl _ _)
  have HT := Lib.hid (check_any (T := T) (er := er) a b n c m d os es hn hm W (ho.below HB.out) (EvsAt.of (he.below HB.out) hm) (hG.below' HB.out))
  rw [hz] at HT
  have Hw1 : Hid (W1.heap.size < W.heap.size ∧ w.heap.size ≤ W1.heap.size) := ⟨hs2.out, Nat.le_of_lt hs1.out⟩
  have hh := tabZ_his hz
  have Hob := Lib.hid (hisOk_obj hh)
  have hlen := hisOk_len hh
  rw [hn, hm] at hlen
  have hNn : namedZ es ≤ n := named_le es 0 (Nat.zero_le _) (by rw [← hn]; exact Hob.out)
  have Hnk : Hid (∀ k, ((es.take k).foldl namedS 0) ≤ n) := fun k => named_le _ 0 (Nat.zero_le _) (fun e he => by rw [← hn]; exact Hob.out e (List.mem_of_mem_take he))
  have Hev := Lib.hid (EvsAt.of (he.below HB.out) hm)
  have Hm := Lib.hid hm
  obtain ⟨N, hN⟩ : ∃ N, namedZ es = N := ⟨_, rfl⟩
  have HN := Lib.hid hN
  rw [hN] at hNn
  have hxs : ((obs os).take (N * 2)).length = N * 2 := by rw [List.length_take, obs_len, hn]; omega
  have h1 : ∀ u ∈ (obs os).take (N * 2), u.oneCell' = true := fun u hu => obs_one os u (List.mem_of_mem_take hu)
  have H1 := Lib.hid (fun V (hV : Below W.heap.size W V) => clone_his a b N c m d ((obs os).take (N * 2)) (evs es) hxs (by rw [evs_len, hm]) h1 (evs_one es) (by omega) V (((ho.take (N * 2)).below HB.out).below hV) ((he.below HB.out).below hV))
  have Hr : Hid ((obs os).take (N * 2) = obs (os.take N)) := obs_take os N
  have Hme : Hid ((evs es).length = m * 8) := by show _ = _; rw [evs_len, hm]
  have hm4 : (m : Int) ≤ 400 := by omega
  have i0 : (0 : Int) ≤ (N : Int) := by omega
  have i1 : (N : Int) ≤ (c : Int) := by omega
  have i2 : (N : Int) ≤ (n : Int) := by omega
  have i3 : N ≤ c := by omega
  have H8 : Hid (n ≤ 8) := hlen.1
  have hs1x := Lib.hid hs1.out
  clear ho he hG hm hz hs1 hs2 hh hN hxs h1 hNn hlen hnc
  go_enter Tryd.func27, Tryd.ntmps27
  go_wp2_with (first
    | (go_at_call 28; (with_reducible refine HT.out.mono ?_); rintro e w2 ⟨he, h2⟩
       obtain rfl : e = .returned .nilIface := he
       have B2 := Lib.hid h2.out
       clear h2 x0 x1
       obtain ⟨y0, y1⟩ := HX.out w2 B2.out))
  clear y0 y1
  go_loopw [5, 17] (fun nm i wr => ∃ k : Nat, k ≤ m ∧ i = .int .i64 ((k : Nat) : Int) ∧ (∃ q : Nat, nm = .int .i64 ((q : Nat) : Int) ∧ Hid ((es.take k).foldl namedS 0 = q)) ∧ Hid (Below W.heap.size W wr)) (fun _ i _ => m - (intOf i).toNat)
  case atStart => exact ⟨0, Nat.zero_le _, rfl, ⟨0, rfl, rfl⟩, B2.out⟩
  case round =>
    obtain ⟨k, hk, rfl, ⟨q, rfl, HQ⟩, HBr⟩ := hrel
    by_cases hlt : k < m
    · obtain ⟨b8, o8, x, rfl, hx, hc⟩ := Hev.out k hlt
      obtain ⟨u0, u1, u2, u3, u4, u5, u6, u7⟩ := hc wr HBr.out
      have hlt2 : (k : Int) < (m : Int) := by omega
      obtain ⟨W8, hW8, Hb8, hs8, Hr8⟩ := cells_new wr #[.int .i64 x.kind, .int .i64 x.tx, .int .i64 x.thread, .int .i64 x.obj, .int .i64 x.op, .int .i64 x.key, .int .i64 x.val, .int .i64 x.ret] 34
      obtain ⟨r0, r1, r2, r3, r4, r5, r6, r7⟩ := row_eight Hr8.out
      have hst : (es.take (k + 1)).foldl namedS 0 = namedS q x := by rw [take_step namedS 0 hx, HQ.out]
      have hob := Hob.out x (List.mem_of_getElem? hx)
      have hq8 : q ≤ 8 := by rw [← HQ.out]; exact Nat.le_trans (Hnk.out k) H8.out
      have B8 : Hid (Below W.heap.size W W8) := stepB HBr.out Hb8.out
      by_cases hkd : x.kind = 2
      · obtain ⟨h0, h1⟩ := hob hkd
        obtain ⟨j, hj⟩ : ∃ j : Nat, x.obj = (j : Int) := ⟨x.obj.toNat, by omega⟩
        have hst2 : namedS q x = max q (j + 1) := by unfold namedS; rw [if_pos hkd, hj]; simp
        rw [hst2] at hst
        rw [hn] at h1
        rw [hj] at r3 u3 hW8
        have hk1 : (x.kind == 2) = true := beq_yes hkd
        have hj8 : (j : Int) ≤ 8 := by have := H8.out; omega
        have hj0 : (0 : Int) ≤ j := by omega
        have hq0 : (0 : Int) ≤ q := by omega
        have hq8' : (q : Int) ≤ 8 := by omega
        have hkd' := Lib.hid hkd
        clear hc hx hob h0 h1 hst2 hkd
        by_cases hqj : q < j + 1
        · have HS : Hid ((es.take (k + 1)).foldl namedS 0 = j + 1) := by show _ = _; rw [hst]; omega
          have g1 : (q : Int) < (j : Int) + 1 := by omega
          have g2 : ¬ ((j : Int) + 1 < (q : Int)) := by omega
          have g3 : ¬ ((j : Int) + 1 ≤ (q : Int)) := by omega
          have g4 : (q : Int) ≤ (j : Int) := by omega
          clear hst hj hqj
          go_wp2_with fail
          go_roundw
          case rel => exact ⟨k + 1, by omega, by go_num, ⟨j + 1, by go_num, HS.out⟩, B8.out⟩
          case measure => simp [intOf]; omega
        · have HS : Hid ((es.take (k + 1)).foldl namedS 0 = q) := by show _ = _; rw [hst]; omega
          have g1 : ¬ ((q : Int) < (j : Int) + 1) := by omega
          have g2 : ¬ ((q : Int) ≤ (j : Int)) := by omega
          have g3 : ((j : Int) + 1 ≤ (q : Int)) := by omega
          have g4 : (j : Int) < (q : Int) := by omega
          clear hst hj hqj
          go_wp2_with fail
          go_roundw
          case rel => exact ⟨k + 1, by omega, by go_num, ⟨q, by go_num, HS.out⟩, B8.out⟩
          case measure => simp [intOf]; omega
      · have hk1 : (x.kind == 2) = false := beq_no hkd
        have HS : Hid ((es.take (k + 1)).foldl namedS 0 = q) := by show _ = _; rw [hst]; unfold namedS; rw [if_neg hkd]
        clear hc hx hob hkd hst
        go_wp2_with fail
        go_roundw
        case rel => exact ⟨k + 1, by omega, by go_num, ⟨q, by go_num, HS.out⟩, B8.out⟩
        case measure => simp [intOf]; omega
    · have hkm : k = m := by omega
      have hqN : q = N := by rw [← HQ.out, hkm, List.take_of_length_le (by have := Hm.out; omega), ← HN.out]; rfl
      subst hqN
      have BD : Hid (Below W.heap.size W wr.drew) := HBr.out.drew
      have HS0 := HX.out wr HBr.out
      clear hkm
      go_wp2_with fail
      go_region_held3 (fun w' => w'.cell? ⟨w.heap.size, 0, none⟩ = some (.slice a n c) ∧ w'.cell? ⟨w.heap.size, 1, none⟩ = some (.slice b m d))
        (first | (with_reducible exact HS0) | (with_reducible exact HX.out _ BD.out) | (with_reducible exact HX.out _ (stepB BD.out K2.out.2.2)) | (with_reducible exact HXF.out))
        (first
          | (go_at_call 37; (with_reducible refine (H1.out _ BD.out).mono ?_); rintro e w2 ⟨v1, v2, rfl, K2⟩; obtain ⟨a1, c1, rfl, -, -⟩ := row_sl K2.out.1; obtain ⟨a2, c2, rfl, -, -⟩ := row_sl K2.out.2.1
             have B3 : Hid (Below W.heap.size W w2) := stepB BD.out K2.out.2.2
             obtain ⟨F1, F2, hF1, hF2, ⟨⟨f0, e0⟩, ⟨f1, e1⟩⟩, HF, HE, HC, HO⟩ := box_put2x (w := w) (.slice a1 q c1) (.slice a2 m c2) (keepB B3.out Hy.out) Hw1.out.2
             have HXF : Hid (F2.cell? ⟨w.heap.size, 0, none⟩ = some (.slice a n c) ∧ F2.cell? ⟨w.heap.size, 1, none⟩ = some (.slice b m d)) := ⟨HC.out _ _ _ (Nat.ne_of_lt (hs1x.out)) (HX.out _ B3.out).1, HC.out _ _ _ (Nat.ne_of_lt (hs1x.out)) (HX.out _ B3.out).2⟩))
      all_goals
        go_wp2_with fail
        refine bodyPost_ret (results_row_tmp rfl _ _ W1.heap.size 25 _ (0, 0) _ rfl HF.out Tryd.underlying25 rfl (by kernel_rfl)) rfl ?_
        show HisE _ _ _ _ _ _
        rw [HN.out, ← Hr.out]
        refine ⟨_, _, rfl, ?_, ?_, (stepB HB.out B3.out).trans HE.out⟩
        · exact row_base (HO.out _ _ _ _ _ _ (Nat.lt_of_lt_of_le Hw1.out.1 BD.out.size) K2.out.1) (Nat.le_trans HB.out.size BD.out.size)
        · rw [Hm.out]
          exact row_base (HO.out _ _ _ _ _ _ (Nat.lt_of_lt_of_le Hw1.out.1 BD.out.size) K2.out.2.1) (Nat.le_trans HB.out.size BD.out.size)

theorem spare_any (a b : Option Addr) (n c m d : Nat) (os : List (Int × Int)) (es : List Ev) (hn : os.length = n) (hm : es.length = m) (w : World) (ho : SlAt w a (obs os)) (he : SlAt w b (evs es)) (hG : Glob T er w) (hnc : n ≤ c) :
    Calls Tryd.prog 27 #[hv a n c b m d] w (SpareIs os es (tabZ os es) w) := by
  cases hz : tabZ os es with
  | none => exact spare_no a b n c m d os es hn hm w ho he hG hz
  | some s => exact spare_ok a b n c m d os es hn hm w ho he hG hnc hz
end Go.Proofs.YtfjjhjojcgacbaaDoor

/- The chapter's example (first). -/
namespace Go.Proofs.YtfjjhjojcgacbaaDoor
open Go.RowKit Go.Maps Go.WideMaps Go.WideElems Go.ChangeShapes Go.WideShapes
variable {T : TypeId} {er : Nat → Addr}

theorem info_some {P : Program} {t : TypeId} {b : Bool} (h : (P.info? t).map (fun i => i.comparable) = some b) : ∃ i, P.info? t = some i ∧ i.comparable = b := by
  cases hi : P.info? t with
  | none => rw [hi] at h; cases h
  | some i => rw [hi] at h; exact ⟨i, rfl, Option.some.inj h⟩
theorem eql_err (a : Addr) (w : World) : (Go.binOp .eql 48 (.iface 126 (.pointer (some a))) (.iface 126 (.pointer (some a)))).run Tryd.prog w = .ok (.bool true) w := by
  obtain ⟨i, hi, hc⟩ := info_some (P := Tryd.prog) (t := 126) (b := true) (by kernel_rfl)
  obtain ⟨j, hj, _⟩ := info_some (P := Tryd.prog) (t := 143) (b := true) (by kernel_rfl)
  simp only [Go.binOp]
  simp [Op.equal, Op.maxDepth, run_equalIn_iface_ptr_same w 9998 (te := 143) a Tryd.underlying48 Tryd.underlying126 hi hc hj]
abbrev ex1 : List (Int × Int) := [(1, 0), (3, 0)]
abbrev ex2 : List Ev := [⟨1, 1, 0, 0, 0, 0, 0, 0⟩, ⟨1, 2, 1, 0, 0, 0, 0, 0⟩, ⟨2, 1, 0, 0, 2, 0, 0, 0⟩, ⟨3, 1, 0, 0, 0, 0, 0, 1⟩]
theorem ex_drop1 : dropZ ex1 ex2 1 0 = .out [⟨1, 1, 0, 0, 0, 0, 0, 0⟩, ⟨1, 2, 1, 0, 0, 0, 0, 0⟩] := by kernel_rfl
theorem ex_drop3 : dropZ ex1 ex2 3 0 = .tx := by kernel_rfl
theorem ex_tab : ∃ s, tabZ ex1 ex2 = some s := ⟨⟨[⟨1, 0, 1, 0, -1, -1, [⟨0, 2, 0, 0, 1, 0, 2, 3⟩], 1⟩, ⟨2, 1, 1, 1, -1, -1, [], 1⟩], [some 0, some 1, none, none, none, none, none, none], 4⟩, by kernel_rfl⟩
theorem sl_at {W : World} {q : Nat} {cs : Array Value} {t : TypeId} (h : W.heap[q]? = some (.cells cs t)) : SlAt W (some ⟨q, 0, none⟩) cs.toList :=
  .inr ⟨q, 0, rfl, fun _ => (Array.getElem?_eq_some_iff.1 h).1, fun j u hj => by
    rw [Nat.zero_add, cell_of_row _ q j cs t _ h]
    simpa using hj⟩
/-- A history that is answered, of so many objects and events. -/
def HisV (n m : Nat) (os : List (Int × Int)) (es : List Ev) (V w' : World) (v1 v2 : Value) : Prop := w'.ownsRow V.heap.size 31 2 v1 n (obs os) ∧ w'.ownsRow V.heap.size 34 8 v2 m (evs es) ∧ Below V.heap.size V w'
section
variable (a b : Option Addr) (V : World) (ho : SlAt V a (obs ex1)) (he : SlAt V b (evs ex2)) (hG : Glob T er V)
include ho he
theorem ex_p : Calls Tryd.prog 13 #[hv a 2 2 b 4 4, .int .i64 2] V fun e w' => ∃ v1 v2, e = .returned (.agg #[v1, v2]) ∧ Hid (HisV 2 2 ex1 (ex2.take 2) V w' v1 v2) :=
  prefix_any a b 2 2 4 4 2 (obs ex1) (evs ex2) rfl rfl (obs_one _) (evs_one _) (by decide) (by decide) V ho he
theorem ex_w : Calls Tryd.prog 15 #[hv a 2 2 b 4 4, .int .i64 1] V fun e w' => ∃ v1 v2, e = .returned (.agg #[v1, v2]) ∧ Hid (HisV 2 1 ex1 (ex2.filter fun e => !(e.tx == 1)) V w' v1 v2) :=
  without_any a b 2 2 4 4 1 (obs ex1) ex2 rfl rfl (obs_one _) (by decide) V ho (EvsAt.of he rfl)
include hG
theorem ex_d1 : Calls Tryd.prog 25 #[hv a 2 2 b 4 4, .int .i64 1, .int .i64 0] V fun e w' => ∃ v1 v2, e = .returned (.tuple #[.agg #[v1, v2], .nilIface]) ∧ Hid (HisV 2 2 ex1 [⟨1, 1, 0, 0, 0, 0, 0, 0⟩, ⟨1, 2, 1, 0, 0, 0, 0, 0⟩] V w' v1 v2) := by
  have h := drop_any (T := T) (er := er) a b 2 2 4 4 1 0 ex1 ex2 rfl rfl V ho (EvsAt.of he rfl) hG (by decide)
  rw [ex_drop1] at h
  exact h
theorem ex_d3 : Calls Tryd.prog 25 #[hv a 2 2 b 4 4, .int .i64 3, .int .i64 0] V (ErrH (.iface T (.pointer (some (er 0)))) V) := by
  have h := drop_any (T := T) (er := er) a b 2 2 4 4 3 0 ex1 ex2 rfl rfl V ho (EvsAt.of he rfl) hG (by decide)
  rw [ex_drop3] at h
  exact h
theorem ex_s : Calls Tryd.prog 27 #[hv a 2 2 b 4 4] V fun e w' => ∃ v1 v2, e = .returned (.tuple #[.agg #[v1, v2], .nilIface]) ∧ Hid (HisV 1 4 [(1, 0)] ex2 V w' v1 v2) := by
  have h := spare_any (T := T) (er := er) a b 2 2 4 4 ex1 ex2 rfl rfl V ho he hG (by decide)
  obtain ⟨s, hs⟩ := ex_tab
  rw [hs] at h
  exact h
end
section
variable (a a' b b' : Option Addr) (c1 c2 : Nat) (V : World) (ho : SlAt V a (obs ex1)) (he : SlAt V b (evs ex2)) (ho' : SlAt V a' (obs ex1)) (he' : SlAt V b' (evs (ex2.take 2)))
include ho he ho' he'
theorem ex_sub1 (h2 : 2 ≤ c2) : Calls Tryd.prog 21 #[hv a' 2 c1 b' 2 c2, hv a 2 2 b 4 4] V fun e w' => e = .returned (.bool true) ∧ Hid (Below V.heap.size V w') :=
  sub_any a' a b' b c1 2 c2 4 2 2 2 4 ex1 ex1 (ex2.take 2) ex2 rfl rfl rfl rfl h2 (by decide) V (ObAt.of ho' rfl) (ObAt.of ho rfl) (EvsAt.of he' rfl) (EvsAt.of he rfl)
theorem ex_sub2 : Calls Tryd.prog 21 #[hv a 2 2 b 4 4, hv a' 2 c1 b' 2 c2] V fun e w' => e = .returned (.bool false) ∧ Hid (Below V.heap.size V w') :=
  sub_any a a' b b' 2 c1 4 c2 2 2 4 2 ex1 ex1 ex2 (ex2.take 2) rfl rfl rfl rfl (by decide) (by decide) V (ObAt.of ho rfl) (ObAt.of ho' rfl) (EvsAt.of he rfl) (EvsAt.of he' rfl)
end

set_option maxHeartbeats 8000000 in
set_option maxRecDepth 100000 in
theorem first_any (w : World) (hG : Glob 126 er w) : Calls Tryd.prog 8 #[] w fun e w' => e = .returned (.bool true) ∧ Hid (Below w.heap.size w w') := by
  obtain ⟨W1, hW1, Hb1, hs1, Hx1⟩ := cells_new w (#[.int .i64 1, .int .i64 0, .int .i64 3, .int .i64 0] : Array Value) 31
  obtain ⟨W2, hW2, Hb2, hs2, Hx2⟩ := cells_new W1 (#[.int .i64 1, .int .i64 1, .int .i64 0, .int .i64 0, .int .i64 0, .int .i64 0, .int .i64 0, .int .i64 0, .int .i64 1, .int .i64 2, .int .i64 1, .int .i64 0, .int .i64 0, .int .i64 0, .int .i64 0, .int .i64 0, .int .i64 2, .int .i64 1, .int .i64 0, .int .i64 0, .int .i64 2, .int .i64 0, .int .i64 0, .int .i64 0, .int .i64 3, .int .i64 1, .int .i64 0, .int .i64 0, .int .i64 0, .int .i64 0, .int .i64 0, .int .i64 1] : Array Value) 34
  obtain ⟨W3, hW3, Hb3, hs3, Hx3⟩ := cells_new W2 #[.slice (some ⟨w.heap.size, 0, none⟩) 2 2, .slice (some ⟨W1.heap.size, 0, none⟩) 4 4] 25
  have HB : Hid (Below w.heap.size w W3) := stepB (stepB Hb1.out Hb2.out) Hb3.out
  have HG := Lib.hid (hG.below' HB.out)
  have Ho : Hid (SlAt W3 (some ⟨w.heap.size, 0, none⟩) (obs ex1)) := sl_at (keepB Hb3.out (keepB Hb2.out Hx1.out))
  have He : Hid (SlAt W3 (some ⟨W1.heap.size, 0, none⟩) (evs ex2)) := sl_at (keepB Hb3.out Hx2.out)
  have HX : Hid (∀ V, Below W3.heap.size W3 V → V.cell? ⟨W2.heap.size, 0, none⟩ = some (.slice (some ⟨w.heap.size, 0, none⟩) 2 2) ∧ V.cell? ⟨W2.heap.size, 1, none⟩ = some (.slice (some ⟨W1.heap.size, 0, none⟩) 4 4)) := fun V hV => row_two (keepB hV Hx3.out)
  obtain ⟨x0, x1⟩ := HX.out W3 (Below.refl _ _)
  have HE := Lib.hid eql_err
  clear hG Hb1 Hb2 Hb3 hs1 hs2 hs3 Hx1 Hx2 Hx3
  go_enter Tryd.func8, Tryd.ntmps8
  go_wp2_with (first
    | (go_at_call 13; (with_reducible refine (ex_p _ _ W3 Ho.out He.out).mono ?_); rintro e w4 ⟨v1, v2, rfl, K4⟩
       obtain ⟨a1, c1, rfl, -, -⟩ := row_sl K4.out.1
       obtain ⟨a2, c2, rfl, -, hc2⟩ := row_sl K4.out.2.1
       have Hc2 := Lib.hid hc2
       clear hc2 x0 x1
       obtain ⟨W5, hW5, Hb5, hs5, Hp⟩ := cells_new w4 #[.slice a1 2 c1, .slice a2 2 c2] 25
       have B5 : Hid (Below W3.heap.size W3 W5) := stepB K4.out.2.2 Hb5.out
       obtain ⟨x0, x1⟩ := HX.out W5 B5.out)
    | (go_at_call 15; (with_reducible refine (ex_w _ _ W5 (Ho.out.below B5.out) (He.out.below B5.out)).mono ?_); rintro e w6 ⟨v1, v2, rfl, K6⟩
       obtain ⟨a3, c3, rfl, -, -⟩ := row_sl K6.out.1
       obtain ⟨a4, c4, rfl, -, -⟩ := row_sl K6.out.2.1
       clear x0 x1
       obtain ⟨W7, hW7, Hb7, hs7, Hw7⟩ := cells_new w6 #[.slice a3 2 c3, .slice a4 1 c4] 25
       have C7 : Hid (Below W5.heap.size W5 W7) := stepB K6.out.2.2 Hb7.out
       have B7 : Hid (Below W3.heap.size W3 W7) := stepB B5.out C7.out
       obtain ⟨x0, x1⟩ := HX.out W7 B7.out)
    | (go_at_call 25; (with_reducible refine (ex_d1 _ _ W7 (Ho.out.below B7.out) (He.out.below B7.out) (HG.out.below' B7.out)).mono ?_); rintro e w8 ⟨v1, v2, rfl, K8⟩
       obtain ⟨a5, c5, rfl, -, -⟩ := row_sl K8.out.1
       obtain ⟨a6, c6, rfl, -, -⟩ := row_sl K8.out.2.1
       clear x0 x1
       obtain ⟨W9, hW9, Hb9, hs9, Hw9⟩ := cells_new w8 #[.slice a5 2 c5, .slice a6 2 c6] 25
       have C9 : Hid (Below W7.heap.size W7 W9) := stepB K8.out.2.2 Hb9.out
       have B9 : Hid (Below W3.heap.size W3 W9) := stepB B7.out C9.out
       obtain ⟨x0, x1⟩ := HX.out W9 B9.out)
    | (go_at_call 25; (with_reducible refine (ex_d3 _ _ W9 (Ho.out.below B9.out) (He.out.below B9.out) (HG.out.below' B9.out)).mono ?_); rintro e w10 ⟨rfl, K10⟩
       clear x0 x1
       obtain ⟨W11, hW11, Hb11, hs11, Hw11⟩ := cells_new w10 #[.slice none 0 0, .slice none 0 0] 25
       have C11 : Hid (Below W9.heap.size W9 W11) := stepB K10.out Hb11.out
       have B11 : Hid (Below W3.heap.size W3 W11) := stepB B9.out C11.out
       obtain ⟨G1, G2, hG1, hG2, ⟨⟨g0, l0⟩, ⟨g1, l1⟩⟩, HGx, HLx, HCg, HOg⟩ := box_put2x (w := w10) (.slice none 0 0) (.slice none 0 0) Hw11.out (Nat.le_refl _)
       have D11 : Hid (Below W9.heap.size W9 G2) := stepB K10.out (Hb11.out.trans HLx.out)
       have E11 : Hid (Below W3.heap.size W3 G2) := stepB B9.out D11.out
       obtain ⟨x0, x1⟩ := HX.out G2 E11.out)
    | (go_at_call 27; (with_reducible refine (ex_s _ _ G2 (Ho.out.below E11.out) (He.out.below E11.out) (HG.out.below' E11.out)).mono ?_); rintro e w12 ⟨v1, v2, rfl, K12⟩
       obtain ⟨a7, c7, rfl, -, -⟩ := row_sl K12.out.1
       obtain ⟨a8, c8, rfl, -, -⟩ := row_sl K12.out.2.1
       clear x0 x1
       obtain ⟨W13, hW13, Hb13, hs13, Hw13⟩ := cells_new w12 #[.slice a7 1 c7, .slice a8 4 c8] 25
       have C13 : Hid (Below G2.heap.size G2 W13) := stepB K12.out.2.2 Hb13.out
       have B13 : Hid (Below W3.heap.size W3 W13) := stepB E11.out C13.out
       have P13 : Hid (Below W5.heap.size W5 W13) := stepB (stepB (stepB C7.out C9.out) D11.out) C13.out
       obtain ⟨x0, x1⟩ := HX.out W13 B13.out
       obtain ⟨p0, p1⟩ := row_two (keepB P13.out Hp.out)
       obtain ⟨q0, q1⟩ := row_two (keepB (stepB (stepB C9.out D11.out) C13.out) Hw7.out)
       obtain ⟨r0, r1⟩ := row_two (keepB (stepB D11.out C13.out) Hw9.out)
       obtain ⟨s0, s1⟩ := row_two Hw13.out
       have e0 := (HG.out.below' B13.out).eTx
       have he := HE.out (er 0) W13
       have HS1 := Lib.hid (ex_sub1 _ a1 _ a2 c1 c2 W13 (Ho.out.below B13.out) (He.out.below B13.out) ((row_sl0 K4.out.1).1.below (stepB Hb5.out P13.out)) ((row_sl0 K4.out.2.1).1.below (stepB Hb5.out P13.out)) Hc2.out))
    | (go_at_call 21; (with_reducible refine HS1.out.mono ?_); rintro e w14 ⟨rfl, K14⟩
       have B14 : Hid (Below W3.heap.size W3 w14) := stepB B13.out K14.out
       have P14 : Hid (Below W5.heap.size W5 w14) := stepB P13.out K14.out
       obtain ⟨x0', x1'⟩ := HX.out w14 B14.out
       obtain ⟨p0', p1'⟩ := row_two (keepB P14.out Hp.out)
       have HS2 := Lib.hid (ex_sub2 _ a1 _ a2 c1 c2 w14 (Ho.out.below B14.out) (He.out.below B14.out) ((row_sl0 K4.out.1).1.below (stepB Hb5.out P14.out)) ((row_sl0 K4.out.2.1).1.below (stepB Hb5.out P14.out))))
    | (go_at_call 21; (with_reducible refine HS2.out.mono ?_); rintro e w15 ⟨rfl, K15⟩))
  go_ret
  exact ⟨rfl, stepB HB.out (stepB B14.out K15.out)⟩
end Go.Proofs.YtfjjhjojcgacbaaDoor
