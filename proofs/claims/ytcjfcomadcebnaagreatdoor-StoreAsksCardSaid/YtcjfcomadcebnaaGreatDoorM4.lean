/- Helpers, joined: Ky, Rf, Ls, Lt, Hv, Nw, Do, Ea, Dp, Eb, Jo. -/
import Derived.Test.YtcjfcomadcebnaaGreatDoorM1
import Derived.Test.YtcjfcomadcebnaaGreatDoorM3
import Derived.Deep.AppendLies
import Derived.Deep.RegionHeld3
import Derived.Laws.ResultCell
import Derived.RangeFuncNested
import Derived.RangeFuncBound
import Derived.RangeFuncCalls
import Derived.RangeFuncLeaves
import Derived.RangeFuncFrom
import Derived.RangeFuncBox
import Derived.OwnWalkIn
import Derived.TacticsInMore
import Derived.LoopNIn
import Derived.LoopIn
import Derived.Shelf.Strings.OnBuilder

/- Facts on blocks, carried on; copies of lists of numbers that are not nil. -/
namespace Go.Proofs.YtcjfcomadcebnaaGreatDoor
open Go.RowKit Go.Maps Go.WideMaps Go.WideElems Go.ChangeShapes Go.WideShapes
variable {T : TypeId} {er : Nat → Addr}

theorem newA {V : World} {k : Nat} (o : Obj) (h : k = V.heap.size) : (V.alloc o).heap[k]? = some o := by subst h; exact World.alloc_heap_new V o
theorem keepA {V : World} {k : Nat} {x : Obj} (o : Obj) (h : V.heap[k]? = some x) : (V.alloc o).heap[k]? = some x := (Below.heap_alloc _ _ _ (Array.getElem?_eq_some_iff.1 h).1).trans h
theorem keepB {V W : World} {k : Nat} {x : Obj} (hb : Below V.heap.size V W) (h : V.heap[k]? = some x) : W.heap[k]? = some x := (hb.block k (Array.getElem?_eq_some_iff.1 h).1).trans h
theorem keepD {V : World} {k : Nat} {x : Obj} (h : V.heap[k]? = some x) : V.drew.heap[k]? = some x := h
theorem keepS {V : World} {k r o : Nat} {x : Obj} {v : Value} (hne : r ≠ k) (h : V.heap[k]? = some x) : (V.setCell ⟨r, o, none⟩ v).heap[k]? = some x := (Below.heap_setCell V ⟨r, o, none⟩ v k (fun e => hne e.symm)).trans h
theorem keepG {V W : World} {k : Nat} {x : Obj} {o : Option Nat} (hg : V.grownBy W o) (hne : o ≠ some k) (h : V.heap[k]? = some x) : W.heap[k]? = some x := (hg.block k (Array.getElem?_eq_some_iff.1 h).1 (fun e => hne e.symm)).trans h
theorem stepA {W V : World} (h : Below W.heap.size W V) (o : Obj) : Below W.heap.size W (V.alloc o) := h.alloc h.size o
theorem stepB {W V U : World} (h : Below W.heap.size W V) (k : Below V.heap.size V U) : Below W.heap.size W U := h.trans (k.mono h.size)
theorem ne_of_type {W : World} {a b : Nat} {c c' : Array Value} {t t' : TypeId} (h1 : W.heap[a]? = some (.cells c t)) (h2 : W.heap[b]? = some (.cells c' t')) (ht : t ≠ t') : a ≠ b := by
  rintro rfl
  rw [h1] at h2
  cases h2
  exact ht rfl
theorem one_row {W : World} {q : Nat} {u : Value} {t : TypeId} (h : W.heap[q]? = some (.cells #[u] t)) : ∀ j v, [u][j]? = some v → W.cell? ((⟨q, 0, none⟩ : Addr).add j) = some v := World.news_of_block h
theorem row_kept {W W' : World} {B : Nat} {e : TypeId} {size n : Nat} {v : Value} {xs : List Value} (h : W.ownsRow B e size v n xs) (hb : Below W.heap.size W W') : W'.ownsRow B e size v n xs :=
  ⟨h.1, h.2.imp id fun ⟨g, cap, cur, e, hB, hg, r⟩ => ⟨g, cap, cur, e, hB, (hb.block g (Array.getElem?_eq_some_iff.1 hg).1).trans hg, r⟩⟩
/-- A row's cells, at its address. -/
theorem row_news {W : World} {B e size n g c : Nat} {xs : List Value} (h : W.ownsRow B e size (.slice (some ⟨g, 0, none⟩) n c) n xs) : ∀ j u, xs[j]? = some u → W.cell? ((⟨g, 0, none⟩ : Addr).add j) = some u := by
  obtain ⟨hl, ⟨e1, _⟩ | ⟨g', cap, cur, e1, hb, hg, hn, hm, hs, ht⟩⟩ := h
  · cases e1
  · cases e1
    intro j u hj
    refine World.news_of_block hg j u ?_
    rw [← ht, List.getElem?_take] at hj
    split at hj
    · simpa using hj
    · cases hj
/-- A row's block. -/
theorem row_heap {W : World} {B e size n g c : Nat} {xs : List Value} (h : W.ownsRow B e size (.slice (some ⟨g, 0, none⟩) n c) n xs) : B ≤ g ∧ ∃ cur, W.heap[g]? = some (.cells cur e) := by
  obtain ⟨hl, ⟨e1, _⟩ | ⟨g', cap, cur, e1, hb, hg, hn, hm, hs, ht⟩⟩ := h
  · cases e1
  · cases e1; exact ⟨hb, cur, hg⟩
/-- An append of however many as one step of a region. -/
theorem step_append_own {P : Program} {ops : Array Oper} {o : Oper} {a : Act} {w : World} {K : Act → World → Prop} {Q : Exit → Act → World → Prop} {E : Prop} (hgd : o.guard = none) (s x : Operand) (t : TypeId)
    (ho : o.op = .call { callee := .builtin .append, args := #[s, x], argTypes := #[t, t] })
    (base : Nat) (e : TypeId) (i : TypeInfo) (z : Value) (size bytes : Nat) (ht : P.underlying t = some (.slice e)) (hi : P.info? e = some i) (hz : i.zero = some z)
    (hsize : i.size = size) (hby : i.bytes = bytes) (hzs : z.cells.size = size) (hsz : 0 < size)
    (v : Value) (n : Nat) (xs : List Value) (hs : a.eval s = v) (hown : w.ownsRow base e size v n xs)
    (ad : Addr) (m c : Nat) (news : List Value) (hx : a.eval x = .slice (some ad) m c) (hl : news.length = m * size) (hnews : ∀ j u, news[j]? = some u → w.cell? (ad.add j) = some u) (h1 : ∀ u ∈ news, u.oneCell' = true)
    (h63 : n + m ≤ maxLen) (hbytes : (n + m) * bytes ≤ 140737488355328) (hbase : base ≤ w.heap.size)
    (h : ∀ v' w', w'.ownsRow base e size v' (n + m) (xs ++ news) → w.grownBy w' v.ownBlock → K (a.put o.dst v') w') :
    if Region.wanted o (yielded ops a.tmps) = true then Oper.wp P o a w K Q else E := by
  have hw : Region.wanted o (yielded ops a.tmps) = true := by simp [Region.wanted, hgd]
  rw [if_pos hw]
  exact wp_append_own w s x t ho base e i z size bytes ht hi hz hsize hby hzs hsz v n xs hs hown ad m c news hx hl hnews h1 h63 hbytes hbase fun v' w' h2 h3 _ => h v' w' h2 h3
theorem below_own {B e size n : Nat} {v : Value} {xs : List Value} {w0 w1 w2 : World} (hb : Below B w0 w1) (hg : w1.grownBy w2 v.ownBlock) (hr : w1.ownsRow B e size v n xs) (hB : B ≤ w1.heap.size) : Below B w0 w2 :=
  hb.grown hg hB (fun k hk => (hr.lt k hk).1)
theorem ints_one (l : List Int) : ∀ u ∈ l.map (Value.int .i64), u.oneCell' = true := by
  intro u hu
  obtain ⟨x, _, rfl⟩ := List.mem_map.1 hu
  rfl
/-- What a copy of numbers gives. -/
def IntsRes (n : Nat) (zs : List Int) (w : World) (e : Ending) (w' : World) : Prop := ∃ g c', e = .returned (.slice (some ⟨g, 0, none⟩) n c') ∧ Hid (w'.ownsRow w.heap.size 3 1 (.slice (some ⟨g, 0, none⟩) n c') n (zs.map (Value.int .i64)) ∧ Below w.heap.size w w')
theorem ints2_end {n : Nat} {zs : List Int} {w wr : World} {v : Value} (h : wr.ownsRow w.heap.size 3 1 v n (zs.map (Value.int .i64))) (hb : Below w.heap.size w wr) (hn : v ≠ .slice none 0 0) : IntsRes n zs w (.returned v) wr := by
  rcases h.2 with ⟨e, _⟩ | ⟨g, cap, cur, e, _⟩
  · exact absurd e hn
  · subst e; exact ⟨g, cap, rfl, h, hb⟩

set_option maxHeartbeats 1000000 in
theorem ints2 (a : Option Addr) (n c : Nat) (zs : List Int) (hn : zs.length = n) (hsm : n ≤ 1000000) (w : World) (h : IAt w a zs) :
    Calls Tryz.prog 21 #[.slice a n c] w (IntsRes n zs w) := by
  obtain ⟨i0, hi, hz0, hz1, hz2⟩ := info_parts (P := Tryz.prog) (e := 3) (z := .int .i64 0) (size := 1) (bytes := 8) (by kernel_rfl)
  have H := Lib.hid h
  have Hn := Lib.hid hn
  have Hsm : Hid (n ≤ 1000000) := hsm
  clear h hn
  go_enter Tryz.func21, Tryz.ntmps21
  go_wp2_with (at_make; refine wpList_make_own _ rfl _ _ 37 rfl w.heap.size 3 i0 (.int .i64 0) 1 Tryz.underlying37 hi hz0 hz1 _ _ _ n rfl rfl (by simp) (by rw [hz2]; omega) (by unfold maxLen; omega) (Nat.le_refl _) ?_)
  intro w1 hown1 hgrow1
  have Ho1 : Hid (Below w.heap.size w w1) := (Below.refl _ w).grown hgrow1 (Nat.le_refl _) (fun k hk => by cases hk)
  have Hown1 := Lib.hid hown1
  clear hown1 hgrow1
  go_wp2_with fail
  go_loopw [3, 4] (fun v i wr => ∃ k : Nat, k ≤ n ∧ i = .int .i64 k ∧ Hid (wr.ownsRow w.heap.size 3 1 v k ((zs.take k).map (Value.int .i64))) ∧ Hid (Below w.heap.size w wr) ∧ Hid (v ≠ .slice none 0 0)) (fun _ i _ => n - (intOf i).toNat)
  case atStart => exact ⟨0, Nat.zero_le _, rfl, Hown1.out, Ho1.out, (fun e => by cases e)⟩
  case round =>
    obtain ⟨k, hk, rfl, Hown, Ho, Hnn⟩ := hrel
    obtain ⟨v, hv⟩ : ∃ v, u3 = v := ⟨_, rfl⟩
    rw [hv] at Hown Hnn ⊢
    clear hv
    by_cases hlt2 : k < n
    · rcases H.out with e | ⟨b, off, rfl, hc⟩
      · exfalso; have h9 := Hn.out; rw [e] at h9; simp at h9; omega
      have hcx : wr.cell? ⟨b, off + k, none⟩ = some (.int .i64 (zs[k]?.getD 0)) := (Ho.out.cell (p := ⟨b, off + k, none⟩) (World.block_lt_of_cell? w _ (hc k (by rw [Hn.out]; exact hlt2)))).trans (hc k (by rw [Hn.out]; exact hlt2))
      have Hstep := Lib.hid (ints_take_succ zs k (by rw [Hn.out]; exact hlt2))
      have Hsz := Lib.hid Ho.out.size
      clear hc
      generalize zs[k]?.getD 0 = y at *
      go_wp2_with (at_builtin; refine wpList_append_own _ rfl _ _ 37 rfl w.heap.size 3 i0 (.int .i64 0) 1 8 Tryz.underlying37 hi hz0 hz1 hz2 rfl (by decide) v _ _ rfl (Hown.out.alloc _) ⟨wr.heap.size, 0, none⟩ 1 1 [.int .i64 y] rfl rfl (cell_one_new _ _ _) (by intro u hu; simp at hu; subst hu; rfl) (by unfold maxLen; have := Hsm.out; omega) (by have := Hsm.out; omega) (by show _ ≤ _; simp; exact Nat.le_trans Hsz.out (Nat.le_succ _)) ?_)
      intro v' w4 hown4 hgrow4 hnil4
      have Hnn4 : Hid (v' ≠ .slice none 0 0) := hnil4
      have Ho4 : Hid (Below w.heap.size w w4) := (Ho.out.alloc Hsz.out (.cells #[.int .i64 y] 3)).grown hgrow4 (by show _ ≤ _; simp; exact Nat.le_trans Hsz.out (Nat.le_succ _)) (fun k hk => (Hown.out.lt k hk).1)
      have Hown4 : Hid (w4.ownsRow w.heap.size 3 1 v' (k + 1) ((zs.take (k + 1)).map (Value.int .i64))) := by show World.ownsRow _ _ _ _ _ _ _; rw [Hstep.out, List.map_take]; exact hown4
      clear hown4 hgrow4 hnil4 Hown Ho hcx Hstep Hsz
      go_wp2_with fail
      go_roundw
      case rel => exact ⟨k + 1, by omega, by go_num, Hown4.out, Ho4.out, Hnn4.out⟩
      case measure => simp [intOf]; omega
    · have hkn : k = n := by omega
      go_wp2_with fail
      go_ret
      have h9 := Hown.out
      rw [hkn, List.take_of_length_le (by rw [Hn.out]; exact Nat.le_refl _)] at h9
      rw [hkn]
      exact ints2_end h9 Ho.out Hnn.out
end Go.Proofs.YtcjfcomadcebnaaGreatDoor

/- The document's words, codes and what it tells of operations, by contracts. -/
namespace Go.Proofs.YtcjfcomadcebnaaGreatDoor
open Go.RowKit Go.Maps Go.WideMaps Go.WideElems Go.ChangeShapes Go.WideShapes

/-- Texts that lie in a slice. -/
def TAt (w : World) (a : Option Addr) (ls : List (List UInt8)) : Prop := ls = [] ∨ ∃ b off, a = some ⟨b, off, none⟩ ∧ ∀ i, i < ls.length → w.cell? ⟨b, off + i, none⟩ = some (tv (ls[i]?.getD []))

theorem TAt.below {w w' : World} {B : Nat} {a : Option Addr} {l : List (List UInt8)} (h : TAt w a l) (hb : Below B w w') (hB : ∀ p, a = some p → l ≠ [] → p.block < B) : TAt w' a l := by
  rcases h with rfl | ⟨b, off, rfl, h⟩
  · exact .inl rfl
  · by_cases hl : l = []
    · exact .inl hl
    · exact .inr ⟨b, off, rfl, fun i hi => (hb.cell (p := ⟨b, off + i, none⟩) (hB ⟨b, off, none⟩ rfl hl)).trans (h i hi)⟩
theorem TAt.lt {w : World} {a : Option Addr} {l : List (List UInt8)} (h : TAt w a l) : ∀ p, a = some p → l ≠ [] → p.block < w.heap.size := fun p e hl => by
  rcases h with h | ⟨b, off, e', h⟩
  · exact absurd h hl
  · rw [e] at e'; cases e'
    have := h 0 (by cases l with | nil => exact absurd rfl hl | cons => simp)
    exact World.block_lt_of_cell? w _ this
theorem TAt.below' {w w' : World} {a : Option Addr} {l : List (List UInt8)} (h : TAt w a l) (hb : Below w.heap.size w w') : TAt w' a l := h.below hb h.lt

/-- The document's words of a table. -/
def rrow (t : Int) : List (List UInt8) := if 0 ≤ t ∧ t < 7 then (wrow t.toNat).filter (fun x => x ≠ []) else []

theorem tat_new (w : World) (l : List (List UInt8)) (cs : Array Value) (h : cs = (tc l).toArray) : TAt (w.alloc (.cells cs 9)) (some ⟨w.heap.size, 0, none⟩) l := by
  refine .inr ⟨w.heap.size, 0, rfl, fun i hi => ?_⟩
  rw [Nat.zero_add, World.cell?_alloc_new, h]
  simp [hi]

/-- What a call of the document's words gives. -/
def WordsIs (t : Int) (w : World) (e : Ending) (w' : World) : Prop := ∃ a c, e = .returned (.slice a (rrow t).length c) ∧ Hid (TAt w' a (rrow t) ∧ Below w.heap.size w w')

set_option maxRecDepth 100000 in
theorem refw_1 (w : World) : Calls Tryz.prog 63 #[.int .i64 1] w (WordsIs 1 w) := by
  go_enter Tryz.func63, Tryz.ntmps63
  go_wp2
  go_ret
  exact ⟨_, _, rfl, tat_new _ (rrow 1) _ rfl, (Below.refl _ _).alloc (Nat.le_refl _) _⟩
theorem refw_2 (w : World) : Calls Tryz.prog 63 #[.int .i64 2] w (WordsIs 2 w) := by
  go_enter Tryz.func63, Tryz.ntmps63
  go_wp2
  go_ret
  exact ⟨_, _, rfl, tat_new _ (rrow 2) _ rfl, (Below.refl _ _).alloc (Nat.le_refl _) _⟩
set_option maxRecDepth 100000 in
theorem refw_3 (w : World) : Calls Tryz.prog 63 #[.int .i64 3] w (WordsIs 3 w) := by
  go_enter Tryz.func63, Tryz.ntmps63
  go_wp2
  go_ret
  exact ⟨_, _, rfl, tat_new _ (rrow 3) _ rfl, (Below.refl _ _).alloc (Nat.le_refl _) _⟩
theorem refw_4 (w : World) : Calls Tryz.prog 63 #[.int .i64 4] w (WordsIs 4 w) := by
  go_enter Tryz.func63, Tryz.ntmps63
  go_wp2
  go_ret
  exact ⟨_, _, rfl, tat_new _ (rrow 4) _ rfl, (Below.refl _ _).alloc (Nat.le_refl _) _⟩
set_option maxRecDepth 100000 in
theorem refw_5 (w : World) : Calls Tryz.prog 63 #[.int .i64 5] w (WordsIs 5 w) := by
  go_enter Tryz.func63, Tryz.ntmps63
  go_wp2
  go_ret
  exact ⟨_, _, rfl, tat_new _ (rrow 5) _ rfl, (Below.refl _ _).alloc (Nat.le_refl _) _⟩
theorem refw_6 (w : World) : Calls Tryz.prog 63 #[.int .i64 6] w (WordsIs 6 w) := by
  go_enter Tryz.func63, Tryz.ntmps63
  go_wp2
  go_ret
  exact ⟨_, _, rfl, tat_new _ (rrow 6) _ rfl, (Below.refl _ _).alloc (Nat.le_refl _) _⟩
theorem rrow_out {t : Int} (h : t ≠ 1 ∧ t ≠ 2 ∧ t ≠ 3 ∧ t ≠ 4 ∧ t ≠ 5 ∧ t ≠ 6) : rrow t = [] := by
  unfold rrow
  split
  · have : t = 0 := by omega
    subst this; decide
  · rfl
set_option maxRecDepth 100000 in
theorem refw_no (t : Int) (h : t ≠ 1 ∧ t ≠ 2 ∧ t ≠ 3 ∧ t ≠ 4 ∧ t ≠ 5 ∧ t ≠ 6) (w : World) : Calls Tryz.prog 63 #[.int .i64 t] w (WordsIs t w) := by
  have hr := rrow_out h
  unfold WordsIs
  rw [hr]
  obtain ⟨h1, h2, h3, h4, h5, h6⟩ := h
  have k1 : (t == 1) = false := by simpa using h1
  have k2 : (t == 2) = false := by simpa using h2
  have k3 : (t == 3) = false := by simpa using h3
  have k4 : (t == 4) = false := by simpa using h4
  have k5 : (t == 5) = false := by simpa using h5
  have k6 : (t == 6) = false := by simpa using h6
  clear hr h1 h2 h3 h4 h5 h6
  go_enter Tryz.func63, Tryz.ntmps63
  go_wp2
  go_ret
  exact ⟨_, _, rfl, .inl rfl, Below.refl _ _⟩
theorem refw_any (t : Int) (w : World) : Calls Tryz.prog 63 #[.int .i64 t] w (WordsIs t w) := by
  by_cases h : t ≠ 1 ∧ t ≠ 2 ∧ t ≠ 3 ∧ t ≠ 4 ∧ t ≠ 5 ∧ t ≠ 6
  · exact refw_no t h w
  · have : t = 1 ∨ t = 2 ∨ t = 3 ∨ t = 4 ∨ t = 5 ∨ t = 6 := by omega
    rcases this with rfl | rfl | rfl | rfl | rfl | rfl
    · exact refw_1 w
    · exact refw_2 w
    · exact refw_3 w
    · exact refw_4 w
    · exact refw_5 w
    · exact refw_6 w

theorem rrow_word : ∀ t : Nat, t < 7 → ∀ c : Nat, c < 10 → (if 1 ≤ c ∧ c ≤ (rrow t).length then (rrow t).getD (c - 1) [] else []) = (wrow t).getD c [] := by decide
theorem rrow_len (t : Int) : (rrow t).length ≤ 9 := by
  unfold rrow
  split
  · rename_i h
    have : ∀ t : Nat, t < 7 → ((wrow t).filter (fun x => x ≠ [])).length ≤ 9 := by decide
    exact this _ (by omega)
  · simp
theorem wordL_ref (t c : Int) : wordL t c = if 1 ≤ c ∧ c ≤ (rrow t).length then (rrow t).getD (c.toNat - 1) [] else [] := by
  have hlen := rrow_len t
  by_cases h : t < 0 ∨ 7 ≤ t ∨ c < 0 ∨ 10 ≤ c
  · rw [wordL_out h]
    split
    · rename_i h2
      have : rrow t = [] := by unfold rrow; rw [if_neg (by omega)]
      rw [this] at h2; simp at h2; omega
    · rfl
  · obtain ⟨k, rfl⟩ : ∃ k : Nat, t = k := ⟨t.toNat, by omega⟩
    obtain ⟨j, rfl⟩ : ∃ j : Nat, c = j := ⟨c.toNat, by omega⟩
    have := rrow_word k (by omega) j (by omega)
    rw [wordL_in (by omega) (by omega), ← this]
    by_cases hc : 1 ≤ j ∧ j ≤ (rrow k).length
    · rw [if_pos hc, if_pos (by omega), Int.toNat_natCast]
    · rw [if_neg hc, if_neg (by omega)]

set_option maxRecDepth 100000 in
theorem refWord_any (t c : Int) (w : World) : Calls Tryz.prog 41 #[.int .i64 t, .int .i64 c] w fun e w' => e = .returned (tv (wordL t c)) ∧ Hid (Below w.heap.size w w') := by
  have Hw := Lib.hid (refw_any t w)
  have hlen := rrow_len t
  rw [wordL_ref t c]
  unfold WordsIs at Hw
  generalize rrow t = r at *
  by_cases h1 : c < 1
  · rw [if_neg (by omega)]
    go_enter Tryz.func41, Tryz.ntmps41
    go_wp2_with (first | (go_at_call 63; refine Hw.out.mono ?_; rintro e w1 ⟨a, cp, rfl, hb⟩))
    go_ret
    exact ⟨rfl, hb.out.2⟩
  by_cases h2 : (r.length : Int) < c
  · rw [if_neg (by omega)]
    go_enter Tryz.func41, Tryz.ntmps41
    go_wp2_with (first | (go_at_call 63; refine Hw.out.mono ?_; rintro e w1 ⟨a, cp, rfl, hb⟩))
    go_ret
    exact ⟨rfl, hb.out.2⟩
  · obtain ⟨k, rfl⟩ : ∃ k : Nat, c = k + 1 := ⟨c.toNat - 1, by omega⟩
    have hk : k < r.length := by omega
    rw [if_pos (by omega), show ((k : Int) + 1).toNat - 1 = k by omega]
    obtain ⟨x, hx⟩ : ∃ x, x = r.getD k [] := ⟨_, rfl⟩
    rw [← hx]
    have Hx := Lib.hid hx
    clear hx
    have h3 : decide ((k : Int) + 1 < 1) = false := by simp; omega
    have h4 : decide ((r.length : Int) < (k : Int) + 1) = false := by simp; omega
    clear h1 h2
    go_enter Tryz.func41, Tryz.ntmps41
    go_wp2_with (first | (go_at_call 63; refine Hw.out.mono ?_; rintro e w1 ⟨a, cp, rfl, hb⟩; obtain ⟨b, off, rfl, hcell⟩ : ∃ b off, a = some ⟨b, off, none⟩ ∧ w1.cell? ⟨b, off + k, none⟩ = some (tv x) := (by rcases hb.out.1 with h | ⟨b, off, h, hc⟩; (subst h; simp at hk); exact ⟨b, off, h, by rw [Hx.out]; exact hc k hk⟩)))
    go_ret
    exact ⟨rfl, hb.out.2⟩

set_option maxHeartbeats 4000000 in
theorem refOf_any (op : Int) (w : World) : Calls Tryz.prog 100 #[.int .i64 op] w fun e w' => e = .returned (.int .i64 (ofZ op)) ∧ Hid (Below w.heap.size w w') := by
  have hal : Below w.heap.size w (w.alloc (.cells #[.int .i64 0, .int .i64 1, .int .i64 1, .int .i64 2, .int .i64 2, .int .i64 3, .int .i64 3, .int .i64 4, .int .i64 4, .int .i64 4] 3)) := (Below.refl _ _).alloc (Nat.le_refl _) _
  have Hal := Lib.hid hal
  clear hal
  rcases ten op with h | h | h | h | h | h | h | h | h | h
  iterate 9
    · subst h
      go_enter Tryz.func100, Tryz.ntmps100
      go_wp2
      go_ret
      exact ⟨rfl, Hal.out⟩
  · have hz := Lib.hid (ofZ_no (noOp h))
    by_cases h1 : op < 1
    · clear h
      go_enter Tryz.func100, Tryz.ntmps100
      go_wp2
      go_ret
      exact ⟨by rw [hz.out]; rfl, Hal.out⟩
    · have h2 : 9 < op := by omega
      clear h
      go_enter Tryz.func100, Tryz.ntmps100
      go_wp2
      go_ret
      exact ⟨by rw [hz.out]; rfl, Hal.out⟩

set_option maxHeartbeats 1000000 in
set_option maxRecDepth 100000 in
theorem refKeyed_any (op : Int) (w : World) : Calls Tryz.prog 101 #[.int .i64 op] w fun e w' => e = .returned (.bool (keyedZ op)) ∧ w = w' := by
  rcases ten op with h | h | h | h | h | h | h | h | h | h
  iterate 9
    · subst h
      go_enter Tryz.func101, Tryz.ntmps101
      go_wp2
      go_ret
      exact ⟨rfl, rfl⟩
  · obtain ⟨h1, h2, h3, h4, h5, h6, h7, h8, h9⟩ := noOp h
    have hz := Lib.hid (keyedZ_no (noOp h))
    clear h
    go_enter Tryz.func101, Tryz.ntmps101
    go_wp2
    go_ret
    exact ⟨by rw [hz.out]; rfl, rfl⟩
set_option maxHeartbeats 1000000 in
theorem refValued_any (op : Int) (w : World) : Calls Tryz.prog 102 #[.int .i64 op] w fun e w' => e = .returned (.bool (valuedZ op)) ∧ w = w' := by
  rcases ten op with h | h | h | h | h | h | h | h | h | h
  iterate 9
    · subst h
      go_enter Tryz.func102, Tryz.ntmps102
      go_wp2
      go_ret
      exact ⟨rfl, rfl⟩
  · obtain ⟨h1, h2, h3, h4, h5, h6, h7, h8, h9⟩ := noOp h
    have hz := Lib.hid (valuedZ_no (noOp h))
    clear h
    go_enter Tryz.func102, Tryz.ntmps102
    go_wp2
    go_ret
    exact ⟨by rw [hz.out]; rfl, rfl⟩
end Go.Proofs.YtcjfcomadcebnaaGreatDoor

/- Lists that never change: At, of states. -/
namespace Go.Proofs.YtcjfcomadcebnaaGreatDoor
open Go.RowKit Go.Maps Go.WideMaps Go.WideElems Go.ChangeShapes Go.WideShapes

/-- A row of three, written cell by cell. -/
theorem row_set3 {W : World} {g : Nat} {x y z : Value} {t : TypeId} (h : W.heap[g]? = some (.cells #[x, y, z] t)) (p q r : Value) :
    (W.cell? ⟨g, 0, none⟩ = some x ∧ W.frozen? ⟨g, 0, none⟩ = false) ∧
    ((W.setCell ⟨g, 0, none⟩ p).cell? ⟨g, 1, none⟩ = some y ∧ (W.setCell ⟨g, 0, none⟩ p).frozen? ⟨g, 1, none⟩ = false) ∧
    (((W.setCell ⟨g, 0, none⟩ p).setCell ⟨g, 1, none⟩ q).cell? ⟨g, 2, none⟩ = some z ∧ ((W.setCell ⟨g, 0, none⟩ p).setCell ⟨g, 1, none⟩ q).frozen? ⟨g, 2, none⟩ = false) ∧
    (((W.setCell ⟨g, 0, none⟩ p).setCell ⟨g, 1, none⟩ q).setCell ⟨g, 2, none⟩ r).heap[g]? = some (.cells #[p, q, r] t) := by
  have h1 : (W.setCell ⟨g, 0, none⟩ p).heap[g]? = some (.cells #[p, y, z] t) := heap_setCell_same W g 0 _ t p h
  have h2 : ((W.setCell ⟨g, 0, none⟩ p).setCell ⟨g, 1, none⟩ q).heap[g]? = some (.cells #[p, q, z] t) := heap_setCell_same _ g 1 _ t q h1
  have h3 : (((W.setCell ⟨g, 0, none⟩ p).setCell ⟨g, 1, none⟩ q).setCell ⟨g, 2, none⟩ r).heap[g]? = some (.cells #[p, q, r] t) := heap_setCell_same _ g 2 _ t r h2
  exact ⟨⟨(row_three h).1, frozen_of_row _ g 0 _ t h⟩, ⟨(row_three h1).2.1, frozen_of_row _ g 1 _ t h1⟩, ⟨(row_three h2).2.2, frozen_of_row _ g 2 _ t h2⟩, h3⟩
theorem results_row_tmp {P : Program} {fn : Func} {p u : Tmp} {ty : TypeId} (h : fn.results = #[.cell p ty, .tmp u]) (tmps : Array Value) (w : World) (g : Nat) (t : TypeId) (cs : Array Value) (fr : Nat × Nat) (d : TypeDesc)
    (hp : tmps.getD p undef = .pointer (some ⟨g, 0, none⟩)) (hg : w.heap[g]? = some (.cells cs t fr))
    (hu : P.underlying ty = some d) (hd : (match d with | .struct _ | .array _ _ => true | _ => false) = true) (hi : (P.info? ty).map (·.size) = some cs.size) :
    (results fn tmps).run P w = .ok (.tuple #[.agg cs, tmps.getD u undef]) w := by
  rw [results_cell_tmp h, hp]
  simp [asAddr, run_loadVar_row w g t ty cs fr d hg hu hd hi, Result.andThen]
theorem box_new13 (w : World) (t : TypeId) (v : Value) (p q r : Value) (s : TypeId) : ∃ W1 W, w.alloc (.cells #[v] t) = W1 ∧ W1.alloc (.cells #[p, q, r] s) = W ∧ Hid (Below w.heap.size w W) ∧ Hid (w.heap.size < W1.heap.size) ∧ Hid (W1.heap.size < W.heap.size) ∧ Hid (Boxed W w.heap.size t v) ∧ Hid (W.heap[W1.heap.size]? = some (.cells #[p, q, r] s)) := by
  obtain ⟨W1, h1, Hb, hs, Hx⟩ := box_new w t v
  obtain ⟨W, h2, Hb2, hs2, Hy⟩ := cells_new W1 #[p, q, r] s
  exact ⟨W1, W, h1, h2, Hb.out.trans (Hb2.out.mono Hb.out.size), hs, hs2, boxed_below Hx.out Hb2.out hs.out, Hy⟩

set_option maxHeartbeats 1000000 in
set_option maxRecDepth 100000 in
theorem at_sta_in (a : Option Addr) (n c : Nat) (xs : List Value) (k : Nat) (hk : k < n) (p q : Int) (r : ByteArray) (hp : xs[k * 3]? = some (.int .i64 p)) (hq : xs[k * 3 + 1]? = some (.int .i64 q)) (hr : xs[k * 3 + 2]? = some (.string r)) (w : World) (h : SlAt w a xs) :
    Calls Tryz.prog 38 #[.agg #[.slice a n c], .int .i64 k] w fun e w' => e = .returned (.tuple #[.agg #[.int .i64 p, .int .i64 q, .string r], .bool true]) ∧ Hid (Below w.heap.size w w') := by
  obtain ⟨W1, W, hW1, hW, Hb, hs1, hs2, Hx, Hp⟩ := box_new13 w 27 (.slice a n c) (.int .i64 0) (.int .i64 0) (.string ⟨#[]⟩) 34
  have hs := Lib.hid (Nat.lt_trans hs1.out hs2.out)
  have hc0 := Hx.out.cell
  have Hh := Lib.hid (has_sta a n c k W)
  have e1 : (decide (0 ≤ (k : Int)) && decide ((k : Int) < (n : Int))) = true := by simp [hk]
  rw [e1] at Hh
  rcases h with ⟨_, h0⟩ | ⟨b, off, rfl, hbl, hc⟩
  · rw [h0] at hp; simp at hp
  have hb : b < w.heap.size := hbl (by intro e; rw [e] at hp; simp at hp)
  have u0 := Lib.hid ((Hb.out.cell (p := ⟨b, off + k * 3, none⟩) hb).trans (hc _ _ hp))
  have u1 := Lib.hid ((Hb.out.cell (p := ⟨b, off + (k * 3 + 1), none⟩) hb).trans (hc _ _ hq))
  have u2 := Lib.hid ((Hb.out.cell (p := ⟨b, off + (k * 3 + 2), none⟩) hb).trans (hc _ _ hr))
  have hbW := Lib.hid (Nat.lt_trans hb hs.out)
  clear hbl hc hp hq hr hb e1
  go_enter Tryz.func38, Tryz.ntmps38
  go_wp2_with (first | (go_at_call 61; refine Hh.out.mono ?_; rintro e w2 ⟨rfl, h2⟩; have hc2 := (boxed_below Hx.out h2.out hs.out).cell; have v0 := (h2.out.cell (p := ⟨b, off + k * 3, none⟩) hbW.out).trans u0.out; have v1 : w2.cell? ⟨b, off + k * 3 + 1, none⟩ = some (.int .i64 q) := (h2.out.cell (p := ⟨b, off + (k * 3 + 1), none⟩) hbW.out).trans u1.out; have v2 : w2.cell? ⟨b, off + k * 3 + 2, none⟩ = some (.string r) := (h2.out.cell (p := ⟨b, off + (k * 3 + 2), none⟩) hbW.out).trans u2.out; obtain ⟨⟨s0, f0⟩, ⟨s1, f1⟩, ⟨s2, f2⟩, hfin⟩ := row_set3 ((h2.out.block _ hs2.out).trans Hp.out) (.int .i64 p) (.int .i64 q) (.string r); have Hfin := Lib.hid hfin; clear hfin))
  refine bodyPost_ret (results_row_tmp rfl _ _ W1.heap.size 34 #[.int .i64 p, .int .i64 q, .string r] (0, 0) _ rfl Hfin.out Tryz.underlying34 rfl (by kernel_rfl)) rfl ?_
  exact ⟨rfl, (((Hb.out.trans (h2.out.mono Hb.out.size)).setCell (p := ⟨W1.heap.size, 0, none⟩) (Nat.le_of_lt hs1.out) _).setCell (p := ⟨W1.heap.size, 1, none⟩) (Nat.le_of_lt hs1.out) _).setCell (p := ⟨W1.heap.size, 2, none⟩) (Nat.le_of_lt hs1.out) _⟩

set_option maxHeartbeats 1000000 in
set_option maxRecDepth 100000 in
theorem at_sta_out (a : Option Addr) (n c : Nat) (i : Int) (hi : ¬(0 ≤ i ∧ i < n)) (w : World) :
    Calls Tryz.prog 38 #[.agg #[.slice a n c], .int .i64 i] w fun e w' => e = .returned (.tuple #[.agg #[.int .i64 0, .int .i64 0, .string ⟨#[]⟩], .bool false]) ∧ Hid (Below w.heap.size w w') := by
  obtain ⟨W1, W, hW1, hW, Hb, hs1, hs2, Hx, Hp⟩ := box_new13 w 27 (.slice a n c) (.int .i64 0) (.int .i64 0) (.string ⟨#[]⟩) 34
  have hs := Lib.hid (Nat.lt_trans hs1.out hs2.out)
  have hc0 := Hx.out.cell
  have Hh := Lib.hid (has_sta a n c i W)
  have e1 : (decide (0 ≤ i) && decide (i < (n : Int))) = false := by simpa using hi
  rw [e1] at Hh
  clear hi e1
  go_enter Tryz.func38, Tryz.ntmps38
  go_wp2_with (first | (go_at_call 61; refine Hh.out.mono ?_; rintro e w2 ⟨rfl, h2⟩; have hc2 := (boxed_below Hx.out h2.out hs.out).cell; obtain ⟨W3, hW3, Hb3, hs3, Hq⟩ := cells_new w2 #[.int .i64 0, .int .i64 0, .string ⟨#[]⟩] 34; obtain ⟨y0, y1, y2⟩ := row_three Hq.out; have HP := Lib.hid ((Hb3.out.block _ (Nat.lt_of_lt_of_le hs2.out h2.out.size)).trans ((h2.out.block _ hs2.out).trans Hp.out)); obtain ⟨⟨s0, f0⟩, ⟨s1, f1⟩, ⟨s2, f2⟩, hfin⟩ := row_set3 HP.out (.int .i64 0) (.int .i64 0) (.string ⟨#[]⟩); have Hfin := Lib.hid hfin; clear hfin))
  refine bodyPost_ret (results_row_tmp rfl _ _ W1.heap.size 34 #[.int .i64 0, .int .i64 0, .string ⟨#[]⟩] (0, 0) _ rfl Hfin.out Tryz.underlying34 rfl (by kernel_rfl)) rfl ?_
  exact ⟨rfl, (((Hb.out.trans ((h2.out.mono Hb.out.size).trans (Hb3.out.mono (Nat.le_trans Hb.out.size h2.out.size)))).setCell (p := ⟨W1.heap.size, 0, none⟩) (Nat.le_of_lt hs1.out) _).setCell (p := ⟨W1.heap.size, 1, none⟩) (Nat.le_of_lt hs1.out) _).setCell (p := ⟨W1.heap.size, 2, none⟩) (Nat.le_of_lt hs1.out) _⟩
end Go.Proofs.YtcjfcomadcebnaaGreatDoor

/- Lists that never change: With, of states. -/
namespace Go.Proofs.YtcjfcomadcebnaaGreatDoor
open Go.RowKit Go.Maps Go.WideMaps Go.WideElems Go.ChangeShapes Go.WideShapes

/-- An element of three cells of a row of one's own, written cell by cell. -/
theorem own_set3 {W : World} {B g n c o : Nat} {e : TypeId} {size : Nat} {xs : List Value} (h : W.ownsRow B e size (.slice (some ⟨g, 0, none⟩) n c) n xs) (ho : o + 2 < xs.length) (p q r : Value) :
    (∃ u, W.cell? ⟨g, o, none⟩ = some u ∧ W.frozen? ⟨g, o, none⟩ = false) ∧
    (∃ u, (W.setCell ⟨g, o, none⟩ p).cell? ⟨g, o + 1, none⟩ = some u ∧ (W.setCell ⟨g, o, none⟩ p).frozen? ⟨g, o + 1, none⟩ = false) ∧
    (∃ u, ((W.setCell ⟨g, o, none⟩ p).setCell ⟨g, o + 1, none⟩ q).cell? ⟨g, o + 2, none⟩ = some u ∧ ((W.setCell ⟨g, o, none⟩ p).setCell ⟨g, o + 1, none⟩ q).frozen? ⟨g, o + 2, none⟩ = false) ∧
    (((W.setCell ⟨g, o, none⟩ p).setCell ⟨g, o + 1, none⟩ q).setCell ⟨g, o + 2, none⟩ r).ownsRow B e size (.slice (some ⟨g, 0, none⟩) n c) n (((xs.set o p).set (o + 1) q).set (o + 2) r) := by
  have cell : ∀ {W : World} {xs : List Value}, W.ownsRow B e size (.slice (some ⟨g, 0, none⟩) n c) n xs → ∀ j, j < xs.length → ∃ u, W.cell? ⟨g, j, none⟩ = some u ∧ W.frozen? ⟨g, j, none⟩ = false := by
    intro W xs h j hj
    have hc := h.cells (g := g) rfl j _ (List.getElem?_eq_getElem hj)
    rw [Addr.add_lit, Nat.zero_add] at hc
    exact ⟨_, hc, h.frozenAt j⟩
  have h1 := (h.stored o p).1
  have h2 := (h1.stored (o + 1) q).1
  have h3 := (h2.stored (o + 2) r).1
  exact ⟨cell h o (by omega), cell h1 (o + 1) (by simp; omega), cell h2 (o + 2) (by simp; omega), h3⟩

set_option maxHeartbeats 1000000 in
set_option maxRecDepth 100000 in
theorem with_sta_in (a : Option Addr) (n c : Nat) (xs : List Value) (hx : xs.length = n * 3) (h1 : ∀ u ∈ xs, u.oneCell' = true) (hn : n ≤ 1000000) (k : Nat) (hk : k < n) (p q : Int) (r : ByteArray) (w : World) (h : SlAt w a xs) :
    Calls Tryz.prog 50 #[.agg #[.slice a n c], .int .i64 k, .agg #[.int .i64 p, .int .i64 q, .string r]] w fun e w' => ∃ v', e = .returned (.agg #[v']) ∧ Hid (w'.ownsRow w.heap.size 34 3 v' n (((xs.set (k * 3) (.int .i64 p)).set (k * 3 + 1) (.int .i64 q)).set (k * 3 + 2) (.string r)) ∧ Below w.heap.size w w') := by
  obtain ⟨W0, W1, W, hW0, hW1, hW, Hb, hs0, hs01, hs, Hx, Hp, Hy⟩ := box_new3 w 27 27 (.slice a n c) (.slice none 0 0) (.int .i64 p) (.int .i64 q) (.string r) 34
  have hs1 := Lib.hid (Nat.lt_trans hs0.out hs01.out)
  have hc0 := Hx.out.cell
  have Hh := Lib.hid (has_sta a n c k W)
  have e1 : (decide (0 ≤ (k : Int)) && decide ((k : Int) < (n : Int))) = true := by simp [hk]
  rw [e1] at Hh
  have Ha := Lib.hid (fun W' (hb : Below w.heap.size w W') => all_sta a n c xs hx h1 hn W' (h.below hb))
  have Hl := Lib.hid hx
  clear hx h1 h e1
  go_enter Tryz.func50, Tryz.ntmps50
  go_wp2_with (first
    | (go_at_call 61; refine Hh.out.mono ?_; rintro e w2 ⟨rfl, h2⟩; have hc2 := (boxed_below Hx.out h2.out (Nat.lt_trans hs1.out hs.out)).cell; have Hy2 := Lib.hid (boxed_below Hy.out h2.out hs.out); have Hp2 := Lib.hid ((h2.out.block _ (Nat.lt_trans hs01.out hs.out)).trans Hp.out); have Hb2 := Lib.hid (Hb.out.trans (h2.out.mono Hb.out.size)); have hs2 := Lib.hid (Nat.lt_of_lt_of_le hs.out h2.out.size))
    | (go_at_call 67; refine (Ha.out _ Hb2.out).mono ?_; rintro e w3 ⟨v', rfl, h3⟩; obtain ⟨g, c3, rfl, hg, -⟩ := row_pos h3.out.1 (by omega); have Hg := Lib.hid hg; clear hg; obtain ⟨⟨u0, z0, f0⟩, ⟨u1, z1, f1⟩, ⟨u2, z2, f2⟩, hown⟩ := own_set3 h3.out.1 (o := k * 3) (by rw [Hl.out]; omega) (.int .i64 p) (.int .i64 q) (.string r); have Hown := Lib.hid hown; clear hown; obtain ⟨x0, x1, x2⟩ := row_three ((h3.out.2.block _ (Nat.lt_trans hs01.out hs2.out)).trans Hp2.out); have Hy3 := Lib.hid (boxed_below Hy2.out h3.out.2 hs2.out); have hne : g ≠ W1.heap.size := (by have h8 := Hg.out; have h9 := hs2.out; omega); have Hy4 := Lib.hid (boxed_setCell (boxed_setCell (boxed_setCell Hy3.out (p := ⟨g, k * 3, none⟩) hne (.int .i64 p)) (p := ⟨g, k * 3 + 1, none⟩) hne (.int .i64 q)) (p := ⟨g, k * 3 + 2, none⟩) hne (.string r)); have hy4 := Hy4.out.cell; have hyf := Hy4.out.frozen))
  refine bodyPost_ret (results_cell_row rfl _ _ W1.heap.size 27 #[.slice (some ⟨g, 0, none⟩) n c3] (0, 0) _ rfl (Hy4.out.set _) Tryz.underlying27 rfl (by kernel_rfl)) rfl ?_
  have hge : w.heap.size ≤ g := Nat.le_trans (Nat.le_of_lt (Nat.lt_trans hs1.out hs2.out)) Hg.out
  exact ⟨_, rfl, row_base (ownsRow_setCell_below Hown.out hs2.out _) (Nat.le_of_lt (Nat.lt_trans hs1.out hs2.out)), ((((Hb2.out.trans (h3.out.2.mono Hb2.out.size)).setCell (p := ⟨g, k * 3, none⟩) hge _).setCell (p := ⟨g, k * 3 + 1, none⟩) hge _).setCell (p := ⟨g, k * 3 + 2, none⟩) hge _).setCell (p := ⟨W1.heap.size, 0, none⟩) (Nat.le_of_lt hs1.out) _⟩

set_option maxRecDepth 100000 in
theorem with_sta_out (a : Option Addr) (n c : Nat) (i : Int) (hi : ¬(0 ≤ i ∧ i < n)) (p q : Int) (r : ByteArray) (w : World) :
    Calls Tryz.prog 50 #[.agg #[.slice a n c], .int .i64 i, .agg #[.int .i64 p, .int .i64 q, .string r]] w fun e w' => e = .returned (.agg #[.slice a n c]) ∧ Hid (Below w.heap.size w w') := by
  obtain ⟨W0, W1, W, hW0, hW1, hW, Hb, hs0, hs01, hs, Hx, Hp, Hy⟩ := box_new3 w 27 27 (.slice a n c) (.slice none 0 0) (.int .i64 p) (.int .i64 q) (.string r) 34
  have hs1 := Lib.hid (Nat.lt_trans hs0.out hs01.out)
  have hc0 := Hx.out.cell
  have Hh := Lib.hid (has_sta a n c i W)
  have e1 : (decide (0 ≤ i) && decide (i < (n : Int))) = false := by simpa using hi
  rw [e1] at Hh
  clear hi e1
  go_enter Tryz.func50, Tryz.ntmps50
  go_wp2_with (first
    | (go_at_call 61; refine Hh.out.mono ?_; rintro e w2 ⟨rfl, h2⟩; have hc2 := (boxed_below Hx.out h2.out (Nat.lt_trans hs1.out hs.out)).cell; have Hy2 := Lib.hid (boxed_below Hy.out h2.out hs.out); have Hb2 := Lib.hid (Hb.out.trans (h2.out.mono Hb.out.size)); have hy2 := Hy2.out.cell; have hyf := Hy2.out.frozen))
  refine bodyPost_ret (results_cell_row rfl _ _ W1.heap.size 27 #[.slice a n c] (0, 0) _ rfl (Hy2.out.set _) Tryz.underlying27 rfl (by kernel_rfl)) rfl ?_
  exact ⟨rfl, Hb2.out.setCell (p := ⟨W1.heap.size, 0, none⟩) (Nat.le_of_lt hs1.out) _⟩
end Go.Proofs.YtcjfcomadcebnaaGreatDoor

/- hist.Valid of objects without events. -/
namespace Go.Proofs.YtcjfcomadcebnaaGreatDoor
open Go.RowKit Go.Maps Go.WideMaps Go.WideElems Go.ChangeShapes Go.WideShapes
variable {T : TypeId} {er : Nat → Addr}

/-- Objects as cells. -/
def obs (os : List (Int × Int)) : List Value := os.flatMap fun o => [.int .i64 o.1, .int .i64 o.2]

theorem obs_get : ∀ (os : List (Int × Int)) (k : Nat) (h : k < os.length), (obs os)[k * 2]? = some (.int .i64 os[k].1) ∧ (obs os)[k * 2 + 1]? = some (.int .i64 os[k].2)
  | [], k, h => by simp at h
  | o :: os, 0, _ => ⟨rfl, rfl⟩
  | o :: os, k + 1, h => by
    have ih := obs_get os k (by simpa using h)
    have e : obs (o :: os) = .int .i64 o.1 :: .int .i64 o.2 :: obs os := rfl
    rw [e, show (k + 1) * 2 = k * 2 + 1 + 1 from by omega]
    simp only [List.getElem?_cons_succ, List.getElem_cons_succ]
    exact ih

set_option maxHeartbeats 1000000 in
set_option maxRecDepth 100000 in
theorem hvalid_ok (a : Option Addr) (c : Nat) (os : List (Int × Int)) (hn : os.length ≤ 8) (hv : ∀ o ∈ os, validO o.1 o.2 = true) (w : World) (h : SlAt w a (obs os)) (hG : Glob T er w) :
    Calls Tryz.prog 53 #[.agg #[.slice a os.length c, .slice none 0 0]] w fun e w' => e = .returned .nilIface ∧ Hid (Below w.heap.size w w') := by
  obtain ⟨n, hnn⟩ : ∃ n, os.length = n := ⟨_, rfl⟩
  rw [hnn] at hn ⊢
  obtain ⟨W, hW, Hb, hs, Hx⟩ := cells_new w #[.slice a n c, .slice none 0 0] 102
  have Hob : Hid (∀ k, k < n → ∀ W', Below W.heap.size W W' → ∃ b off p q, a = some ⟨b, off, none⟩ ∧ validO p q = true ∧ W'.cell? ⟨b, off + k * 2, none⟩ = some (.int .i64 p) ∧ W'.cell? ⟨b, off + k * 2 + 1, none⟩ = some (.int .i64 q)) := by
    intro k hk W' hb'
    have hk' : k < os.length := by omega
    have g0 : (obs os)[k * 2]? = some (.int .i64 os[k].1) := (obs_get os k hk').1
    have g1 : (obs os)[k * 2 + 1]? = some (.int .i64 os[k].2) := (obs_get os k hk').2
    rcases h with ⟨_, h0⟩ | ⟨b, off, rfl, hbl, hc⟩
    · rw [h0] at g0; simp at g0
    have hb2 : b < w.heap.size := hbl (by intro e; rw [e] at g0; simp at g0)
    refine ⟨b, off, _, _, rfl, hv _ (List.getElem_mem hk'), ?_, ?_⟩
    · exact (hb'.cell (p := ⟨b, off + k * 2, none⟩) (Nat.lt_trans hb2 hs.out)).trans ((Hb.out.cell (p := ⟨b, off + k * 2, none⟩) hb2).trans (hc _ _ g0))
    · exact (hb'.cell (p := ⟨b, off + (k * 2 + 1), none⟩) (Nat.lt_trans hb2 hs.out)).trans ((Hb.out.cell (p := ⟨b, off + (k * 2 + 1), none⟩) hb2).trans (hc _ _ g1))
  have HGW := Lib.hid (hG.below' Hb.out)
  clear h hv hG
  have x0 : W.cell? ⟨w.heap.size, 0, none⟩ = some (.slice a n c) := (cell_of_row _ _ 0 _ _ _ Hx.out).trans rfl
  have x1 : W.cell? ⟨w.heap.size, 1, none⟩ = some (.slice none 0 0) := (cell_of_row _ _ 1 _ _ _ Hx.out).trans rfl
  have hd8 : decide (8 < (n : Int)) = false := by simp; omega
  go_enter Tryz.func53, Tryz.ntmps53
  go_wp2_with fail
  go_loopw [23] (fun i wr => ∃ k : Nat, k ≤ n ∧ i = .int .i64 k ∧ Hid (Below W.heap.size W wr)) (fun i _ => n - (intOf i).toNat)
  case atStart => exact ⟨0, Nat.zero_le _, rfl, Below.refl _ _⟩
  case round =>
    obtain ⟨k, hk, rfl, Hr⟩ := hrel
    by_cases hlt : k < n
    · obtain ⟨b, off, p, q, rfl, hvv, c0, c1⟩ := Hob.out k hlt wr Hr.out
      have hval : validOV T er p q = .nilIface := by unfold validOV; rw [hvv]; rfl
      have HV := Lib.hid (fun W' (hb : Below W.heap.size W W') => hval ▸ validObject_any (T := T) (er := er) p q W' (HGW.out.below hb HGW.out.size))
      clear hval hvv
      have HA : Hid (Below W.heap.size W (wr.alloc (.cells #[.int .i64 p, .int .i64 q] 83))) := Hr.out.alloc Hr.out.size _
      go_wp2_with (first | (go_at_call 71; refine (HV.out _ HA.out).mono ?_; rintro e w2 ⟨rfl, h2⟩))
      have Hr2 : Hid (Below W.heap.size W w2) := HA.out.trans (h2.out.mono HA.out.size)
      clear Hr HA h2 c0 c1
      go_roundw
      case rel => exact ⟨k + 1, by omega, by go_num, Hr2.out⟩
      case measure => simp [intOf]; omega
    · have hkn : k = n := by omega
      subst hkn
      have y1 : wr.cell? ⟨w.heap.size, 1, none⟩ = some (.slice none 0 0) := (Hr.out.cell (p := ⟨w.heap.size, 1, none⟩) hs.out).trans x1
      go_wp2_with fail
      refine wp_loop_rounds 1 ?_
      rw [rounds_succ]
      go_wp2_with fail
      go_ret
      exact ⟨rfl, Hb.out.trans (Hr.out.mono Hb.out.size)⟩
end Go.Proofs.YtcjfcomadcebnaaGreatDoor

/- store.New of fit objects. -/
namespace Go.Proofs.YtcjfcomadcebnaaGreatDoor
open Go.RowKit Go.Maps Go.WideMaps Go.WideElems Go.ChangeShapes Go.WideShapes
variable {T : TypeId} {er : Nat → Addr}

/-- What holds once a state lies in its box, ahead of And. -/
structure Placed5 (w2 W3 : World) (B : Nat) (a' : Option Addr) (k c' : Nat) (xs : List Value) (p q : Int) (V5 : World) : Prop where
  box : Boxed V5 w2.heap.size 29 (.slice a' k c')
  row : V5.heap[B]? = some (.cells #[.int .i64 p, .int .i64 q, .string ⟨#[]⟩] 34)
  below : Below w2.heap.size w2 V5
  own : V5.ownsRow W3.heap.size 34 3 (.slice a' k c') k xs
  size : W3.heap.size ≤ V5.heap.size
theorem ownsRow_below {W W' : World} {B e size n : Nat} {v : Value} {xs : List Value} (h : W.ownsRow B e size v n xs) (hb : Below W.heap.size W W') : W'.ownsRow B e size v n xs :=
  ⟨h.1, h.2.imp id fun ⟨g, cap, cur, e, hB, hg, r⟩ => ⟨g, cap, cur, e, hB, (hb.block g (Array.getElem?_eq_some_iff.1 hg).1).trans hg, r⟩⟩
theorem placed5 {w2 W3 A w4 : World} {a' : Option Addr} {k c' : Nat} {xs : List Value} {p q : Int} (hs3 : w2.heap.size < W3.heap.size) (hA : Below w2.heap.size w2 A) (hB : Boxed A w2.heap.size 29 (.slice a' k c')) (hr : A.ownsRow W3.heap.size 34 3 (.slice a' k c') k xs) (hA3 : W3.heap.size ≤ A.heap.size) (h4 : Below A.heap.size A w4) :
    ∃ W5 V5, w4.alloc (.cells #[.int .i64 p, .int .i64 q, .string ⟨#[]⟩] 34) = W5 ∧ W5.setCell ⟨w4.heap.size, 2, none⟩ (.string ⟨#[]⟩) = V5 ∧ (W5.cell? ⟨w4.heap.size, 2, none⟩ = some (.string ⟨#[]⟩) ∧ W5.frozen? ⟨w4.heap.size, 2, none⟩ = false) ∧ Hid (Placed5 w2 W3 w4.heap.size a' k c' xs p q V5) := by
  obtain ⟨W5, hW5, Hb5, hs5, Hp5⟩ := cells_new w4 #[.int .i64 p, .int .i64 q, .string ⟨#[]⟩] 34
  have h24 : w2.heap.size < w4.heap.size := Nat.lt_of_lt_of_le (Nat.lt_of_lt_of_le hs3 hA3) h4.size
  have hr5 : W5.ownsRow W3.heap.size 34 3 (.slice a' k c') k xs := ownsRow_below (ownsRow_below hr h4) Hb5.out
  have hr4 := ownsRow_below hr h4
  refine ⟨W5, _, hW5, rfl, ⟨(row_three Hp5.out).2.2, frozen_of_row _ _ 2 _ _ Hp5.out⟩, ?_, heap_setCell_same W5 _ 2 _ _ _ Hp5.out, ?_, ?_, ?_⟩
  · exact boxed_setCell (boxed_below (boxed_below hB h4 (Nat.lt_of_lt_of_le hs3 hA3)) Hb5.out h24) (Nat.ne_of_gt h24) _
  · exact ((hA.trans (h4.mono hA.size)).trans (Hb5.out.mono (Nat.le_of_lt h24))).setCell (p := ⟨w4.heap.size, 2, none⟩) (Nat.le_of_lt h24) _
  · refine ⟨hr5.1, hr5.2.imp id ?_⟩
    rintro ⟨g, cap, cur, e, hB, hg, r⟩
    rcases hr4.2 with ⟨e', _⟩ | ⟨g', cap', cur', e', _, hg', _⟩
    · rw [e] at e'; cases e'
    · rw [e] at e'; cases e'
      exact ⟨g, cap, cur, e, hB, (Below.heap_setCell _ _ _ _ (by have := (Array.getElem?_eq_some_iff.1 hg').1; show g ≠ w4.heap.size; omega)).trans hg, r⟩
  · exact Nat.le_trans hA3 (Nat.le_trans h4.size (Nat.le_trans Hb5.out.size ((Below.refl 0 W5).setCell (p := ⟨w4.heap.size, 2, none⟩) (Nat.zero_le _) _).size))

/-- The states of objects, as cells. -/
def stc (os : List (Int × Int)) : List Value := os.flatMap fun o => [.int .i64 o.1, .int .i64 o.2, .string ⟨#[]⟩]
theorem stc_len (os : List (Int × Int)) : (stc os).length = os.length * 3 := by
  induction os with
  | nil => rfl
  | cons o os ih => show (_ :: _ :: _ :: stc os).length = _; simp [ih]; omega
theorem stc_one (os : List (Int × Int)) : ∀ u ∈ stc os, u.oneCell' = true := by
  intro u hu
  simp [stc] at hu
  rcases hu with ⟨_, _, _, rfl | rfl | rfl⟩ <;> rfl
theorem stc_succ (os : List (Int × Int)) (k : Nat) (h : k < os.length) : stc (os.take (k + 1)) = stc (os.take k) ++ [.int .i64 os[k].1, .int .i64 os[k].2, .string ⟨#[]⟩] := by
  show List.flatMap _ (os.take (k + 1)) = _
  rw [List.take_succ_eq_append_getElem h, List.flatMap_append]
  rfl
theorem row_sl0 {W : World} {B : Nat} {e : TypeId} {size n c : Nat} {a : Option Addr} {xs : List Value} (h : W.ownsRow B e size (.slice a n c) n xs) : SlAt W a xs ∧ (a = none → c = 0) := by
  obtain ⟨a', c', e', hs, _⟩ := row_sl h
  cases e'
  refine ⟨hs, fun ha => ?_⟩
  rcases h.2 with ⟨e1, _⟩ | ⟨g, cap, cur, e1, _⟩
  · cases e1; rfl
  · subst ha; cases e1

set_option maxHeartbeats 1000000 in
set_option maxRecDepth 100000 in
theorem snew_ok (a : Option Addr) (c : Nat) (os : List (Int × Int)) (hn : os.length ≤ 8) (hv : ∀ o ∈ os, validO o.1 o.2 = true) (w : World) (h : SlAt w a (obs os)) (hG : Glob T er w) :
    Calls Tryz.prog 34 #[.slice a os.length c] w fun e w' => ∃ v', e = .returned (.tuple #[.agg #[v'], .nilIface]) ∧ Hid (w'.ownsRow w.heap.size 34 3 v' os.length (stc os) ∧ Below w.heap.size w w') := by
  have HV := Lib.hid (fun W' (hb : Below w.heap.size w W') => hvalid_ok (T := T) (er := er) a c os hn hv W' (h.below hb) (hG.below' hb))
  obtain ⟨n, hnn⟩ : ∃ n, os.length = n := ⟨_, rfl⟩
  rw [hnn] at hn HV ⊢
  obtain ⟨W, hW, Hb, hs, Hx⟩ := box_new w 29 (.slice none 0 0)
  go_enter Tryz.func34, Tryz.ntmps34
  go_wp2_with (first | (go_at_call 53; refine (HV.out _ Hb.out).mono ?_; rintro e w2 ⟨rfl, h2⟩; obtain ⟨W3, hW3, Hb3, hs3, Hs⟩ := box_new w2 29 (.slice none 0 0)))
  have Hw3 : Hid (Below w.heap.size w W3) := (Hb.out.trans (h2.out.mono Hb.out.size)).trans (Hb3.out.mono (Nat.le_trans Hb.out.size h2.out.size))
  have Hob : Hid (∀ k, k < n → ∀ W', Below w2.heap.size w2 W' → ∃ b off p q, a = some ⟨b, off, none⟩ ∧ validO p q = true ∧ os[k]? = some (p, q) ∧ W'.cell? ⟨b, off + k * 2, none⟩ = some (.int .i64 p) ∧ W'.cell? ⟨b, off + k * 2 + 1, none⟩ = some (.int .i64 q)) := by
    intro k hk W' hb'
    have hk' : k < os.length := by omega
    obtain ⟨g0, g1⟩ := obs_get os k hk'
    have hbb : Below w.heap.size w W' := (Hb.out.trans (h2.out.mono Hb.out.size)).trans (hb'.mono (Nat.le_trans Hb.out.size h2.out.size))
    rcases h with ⟨_, h0⟩ | ⟨b, off, rfl, hbl, hc⟩
    · rw [h0] at g0; simp at g0
    have hb2 : b < w.heap.size := hbl (by intro e; rw [e] at g0; simp at g0)
    exact ⟨b, off, _, _, rfl, hv _ (List.getElem_mem hk'), List.getElem?_eq_getElem hk', (hbb.cell (p := ⟨b, off + k * 2, none⟩) hb2).trans (hc _ _ g0), (hbb.cell (p := ⟨b, off + (k * 2 + 1), none⟩) hb2).trans (hc _ _ g1)⟩
  have HG2 := Lib.hid ((hG.below' Hb.out).below' h2.out)
  clear h hv hG
  go_loopw [19] (fun i wr => ∃ (k : Nat) (a' : Option Addr) (c' : Nat), k ≤ n ∧ i = .int .i64 k ∧ Hid (wr.ownsRow W3.heap.size 34 3 (.slice a' k c') k (stc (os.take k))) ∧ Hid (Boxed wr w2.heap.size 29 (.slice a' k c')) ∧ Hid (Below w2.heap.size w2 wr) ∧ Hid (W3.heap.size ≤ wr.heap.size)) (fun i _ => n - (intOf i).toNat)
  case atStart => exact ⟨0, none, 0, Nat.zero_le _, rfl, World.ownsRow_nil _ _ _ _, Hs.out, Hb3.out, Nat.le_refl _⟩
  case round =>
    obtain ⟨k, a', c', hk, rfl, Hrow, HB, Hr, Hz⟩ := hrel
    by_cases hlt : k < n
    · obtain ⟨b, off, p, q, rfl, hvv, hos, c0, c1⟩ := Hob.out k hlt wr Hr.out
      have hval : newV T er p q = .tuple #[stv p q [], .nilIface] := by unfold newV; rw [hvv]; rfl
      have HN := Lib.hid (fun W' (hb : Below w2.heap.size w2 W') => hval ▸ new_any (T := T) (er := er) p q W' (HG2.out.below' hb))
      clear hval hvv
      have HA : Hid (Below w2.heap.size w2 (wr.alloc (.cells #[.int .i64 p, .int .i64 q] 83))) := Hr.out.alloc Hr.out.size _
      have HBA : Hid (Boxed (wr.alloc (.cells #[.int .i64 p, .int .i64 q] 83)) w2.heap.size 29 (.slice a' k c')) := HB.out.alloc _
      have Hrow2 := Lib.hid (Hrow.out.alloc (.cells #[.int .i64 p, .int .i64 q] 83))
      have hA3 : Hid (W3.heap.size ≤ (wr.alloc (.cells #[.int .i64 p, .int .i64 q] 83)).heap.size) := by show _ ≤ _; simp; exact Nat.le_trans Hz.out (Nat.le_succ _)
      have Hkn : Hid (k < os.length ∧ (os.take k).length = k ∧ k ≤ 8) := ⟨by omega, by simp; omega, by omega⟩
      have Hos := Lib.hid hos
      clear hos
      go_wp2_with (first
        | (go_at_call 54; refine (HN.out _ HA.out).mono ?_; rintro e w4 ⟨rfl, h4⟩; obtain ⟨W5, V5, hW5, hV5, ⟨k2, k3⟩, H5⟩ := placed5 (p := p) (q := q) hs3.out HA.out HBA.out Hrow2.out hA3.out h4.out; obtain ⟨y0, y1, y2⟩ := row_three H5.out.row; have b5 := H5.out.box.cell)
        | (go_at_call 55; obtain ⟨hsl, hcz⟩ := row_sl0 H5.out.own; refine (and_sta a' k c' (stc (os.take k)) (by rw [stc_len, Hkn.out.2.1]) (stc_one _) (by have := Hkn.out.2.2; omega) p q ⟨#[]⟩ V5 hsl hcz).mono ?_; clear hsl hcz; rintro e w6 ⟨v6, rfl, h6⟩; obtain ⟨a6, c6, rfl, -, -⟩ := row_sl h6.out.1; have H6 := Lib.hid (boxed_below H5.out.box h6.out.2 (Nat.lt_of_lt_of_le hs3.out H5.out.size)); have b6 := H6.out.cell; have f6 := H6.out.frozen))
      have Hfin : Hid ((w6.setCell ⟨w2.heap.size, 0, none⟩ (.slice a6 (k + 1) c6)).ownsRow W3.heap.size 34 3 (.slice a6 (k + 1) c6) (k + 1) (stc (os.take (k + 1)))) := by
        show World.ownsRow _ _ _ _ _ _ _
        have e7 : os[k] = (p, q) := by have h9 := Hos.out; rw [List.getElem?_eq_getElem Hkn.out.1] at h9; exact Option.some.inj h9
        rw [stc_succ os k Hkn.out.1, e7]
        exact ownsRow_setCell_below (row_base h6.out.1 H5.out.size) hs3.out _
      have HBf : Hid (Boxed (w6.setCell ⟨w2.heap.size, 0, none⟩ (.slice a6 (k + 1) c6)) w2.heap.size 29 (.slice a6 (k + 1) c6)) := H6.out.set _
      have Hrf : Hid (Below w2.heap.size w2 (w6.setCell ⟨w2.heap.size, 0, none⟩ (.slice a6 (k + 1) c6))) := (H5.out.below.trans (h6.out.2.mono H5.out.below.size)).setCell (p := ⟨w2.heap.size, 0, none⟩) (Nat.le_refl _) _
      have Hzf : Hid (W3.heap.size ≤ (w6.setCell ⟨w2.heap.size, 0, none⟩ (.slice a6 (k + 1) c6)).heap.size) := Nat.le_trans H5.out.size (Nat.le_trans h6.out.2.size ((Below.refl 0 w6).setCell (p := ⟨w2.heap.size, 0, none⟩) (Nat.zero_le _) _).size)
      clear H5 h6 H6 HB Hr Hrow Hz HA HBA Hrow2 hA3 h4 HN
      go_roundw
      case rel => exact ⟨k + 1, a6, c6, by omega, by go_num, Hfin.out, HBf.out, Hrf.out, Hzf.out⟩
      case measure => simp [intOf]; omega
    · have hkn : k = n := by omega
      have hfull : os.take k = os := List.take_of_length_le (by omega)
      rw [hfull] at Hrow
      have HX : Hid (Boxed wr w.heap.size 29 (.slice none 0 0)) := boxed_below (boxed_below Hx.out h2.out hs.out) Hr.out (Nat.lt_of_lt_of_le hs.out h2.out.size)
      have q0 := HB.out.cell
      have q1 := HX.out.cell
      have q2 := HX.out.frozen
      clear hfull
      subst hkn
      go_wp2_with fail
      refine bodyPost_ret (results_row_tmp rfl _ _ w.heap.size 29 #[.slice a' k c'] (0, 0) _ rfl (HX.out.set _) Tryz.underlying29 rfl (by kernel_rfl)) rfl ?_
      have hlt3 : w.heap.size < W3.heap.size := Nat.lt_of_lt_of_le hs.out (Nat.le_trans h2.out.size (Nat.le_of_lt hs3.out))
      refine ⟨_, rfl, row_base (ownsRow_setCell_below Hrow.out hlt3 _) (Nat.le_of_lt hlt3), ?_⟩
      exact (((Hb.out.trans (h2.out.mono Hb.out.size)).trans (Hr.out.mono (Nat.le_trans Hb.out.size h2.out.size)))).setCell (p := ⟨w.heap.size, 0, none⟩) (Nat.le_refl _) _
end Go.Proofs.YtcjfcomadcebnaaGreatDoor

/- store.Do at no object. -/
namespace Go.Proofs.YtcjfcomadcebnaaGreatDoor
open Go.RowKit Go.Maps Go.WideMaps Go.WideElems Go.ChangeShapes Go.WideShapes
variable {T : TypeId} {er : Nat → Addr}

theorem results_row_tmp3 {P : Program} {fn : Func} {p u1 u2 u3 : Tmp} {ty : TypeId} (h : fn.results = #[.cell p ty, .tmp u1, .tmp u2, .tmp u3]) (tmps : Array Value) (w : World) (g : Nat) (t : TypeId) (cs : Array Value) (fr : Nat × Nat) (d : TypeDesc)
    (hp : tmps.getD p undef = .pointer (some ⟨g, 0, none⟩)) (hg : w.heap[g]? = some (.cells cs t fr))
    (hu : P.underlying ty = some d) (hd : (match d with | .struct _ | .array _ _ => true | _ => false) = true) (hi : (P.info? ty).map (·.size) = some cs.size) :
    (results fn tmps).run P w = .ok (.tuple #[.agg cs, tmps.getD u1 undef, tmps.getD u2 undef, tmps.getD u3 undef]) w := by
  have hp' : tmps[p]?.getD undef = .pointer (some ⟨g, 0, none⟩) := by simpa using hp
  simp only [results, h]
  simp [hp', asAddr, run_loadVar_row w g t ty cs fr d hg hu hd hi, Result.andThen]

/-- The zero state laid in a new box: all three cells written once more. -/
theorem zero_box (w : World) : ∃ W5 V5, w.alloc (.cells #[.int .i64 0, .int .i64 0, .string ⟨#[]⟩] 34) = W5 ∧ ((W5.setCell ⟨w.heap.size, 0, none⟩ (.int .i64 0)).setCell ⟨w.heap.size, 1, none⟩ (.int .i64 0)).setCell ⟨w.heap.size, 2, none⟩ (.string ⟨#[]⟩) = V5 ∧
    ((W5.cell? ⟨w.heap.size, 0, none⟩ = some (.int .i64 0) ∧ W5.frozen? ⟨w.heap.size, 0, none⟩ = false) ∧
    ((W5.setCell ⟨w.heap.size, 0, none⟩ (.int .i64 0)).cell? ⟨w.heap.size, 1, none⟩ = some (.int .i64 0) ∧ (W5.setCell ⟨w.heap.size, 0, none⟩ (.int .i64 0)).frozen? ⟨w.heap.size, 1, none⟩ = false) ∧
    (((W5.setCell ⟨w.heap.size, 0, none⟩ (.int .i64 0)).setCell ⟨w.heap.size, 1, none⟩ (.int .i64 0)).cell? ⟨w.heap.size, 2, none⟩ = some (.string ⟨#[]⟩) ∧ ((W5.setCell ⟨w.heap.size, 0, none⟩ (.int .i64 0)).setCell ⟨w.heap.size, 1, none⟩ (.int .i64 0)).frozen? ⟨w.heap.size, 2, none⟩ = false)) ∧
    Hid (Below w.heap.size w V5) := by
  obtain ⟨W5, hW5, Hb5, hs5, Hp5⟩ := cells_new w #[.int .i64 0, .int .i64 0, .string ⟨#[]⟩] 34
  obtain ⟨f0, f1, f2, _⟩ := row_set3 Hp5.out (.int .i64 0) (.int .i64 0) (.string ⟨#[]⟩)
  exact ⟨W5, _, hW5, rfl, ⟨f0, f1, f2⟩, ((Hb5.out.setCell (p := ⟨w.heap.size, 0, none⟩) (Nat.le_refl _) _).setCell (p := ⟨w.heap.size, 1, none⟩) (Nat.le_refl _) _).setCell (p := ⟨w.heap.size, 2, none⟩) (Nat.le_refl _) _⟩

set_option maxHeartbeats 1000000 in
set_option maxRecDepth 100000 in
theorem sdo_out (a : Option Addr) (n c : Nat) (i op key val : Int) (hi : ¬(0 ≤ i ∧ i < n)) (w : World) (hG : Glob T er w) :
    Calls Tryz.prog 31 #[.agg #[.slice a n c], .int .i64 i, .int .i64 op, .int .i64 key, .int .i64 val] w fun e w' => e = .returned (.tuple #[.agg #[.slice none 0 0], .int .i64 0, .int .i64 0, errE T er 3]) ∧ Hid (Below w.heap.size w w') := by
  obtain ⟨W1, W, hW1, hW, Hb, hs1, hs, Hx, Hy⟩ := box_new2 w 29 29 (.slice a n c) (.slice none 0 0)
  have x0 := Hx.out.cell
  have HA := Lib.hid (at_sta_out a n c i hi W)
  have HG := Lib.hid (hG.below' Hb.out)
  clear hi hG
  go_enter Tryz.func31, Tryz.ntmps31
  go_wp2_with (first | (go_at_call 38; refine HA.out.mono ?_; rintro e w2 ⟨rfl, h2⟩; obtain ⟨W5, W3, hW5, hW3, ⟨⟨k0, k1⟩, ⟨k2, k3⟩, ⟨k4, k5⟩⟩, Hb3⟩ := zero_box w2; have HX3 := Lib.hid (boxed_below (boxed_below Hy.out h2.out hs.out) Hb3.out (Nat.lt_of_lt_of_le hs.out h2.out.size)); have b0 := HX3.out.cell; have b1 := HX3.out.frozen; have e3 := ((HG.out.below' h2.out).below' Hb3.out).eObject))
  have b0' : W3.drew.cell? ⟨W1.heap.size, 0, none⟩ = some (.slice none 0 0) := b0
  have b1' : W3.drew.frozen? ⟨W1.heap.size, 0, none⟩ = false := b1
  have e3' : W3.drew.cell? ⟨0, 0, none⟩ = some (errE T er 3) := e3
  have hne : (0 : Nat) ≠ W1.heap.size := by have := HG.out.size; have h9 := hs.out; have h8 := hs1.out; omega
  have e4 : (W3.drew.setCell ⟨W1.heap.size, 0, none⟩ (.slice none 0 0)).cell? ⟨0, 0, none⟩ = some (errE T er 3) := (World.cell?_of_block (w := W3.drew) (Below.heap_setCell _ _ _ _ hne)).trans e3'
  have e5 : (W3.setCell ⟨W1.heap.size, 0, none⟩ (.slice none 0 0)).cell? ⟨0, 0, none⟩ = some (errE T er 3) := e4
  have HXd : Hid (Boxed W3.drew W1.heap.size 29 (.slice none 0 0)) := HX3.out
  have Hend : Hid (Below w.heap.size w (W3.drew.setCell ⟨W1.heap.size, 0, none⟩ (.slice none 0 0))) := (((Hb.out.trans (h2.out.mono Hb.out.size)).trans (Hb3.out.mono (Nat.le_trans Hb.out.size h2.out.size))).drew).setCell (p := ⟨W1.heap.size, 0, none⟩) (Nat.le_of_lt hs1.out) _
  go_region_with (fail)
  all_goals
    go_wp2_with fail
    refine bodyPost_ret (results_row_tmp3 rfl _ _ W1.heap.size 29 #[.slice none 0 0] (0, 0) _ rfl (HXd.out.set _) Tryz.underlying29 rfl (by kernel_rfl)) rfl ?_
    exact ⟨rfl, Hend.out⟩
end Go.Proofs.YtcjfcomadcebnaaGreatDoor

/- A loop over an iterator that writes a cell of its own between the rounds: a law. -/
namespace Go.Proofs.YtcjfcomadcebnaaGreatDoor
open Go.RowKit

theorem own_of_below {β : Type} {n B : Nat} (hB : n ≤ B) {I : β → World → Prop} (hsz : ∀ x W, I x W → n ≤ W.heap.size) (h : ∀ x W W', I x W → Below n W W' → I x W') : OwnFrom B I :=
  fun x W W' _ hs hg hr => h x W W' hs ((Below.refl n W).grown hg (hsz x W hs) (fun k e => Nat.le_trans hB (hr k e).1))
theorem keeps_below {W W' : World} (h : Below W.heap.size W W') : KeepsOthers W W' := ⟨h.size, fun k _ hk _ => (h.block k (Array.getElem?_eq_some_iff.1 hk).1).trans hk⟩

/-- What an iterator hands to a loop; between two rounds it may turn the world by Tr. -/
def SeqC {α : Type} (F : Fence) (n : Nat) (P : Program) (g : Nat) (lb : Array Value) (encs : α → Array Value) (Kp Tr : World → World → Prop) (S Sp : List α → Prop) (N : Nat) (w : World) : Prop :=
  ∀ (l : Nat) (J Jx : List α → World → Prop) (W : World), Below w.heap.size w W → (∀ s A B, J s A → Tr A B → J s B) →
    (∀ pre x W1, J pre W1 → pre.length < N → YieldAt F (n - 1) P l (encs x) W1 fun e W' => (e = .returned (.bool true) ∧ J (pre ++ [x]) W' ∧ Kp W1 W') ∨ (e = .returned (.bool false) ∧ Jx (pre ++ [x]) W')) →
    J [] W → CallsIn F n P g (#[.func (.yield l) #[] #[]] ++ lb) W fun e W' => (∃ v, e = .returned v) ∧ ((∃ xs, S xs ∧ J xs W') ∨ (∃ pre, Sp pre ∧ Jx pre W'))

section
variable {F : Fence} {n : Nat} {P : Program}

/-- The record of a loop lies, and the block of its deferred calls. -/
structure RecAt (b : Nat) (r : Loop) (W : World) : Prop where
  loop : W.heap[b + 1]? = some (.loop r)
  defs : W.heap[b]? = some (.deferred (some []))
theorem RecAt.keeps {b : Nat} {r : Loop} {W W' : World} (h : RecAt b r W) (k : KeepsOthers W W') : RecAt b r W' := ⟨k.same _ _ h.loop rfl, k.same _ _ h.defs rfl⟩
theorem RecAt.put {b : Nat} {r r' : Loop} {W : World} (h : RecAt b r W) : RecAt b r' (W.putObj (b + 1) (.loop r')) :=
  ⟨World.putObj_heap_same (Array.getElem?_eq_some_iff.1 h.loop).1, (World.putObj_heap_other (by omega)).trans h.defs⟩

theorem rangeFunc_c {α : Type} {g : Operand} {ps : Array Tmp} {assign body : Code} {Q : Exit → Act → World → Prop} {a : Act} {w : World} (hro : F.round = none) (h1 : 1 ≤ n) {gf : Nat} {lb : Array Value} (hg : a.eval g = .func (.func gf) #[] lb) (hFg : F.fn gf)
    (eg : ∀ args w, (callFunc gf args).run P w = .ok (.enter gf args) w) {encs : α → Array Value} {Kp Tr : World → World → Prop} {S Sp : List α → Prop} {N : Nat} {w0 : World} (hseq : SeqC F (n - 1) P gf lb encs Kp Tr S Sp N w0)
    (hTr : ∀ A B, Tr A B → KeepsOthers A B) (hKt : ∀ {A B C : World}, Kp A B → Kp B C → Kp A C) (hKb : ∀ (W : World) (o : Obj), w.heap.size + 1 < W.heap.size → Kp W (W.putObj (w.heap.size + 1) o)) (hb0 : Below w0.heap.size w0 w) (hps : ∀ x, (encs x).size = ps.size)
    (I : List α → World → Prop) (Ix : Code → List α → World → Prop) (hI : OwnFrom w.heap.size I) (hIT : ∀ s A B, I s A → Tr A B → I s B) (hIx : ∀ c, OwnFrom w.heap.size (Ix c)) (h0 : I [] w) (a₁ : α → Act)
    (hassign : ∀ (l : Nat) (x : α) (W : World) (K : Act → World → Prop), K (a₁ x) W → assign.wpIn (F.inRound l) (n - 1 - 1) P (Exit.then K (fun _ _ _ => False)) { tmps := (ps.zip (encs x)).foldl (fun t (p, v) => t.setIfInBounds p v) a.tmps, defers := [] } W)
    (hbody : ∀ (l : Nat) (pre : List α) (x : α) (W : World), I pre W → pre.length < N → body.wpIn (F.inRound l) (n - 1 - 1) P (ownPostK Kp I Ix (pre ++ [x]) W) (a₁ x) W)
    (hdone : ∀ (D : Nat) (xs : List α) (W : World), w.heap.size ≤ D → S xs → I xs W → W.heap[D]? = some (.deferred (some [])) → Q .normal { a with defers := { target := .collected D, args := #[] } :: a.defers } W)
    (hstop : ∀ (D : Nat) (c : Code) (pre : List α) (W : World), w.heap.size ≤ D → Sp pre → Ix c pre W → W.heap[D]? = some (.deferred (some [])) → c.wpIn F n P Q { a with defers := { target := .collected D, args := #[] } :: a.defers } W) :
    (Code.rangeFunc g ps assign body).wpIn F n P Q a w := by
  refine wpIn_rangeFunc fun fn hfn => ?_
  rw [hro]
  obtain ⟨rc, hrc⟩ : ∃ rc : LoopState → Option Code → Loop, rc = fun st pe => { state := st, pending := pe, fn, tmps := a.tmps, params := ps, assign, body, defers := w.heap.size } := ⟨_, rfl⟩
  have hbz : w.heap.size < (w.alloc (.deferred (some []))).heap.size := by simp
  obtain ⟨V, hV⟩ : ∃ V, (w.alloc (.deferred (some []))).alloc (.loop (rc .ready none)) = V := ⟨_, rfl⟩
  have hR0 : RecAt w.heap.size (rc .ready none) V := by
    subst hV
    refine ⟨?_, (Below.heap_alloc _ _ _ hbz).trans (World.alloc_heap_new w _)⟩
    have h := World.alloc_heap_new (w.alloc (.deferred (some []))) (.loop (rc .ready none))
    rwa [World.size_alloc] at h
  have hIV : I [] V := by subst hV; exact hI.alloc _ (hI.alloc _ h0)
  have hbV : Below w0.heap.size w0 V := by subst hV; exact hb0.trans ((((Below.refl _ w).alloc (Nat.le_refl _) _).alloc (Nat.le_of_lt hbz) _).mono hb0.size)
  -- The record is turned: what the caller holds, holds.
  have turn : ∀ {s W r} (r' : Loop), I s W → RecAt w.heap.size r W → I s (W.putObj (w.heap.size + 1) (.loop r')) := fun r' hi hr => hI.putObj _ hi (Nat.le_succ _) hr.loop rfl
  have turnx : ∀ {c s W r} (r' : Loop), Ix c s W → RecAt w.heap.size r W → Ix c s (W.putObj (w.heap.size + 1) (.loop r')) := fun r' hi hr => (hIx _).putObj _ hi (Nat.le_succ _) hr.loop rfl
  have lt : ∀ {r W}, RecAt w.heap.size r W → w.heap.size + 1 < W.heap.size := fun h => (Array.getElem?_eq_some_iff.1 h.loop).1
  refine ⟨w.heap.size + 1, [{ target := .collected w.heap.size, args := #[] }], V, { target := .fn (.func gf) lb, args := #[.func (.yield (w.heap.size + 1)) #[] #[]] }, V, gf, #[.func (.yield (w.heap.size + 1)) #[] #[]] ++ lb, V, ?_, ?_, ?_, ?_, fun _ => h1, ?_⟩
  · subst hV; rw [hrc]; exact run_enterLoop_outer _ _ _ _ _
  · simp only [resolve, hg]
    simp [go_sem]
  · intro f' hf'
    simp [Target.leads] at hf'
    subst hf'
    exact hFg
  · simp [invoke, go_sem, eg]
  refine (hseq (w.heap.size + 1) (fun pre W => I pre W ∧ RecAt w.heap.size (rc .ready none) W) (fun pre W => ∃ c, Ix c pre W ∧ RecAt w.heap.size (rc .done (some c)) W) V hbV (fun s A B h ht => ⟨hIT s A B h.1 ht, h.2.keeps (hTr A B ht)⟩) ?_ ⟨hIV, hR0⟩).mono ?_
  · rintro pre x W ⟨hi, hr⟩ hlen
    have hy := run_yield (P := P) (args := encs x) hr.loop (by rw [hrc]; exact hps x)
    rw [hrc] at hy
    refine ⟨fn, _, assign, body, hy, roundIn_of_wpIn hfn (hassign _ x W _ ⟨_, run_beginRound hr.loop (by rw [hrc]), ?_⟩)⟩
    obtain ⟨bz, hbz'⟩ : ∃ bz, bz = { rc .ready none with state := .busy } := ⟨_, rfl⟩
    rw [← hbz']
    have hr2 : RecAt w.heap.size bz (W.putObj (w.heap.size + 1) (.loop bz)) := hr.put
    have hk2 := hKb W (.loop bz) (lt hr)
    refine wpIn_mono (hbody _ pre x _ (turn bz hi hr) hlen) ?_
    have out : ∀ (jump : Option Code) (W3 : World), KeepsOthers (W.putObj (w.heap.size + 1) (.loop bz)) W3 → RecAt w.heap.size bz W3 ∧ (Instr.endRound (w.heap.size + 1) jump).run P W3 = .ok (.bool jump.isNone) (W3.putObj (w.heap.size + 1) (.loop (rc (if jump.isNone then .ready else .done) jump))) := fun jump W3 k => by
      have h3 := hr2.keeps k
      refine ⟨h3, ?_⟩
      have h := run_endRound (P := P) jump h3.loop
      rw [hbz', hrc] at h
      rw [hrc]
      exact h
    rintro e a3 W3 hp
    cases e with
    | normal =>
      obtain ⟨k, hkp, hi3⟩ := hp
      obtain ⟨h3, hrun⟩ := out none W3 k
      exact ⟨_, _, hrun, .inl ⟨rfl, ⟨turn _ hi3 h3, h3.put⟩, hKt (hKt hk2 hkp) (hKb _ _ (lt h3))⟩⟩
    | ret =>
      obtain ⟨k, hi3⟩ := hp
      obtain ⟨h3, hrun⟩ := out (some .ret) W3 k
      exact ⟨_, _, hrun, .inr ⟨rfl, .ret, turnx _ hi3 h3, h3.put⟩⟩
    | exit id =>
      obtain ⟨k, hi3⟩ := hp
      obtain ⟨h3, hrun⟩ := out (some (.exit id)) W3 k
      exact ⟨_, _, hrun, .inr ⟨rfl, .exit id, turnx _ hi3 h3, h3.put⟩⟩
    | goto t =>
      obtain ⟨k, hi3⟩ := hp
      obtain ⟨h3, hrun⟩ := out (some (.goto t)) W3 k
      exact ⟨_, _, hrun, .inr ⟨rfl, .goto t, turnx _ hi3 h3, h3.put⟩⟩
    | panic ch => exact hp.elim
    | outgrown => exact hp.elim
  · rintro e W2 ⟨⟨v, rfl⟩, (⟨xs, hS, hi, hr⟩ | ⟨pre, hSp, c, hi, hr⟩)⟩
    · have h : (Instr.endLoop (w.heap.size + 1)).run P W2 = .ok none (W2.putObj (w.heap.size + 1) (.loop (rc .exhausted none))) := by
        have h := run_endLoop (P := P) hr.loop (by rw [hrc]; simp)
        rw [hrc] at h; rw [hrc]; exact h
      exact ⟨none, _, h, hdone _ xs _ (Nat.le_refl _) hS (turn _ hi hr) ((World.putObj_heap_other (by omega)).trans hr.defs)⟩
    · have h : (Instr.endLoop (w.heap.size + 1)).run P W2 = .ok (some c) (W2.putObj (w.heap.size + 1) (.loop (rc .exhausted (some c)))) := by
        have h := run_endLoop (P := P) hr.loop (by rw [hrc]; simp)
        rw [hrc] at h; rw [hrc]; exact h
      exact ⟨some c, _, h, hstop _ c pre _ (Nat.le_refl _) hSp (turnx _ hi hr) ((World.putObj_heap_other (by omega)).trans hr.defs)⟩
/-- The same, where the loop's variable is a box: the assignment makes it anew for each round. -/
theorem rangeFunc_d {α : Type} {g : Operand} {ps : Array Tmp} {assign body : Code} {Q : Exit → Act → World → Prop} {a : Act} {w : World} (hro : F.round = none) (h1 : 1 ≤ n) {gf : Nat} {lb : Array Value} (hg : a.eval g = .func (.func gf) #[] lb) (hFg : F.fn gf)
    (eg : ∀ args w, (callFunc gf args).run P w = .ok (.enter gf args) w) {encs : α → Array Value} {Kp Tr : World → World → Prop} {S Sp : List α → Prop} {N : Nat} {w0 : World} (hseq : SeqC F (n - 1) P gf lb encs Kp Tr S Sp N w0)
    (hTr : ∀ A B, Tr A B → KeepsOthers A B) (hKt : ∀ {A B C : World}, Kp A B → Kp B C → Kp A C) (hKb : ∀ (W : World) (o : Obj), w.heap.size + 1 < W.heap.size → Kp W (W.putObj (w.heap.size + 1) o)) (hb0 : Below w0.heap.size w0 w) (hps : ∀ x, (encs x).size = ps.size)
    (I : List α → World → Prop) (Ix : Code → List α → World → Prop) (hI : OwnFrom w.heap.size I) (hIT : ∀ s A B, I s A → Tr A B → I s B) (hIx : ∀ c, OwnFrom w.heap.size (Ix c)) (h0 : I [] w) (Ax : α → Act → World → Prop) (hAx : ∀ x a', OwnFrom w.heap.size (fun (_ : Unit) W => Ax x a' W)) (hKT : ∀ s A B, I s A → Tr A B → Kp A B)
    (hassign : ∀ (l : Nat) (x : α) (W : World) (K : Act → World → Prop), (∀ a' W', Tr W W' → Ax x a' W' → K a' W') → assign.wpIn (F.inRound l) (n - 1 - 1) P (Exit.then K (fun _ _ _ => False)) { tmps := (ps.zip (encs x)).foldl (fun t (p, v) => t.setIfInBounds p v) a.tmps, defers := [] } W)
    (hbody : ∀ (l : Nat) (pre : List α) (x : α) (a' : Act) (W : World), I pre W → Ax x a' W → pre.length < N → body.wpIn (F.inRound l) (n - 1 - 1) P (ownPostK Kp I Ix (pre ++ [x]) W) a' W)
    (hdone : ∀ (D : Nat) (xs : List α) (W : World), w.heap.size ≤ D → S xs → I xs W → W.heap[D]? = some (.deferred (some [])) → Q .normal { a with defers := { target := .collected D, args := #[] } :: a.defers } W)
    (hstop : ∀ (D : Nat) (c : Code) (pre : List α) (W : World), w.heap.size ≤ D → Sp pre → Ix c pre W → W.heap[D]? = some (.deferred (some [])) → c.wpIn F n P Q { a with defers := { target := .collected D, args := #[] } :: a.defers } W) :
    (Code.rangeFunc g ps assign body).wpIn F n P Q a w := by
  refine wpIn_rangeFunc fun fn hfn => ?_
  rw [hro]
  obtain ⟨rc, hrc⟩ : ∃ rc : LoopState → Option Code → Loop, rc = fun st pe => { state := st, pending := pe, fn, tmps := a.tmps, params := ps, assign, body, defers := w.heap.size } := ⟨_, rfl⟩
  have hbz : w.heap.size < (w.alloc (.deferred (some []))).heap.size := by simp
  obtain ⟨V, hV⟩ : ∃ V, (w.alloc (.deferred (some []))).alloc (.loop (rc .ready none)) = V := ⟨_, rfl⟩
  have hR0 : RecAt w.heap.size (rc .ready none) V := by
    subst hV
    refine ⟨?_, (Below.heap_alloc _ _ _ hbz).trans (World.alloc_heap_new w _)⟩
    have h := World.alloc_heap_new (w.alloc (.deferred (some []))) (.loop (rc .ready none))
    rwa [World.size_alloc] at h
  have hIV : I [] V := by subst hV; exact hI.alloc _ (hI.alloc _ h0)
  have hbV : Below w0.heap.size w0 V := by subst hV; exact hb0.trans ((((Below.refl _ w).alloc (Nat.le_refl _) _).alloc (Nat.le_of_lt hbz) _).mono hb0.size)
  -- The record is turned: what the caller holds, holds.
  have turn : ∀ {s W r} (r' : Loop), I s W → RecAt w.heap.size r W → I s (W.putObj (w.heap.size + 1) (.loop r')) := fun r' hi hr => hI.putObj _ hi (Nat.le_succ _) hr.loop rfl
  have turnx : ∀ {c s W r} (r' : Loop), Ix c s W → RecAt w.heap.size r W → Ix c s (W.putObj (w.heap.size + 1) (.loop r')) := fun r' hi hr => (hIx _).putObj _ hi (Nat.le_succ _) hr.loop rfl
  have lt : ∀ {r W}, RecAt w.heap.size r W → w.heap.size + 1 < W.heap.size := fun h => (Array.getElem?_eq_some_iff.1 h.loop).1
  refine ⟨w.heap.size + 1, [{ target := .collected w.heap.size, args := #[] }], V, { target := .fn (.func gf) lb, args := #[.func (.yield (w.heap.size + 1)) #[] #[]] }, V, gf, #[.func (.yield (w.heap.size + 1)) #[] #[]] ++ lb, V, ?_, ?_, ?_, ?_, fun _ => h1, ?_⟩
  · subst hV; rw [hrc]; exact run_enterLoop_outer _ _ _ _ _
  · simp only [resolve, hg]
    simp [go_sem]
  · intro f' hf'
    simp [Target.leads] at hf'
    subst hf'
    exact hFg
  · simp [invoke, go_sem, eg]
  refine (hseq (w.heap.size + 1) (fun pre W => I pre W ∧ RecAt w.heap.size (rc .ready none) W) (fun pre W => ∃ c, Ix c pre W ∧ RecAt w.heap.size (rc .done (some c)) W) V hbV (fun s A B h ht => ⟨hIT s A B h.1 ht, h.2.keeps (hTr A B ht)⟩) ?_ ⟨hIV, hR0⟩).mono ?_
  · rintro pre x W ⟨hi, hr⟩ hlen
    have hy := run_yield (P := P) (args := encs x) hr.loop (by rw [hrc]; exact hps x)
    rw [hrc] at hy
    refine ⟨fn, _, assign, body, hy, roundIn_of_wpIn hfn (hassign _ x W _ (fun a' V' hT hax => ?_))⟩
    have hkT := hKT _ _ _ hi hT
    have hoT := hTr _ _ hT
    have hi' := hIT _ _ _ hi hT
    have hr' : RecAt w.heap.size (rc .ready none) V' := hr.keeps hoT
    clear hi hr hy
    refine ⟨_, run_beginRound hr'.loop (by rw [hrc]), ?_⟩
    obtain ⟨bz, hbz'⟩ : ∃ bz, bz = { rc .ready none with state := .busy } := ⟨_, rfl⟩
    rw [← hbz']
    have hr2 : RecAt w.heap.size bz (V'.putObj (w.heap.size + 1) (.loop bz)) := hr'.put
    have hax2 : Ax x a' (V'.putObj (w.heap.size + 1) (.loop bz)) := (hAx x a').putObj (s := ()) _ hax (Nat.le_succ _) hr'.loop rfl
    have hk2 := hKt hkT (hKb V' (.loop bz) (lt hr'))
    refine wpIn_mono (hbody _ pre x _ _ (turn bz hi' hr') hax2 hlen) ?_
    have out : ∀ (jump : Option Code) (W3 : World), KeepsOthers (V'.putObj (w.heap.size + 1) (.loop bz)) W3 → RecAt w.heap.size bz W3 ∧ (Instr.endRound (w.heap.size + 1) jump).run P W3 = .ok (.bool jump.isNone) (W3.putObj (w.heap.size + 1) (.loop (rc (if jump.isNone then .ready else .done) jump))) := fun jump W3 k => by
      have h3 := hr2.keeps k
      refine ⟨h3, ?_⟩
      have h := run_endRound (P := P) jump h3.loop
      rw [hbz', hrc] at h
      rw [hrc]
      exact h
    rintro e a3 W3 hp
    cases e with
    | normal =>
      obtain ⟨k, hkp, hi3⟩ := hp
      obtain ⟨h3, hrun⟩ := out none W3 k
      exact ⟨_, _, hrun, .inl ⟨rfl, ⟨turn _ hi3 h3, h3.put⟩, hKt (hKt hk2 hkp) (hKb _ _ (lt h3))⟩⟩
    | ret =>
      obtain ⟨k, hi3⟩ := hp
      obtain ⟨h3, hrun⟩ := out (some .ret) W3 k
      exact ⟨_, _, hrun, .inr ⟨rfl, .ret, turnx _ hi3 h3, h3.put⟩⟩
    | exit id =>
      obtain ⟨k, hi3⟩ := hp
      obtain ⟨h3, hrun⟩ := out (some (.exit id)) W3 k
      exact ⟨_, _, hrun, .inr ⟨rfl, .exit id, turnx _ hi3 h3, h3.put⟩⟩
    | goto t =>
      obtain ⟨k, hi3⟩ := hp
      obtain ⟨h3, hrun⟩ := out (some (.goto t)) W3 k
      exact ⟨_, _, hrun, .inr ⟨rfl, .goto t, turnx _ hi3 h3, h3.put⟩⟩
    | panic ch => exact hp.elim
    | outgrown => exact hp.elim
  · rintro e W2 ⟨⟨v, rfl⟩, (⟨xs, hS, hi, hr⟩ | ⟨pre, hSp, c, hi, hr⟩)⟩
    · have h : (Instr.endLoop (w.heap.size + 1)).run P W2 = .ok none (W2.putObj (w.heap.size + 1) (.loop (rc .exhausted none))) := by
        have h := run_endLoop (P := P) hr.loop (by rw [hrc]; simp)
        rw [hrc] at h; rw [hrc]; exact h
      exact ⟨none, _, h, hdone _ xs _ (Nat.le_refl _) hS (turn _ hi hr) ((World.putObj_heap_other (by omega)).trans hr.defs)⟩
    · have h : (Instr.endLoop (w.heap.size + 1)).run P W2 = .ok (some c) (W2.putObj (w.heap.size + 1) (.loop (rc .exhausted (some c)))) := by
        have h := run_endLoop (P := P) hr.loop (by rw [hrc]; simp)
        rw [hrc] at h; rw [hrc]; exact h
      exact ⟨some c, _, h, hstop _ c pre _ (Nat.le_refl _) hSp (turnx _ hi hr) ((World.putObj_heap_other (by omega)).trans hr.defs)⟩
end
end Go.Proofs.YtcjfcomadcebnaaGreatDoor

/- store.Do at an object that is there; Len, At of stores. -/
namespace Go.Proofs.YtcjfcomadcebnaaGreatDoor
open Go.RowKit Go.Maps Go.WideMaps Go.WideElems Go.ChangeShapes Go.WideShapes
variable {T : TypeId} {er : Nat → Addr}

set_option maxRecDepth 100000 in
theorem slen_any (a : Option Addr) (n c : Nat) (w : World) : Calls Tryz.prog 32 #[.agg #[.slice a n c]] w fun e w' => e = .returned (.int .i64 n) ∧ Hid (Below w.heap.size w w') := by
  obtain ⟨W, hW, Hb, hs, Hx⟩ := box_new w 29 (.slice a n c)
  have x0 := Hx.out.cell
  have HL := Lib.hid (len_sta a n c W)
  go_enter Tryz.func32, Tryz.ntmps32
  go_wp2_with (first | (go_at_call 51; refine HL.out.mono ?_; rintro e w2 ⟨rfl, h2⟩))
  go_ret
  exact ⟨rfl, Hb.out.trans (h2.out.mono Hb.out.size)⟩

set_option maxHeartbeats 1000000 in
set_option maxRecDepth 100000 in
theorem sat_in (a : Option Addr) (n c : Nat) (xs : List Value) (k : Nat) (hk : k < n) (p q : Int) (r : ByteArray) (hp : xs[k * 3]? = some (.int .i64 p)) (hq : xs[k * 3 + 1]? = some (.int .i64 q)) (hr : xs[k * 3 + 2]? = some (.string r)) (w : World) (h : SlAt w a xs) :
    Calls Tryz.prog 10 #[.agg #[.slice a n c], .int .i64 k] w fun e w' => e = .returned (.tuple #[.agg #[.int .i64 p, .int .i64 q, .string r], .bool true]) ∧ Hid (Below w.heap.size w w') := by
  obtain ⟨W1, W, hW1, hW, Hb, hs1, hs, Hx, Hy⟩ := box_new13 w 29 (.slice a n c) (.int .i64 0) (.int .i64 0) (.string ⟨#[]⟩) 34
  have x0 := Hx.out.cell
  have HA := Lib.hid (at_sta_in a n c xs k hk p q r hp hq hr W (h.below Hb.out))
  clear h hp hq hr hk
  go_enter Tryz.func10, Tryz.ntmps10
  go_wp2_with (first | (go_at_call 38; refine HA.out.mono ?_; rintro e w2 ⟨rfl, h2⟩; obtain ⟨⟨s0, f0⟩, ⟨s1, f1⟩, ⟨s2, f2⟩, hfin⟩ := row_set3 ((h2.out.block _ hs.out).trans Hy.out) (.int .i64 p) (.int .i64 q) (.string r); have Hfin := Lib.hid hfin; clear hfin))
  refine bodyPost_ret (results_row_tmp rfl _ _ W1.heap.size 34 #[.int .i64 p, .int .i64 q, .string r] (0, 0) _ rfl Hfin.out Tryz.underlying34 rfl (by kernel_rfl)) rfl ?_
  exact ⟨rfl, (((Hb.out.trans (h2.out.mono Hb.out.size)).setCell (p := ⟨W1.heap.size, 0, none⟩) (Nat.le_of_lt hs1.out) _).setCell (p := ⟨W1.heap.size, 1, none⟩) (Nat.le_of_lt hs1.out) _).setCell (p := ⟨W1.heap.size, 2, none⟩) (Nat.le_of_lt hs1.out) _⟩

set_option maxHeartbeats 1000000 in
set_option maxRecDepth 100000 in
theorem sdo_ok (a : Option Addr) (n c : Nat) (xs : List Value) (hx : xs.length = n * 3) (h1 : ∀ u ∈ xs, u.oneCell' = true) (hn : n ≤ 1000000) (k : Nat) (hk : k < n) (p q : Int) (r : List UInt8) (hp : xs[k * 3]? = some (.int .i64 p)) (hq : xs[k * 3 + 1]? = some (.int .i64 q)) (hr : xs[k * 3 + 2]? = some (tv r))
    (op key val p' q' ret got : Int) (r' : List UInt8) (hd : ∀ W, Glob T er W → DoIs p q r op key val (.tuple #[stv p' q' r', .int .i64 ret, .int .i64 got, .nilIface]) W) (w : World) (h : SlAt w a xs) (hG : Glob T er w) :
    Calls Tryz.prog 31 #[.agg #[.slice a n c], .int .i64 k, .int .i64 op, .int .i64 key, .int .i64 val] w fun e w' => ∃ v', e = .returned (.tuple #[.agg #[v'], .int .i64 ret, .int .i64 got, .nilIface]) ∧ Hid (w'.ownsRow w.heap.size 34 3 v' n (((xs.set (k * 3) (.int .i64 p')).set (k * 3 + 1) (.int .i64 q')).set (k * 3 + 2) (tv r')) ∧ Below w.heap.size w w') := by
  obtain ⟨W1, W, hW1, hW, Hb, hs1, hs, Hx, Hy⟩ := box_new2 w 29 29 (.slice a n c) (.slice none 0 0)
  have x0 := Hx.out.cell
  have HA := Lib.hid (at_sta_in a n c xs k hk p q ⟨r.toArray⟩ hp hq hr W (h.below Hb.out))
  have HG := Lib.hid (hG.below' Hb.out)
  have HD := Lib.hid hd
  have HWi := Lib.hid (fun W' (hb : Below w.heap.size w W') => with_sta_in a n c xs hx h1 hn k hk p' q' ⟨r'.toArray⟩ W' (h.below hb))
  clear hG h hx h1 hp hq hr hd hk
  go_enter Tryz.func31, Tryz.ntmps31
  go_wp2_with (first
    | (go_at_call 38; refine HA.out.mono ?_; rintro e w2 ⟨rfl, h2⟩; obtain ⟨W3, hW3, Hb3, hs3, Hp3⟩ := cells_new w2 #[.int .i64 p, .int .i64 q, tv r] 34; obtain ⟨y0, y1, y2⟩ := row_three Hp3.out; have HG3 := Lib.hid ((HG.out.below' h2.out).below' Hb3.out); have H3 := Lib.hid ((Hb.out.trans (h2.out.mono Hb.out.size)).trans (Hb3.out.mono (Nat.le_trans Hb.out.size h2.out.size))); have HX3 := Lib.hid (boxed_below (boxed_below Hx.out h2.out (Nat.lt_trans hs1.out hs.out)) Hb3.out (Nat.lt_of_lt_of_le (Nat.lt_trans hs1.out hs.out) h2.out.size)); have HY3 := Lib.hid (boxed_below (boxed_below Hy.out h2.out hs.out) Hb3.out (Nat.lt_of_lt_of_le hs.out h2.out.size)); have hz3 := Lib.hid (Nat.lt_of_lt_of_le hs.out (Nat.le_trans h2.out.size (Nat.le_of_lt hs3.out))))
    | (go_at_call 49; refine (HD.out _ HG3.out).mono ?_; rintro e w4 ⟨rfl, h4⟩; obtain ⟨W5, hW5, Hb5, hs5, Hp5⟩ := cells_new w4 #[.int .i64 p', .int .i64 q', tv r'] 34; clear y0 y1 y2; obtain ⟨y0, y1, y2⟩ := row_three Hp5.out; have H5 := Lib.hid ((H3.out.trans (h4.out.mono H3.out.size)).trans (Hb5.out.mono (Nat.le_trans H3.out.size h4.out.size))); have hz4 := Lib.hid (Nat.lt_of_lt_of_le hz3.out h4.out.size); have HX5 := Lib.hid (boxed_below (boxed_below HX3.out h4.out (Nat.lt_trans hs1.out hz3.out)) Hb5.out (Nat.lt_trans hs1.out hz4.out)); have HY5 := Lib.hid (boxed_below (boxed_below HY3.out h4.out hz3.out) Hb5.out hz4.out); have x5 := HX5.out.cell)
    | (go_at_call 50; refine (HWi.out _ H5.out).mono ?_; rintro e w6 ⟨v6, rfl, h6⟩; obtain ⟨a6, c6, rfl, -, -⟩ := row_sl h6.out.1; have HY6 := Lib.hid (boxed_below HY5.out h6.out.2 (Nat.lt_trans hz4.out hs5.out)); have y6 := HY6.out.cell; have f6 := HY6.out.frozen))
  have hz5 := Nat.lt_trans hz4.out hs5.out
  refine bodyPost_ret (results_row_tmp3 rfl _ _ W1.heap.size 29 #[.slice a6 n c6] (0, 0) _ rfl (HY6.out.set _) Tryz.underlying29 rfl (by kernel_rfl)) rfl ?_
  exact ⟨_, rfl, row_base (ownsRow_setCell_below h6.out.1 hz5 _) (Nat.le_of_lt (Nat.lt_trans hs1.out hz5)), (H5.out.trans (h6.out.2.mono H5.out.size)).setCell (p := ⟨W1.heap.size, 0, none⟩) (Nat.le_of_lt hs1.out) _⟩
end Go.Proofs.YtcjfcomadcebnaaGreatDoor

/- The iterator over a store's states, as a loop takes it. -/
namespace Go.Proofs.YtcjfcomadcebnaaGreatDoor
open Go.RowKit Go.Maps Go.WideMaps Go.WideElems Go.ChangeShapes Go.WideShapes
attribute [local go_sem] Oper.semAt_some

/-- A state, plainly: its kind, its number, its text. -/
abbrev P3 := Int × Int × List UInt8
/-- States, as cells. -/
def sts (S : List P3) : List Value := S.flatMap fun s => [.int .i64 s.1, .int .i64 s.2.1, tv s.2.2]
theorem sts_len (S : List P3) : (sts S).length = S.length * 3 := by
  induction S with
  | nil => rfl
  | cons o os ih => show (_ :: _ :: _ :: sts os).length = _; simp [ih]; omega
theorem sts_one (S : List P3) : ∀ u ∈ sts S, u.oneCell' = true := by
  intro u hu
  simp [sts] at hu
  rcases hu with ⟨_, _, _, _, rfl | rfl | rfl⟩ <;> rfl
theorem sts_get : ∀ (S : List P3) (k : Nat) (h : k < S.length), (sts S)[k * 3]? = some (.int .i64 S[k].1) ∧ (sts S)[k * 3 + 1]? = some (.int .i64 S[k].2.1) ∧ (sts S)[k * 3 + 2]? = some (tv S[k].2.2)
  | s :: S, 0, _ => ⟨rfl, rfl, rfl⟩
  | s :: S, k + 1, h => by
    obtain ⟨h0, h1, h2⟩ := sts_get S k (by simpa using h)
    have e : ∀ j, (sts (s :: S))[(k + 1) * 3 + j]? = (sts S)[k * 3 + j]? := fun j => by
      show (_ :: _ :: _ :: sts S)[_]? = _
      rw [show (k + 1) * 3 + j = (k * 3 + j) + 1 + 1 + 1 by omega, List.getElem?_cons_succ, List.getElem?_cons_succ, List.getElem?_cons_succ]
    exact ⟨(e 0).trans h0, (e 1).trans h1, (e 2).trans h2⟩
/-- The k-th state. -/
def stA (S : List P3) (k : Nat) : P3 := S[k]?.getD (0, 0, [])
theorem stA_at (S : List P3) (k : Nat) (h : k < S.length) : (sts S)[k * 3]? = some (.int .i64 (stA S k).1) ∧ (sts S)[k * 3 + 1]? = some (.int .i64 (stA S k).2.1) ∧ (sts S)[k * 3 + 2]? = some (tv (stA S k).2.2) := by
  unfold stA
  rw [List.getElem?_eq_getElem h]
  exact sts_get S k h
abbrev stV (s : P3) : Value := stv s.1 s.2.1 s.2.2

/-- What a loop's body leaves: the blocks below n₀, and the iterator's own box. -/
structure KpS (n₀ Bs : Nat) (A B : World) : Prop where
  below : Below n₀ A B
  box : B.heap[Bs]? = A.heap[Bs]?
theorem KpS.trans {n₀ Bs : Nat} {A B C : World} (h : KpS n₀ Bs A B) (k : KpS n₀ Bs B C) : KpS n₀ Bs A C := ⟨h.below.trans k.below, k.box.trans h.box⟩
theorem KpS.of_below {n₀ Bs : Nat} {A B : World} (h : Below A.heap.size A B) (hn : n₀ ≤ A.heap.size) (hb : Bs < A.heap.size) : KpS n₀ Bs A B := ⟨h.mono hn, h.block _ hb⟩

set_option maxRecDepth 100000 in
set_option maxHeartbeats 2000000 in
theorem seach1 (n : Nat) (hn : 1 ≤ n) (l Bs n₀ : Nat) (a : Option Addr) (c : Nat) (S : List P3) (hreach : S.length ≤ 1000000) (J Jx : List Nat → World → Prop) (hJT : ∀ s A B, J s A → Below A.heap.size A B → J s B)
    (hY : ∀ pre (x : Nat) W, J pre W → pre.length < S.length → YieldAt Fence.wide (n - 1) Tryz.prog l #[.int .i64 (x : Int), stV (stA S x)] W fun e W' =>
      (e = .returned (.bool true) ∧ J (pre ++ [x]) W' ∧ KpS n₀ Bs W W') ∨ (e = .returned (.bool false) ∧ Jx (pre ++ [x]) W'))
    (W : World) (hBs : Boxed W Bs 29 (.slice a S.length c)) (hBn : Bs < W.heap.size) (hz : n₀ ≤ W.heap.size) (hc : ∀ W', Below n₀ W W' → SlAt W' a (sts S)) (h0 : J [] W) :
    CallsIn Fence.wide n Tryz.prog 43 #[.func (.yield l) #[] #[], .pointer (some ⟨Bs, 0, none⟩)] W fun e W' => (∃ v, e = .returned v) ∧
      ((∃ ys, ys = List.range S.length ∧ J ys W') ∨ (∃ pre, (∃ k, k < S.length ∧ pre = List.range (k + 1)) ∧ Jx pre W')) := by
  have Hst := Lib.hid (fun k (h : k < S.length) => stA_at S k h)
  have hL := Lib.hid (slen_any a S.length c W)
  have x0 := hBs.cell
  have HB := Lib.hid hBs
  have HC := Lib.hid hc
  clear hBs hc
  refine callsIn_of_wp Tryz.func43 rfl trivial ?_ rfl
  simp only [Tryz.ntmps43, List.size_toArray, List.length_cons, List.length_nil, Nat.reduceAdd, Nat.reduceSub, Array.replicate_succ, Array.replicate_zero, List.push_toArray, List.append_toArray, List.nil_append, List.cons_append]
  gi_wp2_with (first | (refine ⟨trivial, ?_⟩; gi_at_call 32; refine (callsIn_wide.2 hL.out).mono ?_; rintro e w2 ⟨rfl, h2⟩))
  have Hr0 : Hid (KpS n₀ Bs W w2 ∧ J [] w2) := ⟨.of_below h2.out hz hBn, hJT _ _ _ h0 h2.out⟩
  clear h0 hL x0 h2
  gi_loopw [8] (fun i wr => ∃ k : Nat, k ≤ S.length ∧ i = .int .i64 k ∧ Hid (KpS n₀ Bs W wr ∧ J (List.range k) wr))
    (fun i _ => S.length - (intOf i).toNat)
  case atStart => exact ⟨0, Nat.zero_le _, rfl, Hr0⟩
  case round =>
    obtain ⟨k, hk, rfl, HJ⟩ := hrel
    by_cases hlt : k < S.length
    · have HBw : Hid (Boxed wr Bs 29 (.slice a S.length c)) := HJ.out.1.box.trans HB.out
      have hzr := Lib.hid (Nat.le_trans hz HJ.out.1.below.size)
      have hBr := Lib.hid (Nat.lt_of_lt_of_le hBn HJ.out.1.below.size)
      have x0 := HBw.out.cell
      have hst := Hst.out k hlt
      have HA := Lib.hid (sat_in a S.length c (sts S) k hlt _ _ _ hst.1 hst.2.1 hst.2.2 wr (HC.out wr HJ.out.1.below))
      have HY := Lib.hid (fun W1 (h : J (List.range k) W1) => hY (List.range k) k W1 h (by rw [List.length_range]; exact hlt))
      clear hst hY
      generalize stA S k = y at *
      obtain ⟨p, q, r⟩ := y
      try dsimp only at HA
      gi_wp2_with (first | (refine ⟨trivial, ?_⟩; gi_at_call 10; refine (callsIn_wide.2 HA.out).mono ?_; rintro e w3 ⟨rfl, h3⟩; obtain ⟨W5, hW5, Hb5, hs5, Hp5⟩ := cells_new w3 #[.int .i64 p, .int .i64 q, tv r] 34; obtain ⟨y0, y1, y2⟩ := row_three Hp5.out; have H5 := Lib.hid ((HJ.out.1.trans (.of_below h3.out hzr.out hBr.out)).trans (.of_below Hb5.out (Nat.le_trans hzr.out h3.out.size) (Nat.lt_of_lt_of_le hBr.out h3.out.size))); have hJ5 := hJT _ _ _ (hJT _ _ _ HJ.out.2 h3.out) Hb5.out; obtain ⟨fn, tmps, assign, body, hy, hR⟩ := HY.out W5 hJ5; (try dsimp only at hy); clear HY))
      refine hR.mono ?_
      rintro e W3 (⟨rfl, hJ3, hk3⟩ | ⟨rfl, hJx3⟩)
      · gi_wp2
        go_roundw
        case rel => exact ⟨k + 1, by omega, by go_num, H5.out.trans hk3, by rw [List.range_succ]; exact hJ3⟩
        case measure => simp [intOf]; omega
      · gi_wp2
        refine bodyPost_ret (results_none rfl _ _ _) rfl ?_
        exact ⟨⟨_, rfl⟩, .inr ⟨_, ⟨k, hlt, List.range_succ.symm⟩, hJx3⟩⟩
    · have hkl : k = S.length := by omega
      have HJ2 : Hid (J (List.range S.length) wr) := by rw [← hkl]; exact HJ.out.2
      clear HJ
      gi_wp2
      go_end0
      exact ⟨⟨_, rfl⟩, .inl ⟨_, rfl, HJ2.out⟩⟩

theorem seach_seq (n : Nat) (hn : 1 ≤ n) (Bs n₀ : Nat) (a : Option Addr) (c : Nat) (S : List P3) (hreach : S.length ≤ 1000000) (w : World) (hBs : Boxed w Bs 29 (.slice a S.length c)) (hBn : Bs < w.heap.size) (hz : n₀ ≤ w.heap.size) (hc : ∀ W', Below n₀ w W' → SlAt W' a (sts S)) :
    SeqC Fence.wide n Tryz.prog 43 #[.pointer (some ⟨Bs, 0, none⟩)] (fun x : Nat => #[.int .i64 (x : Int), stV (stA S x)]) (KpS n₀ Bs) (fun A B => Below A.heap.size A B) (fun ys => ys = List.range S.length) (fun pre => ∃ k, k < S.length ∧ pre = List.range (k + 1)) S.length w := fun l J Jx W hW hJT hY h0 =>
  seach1 n hn l Bs n₀ a c S hreach J Jx hJT hY W (boxed_below hBs hW hBn) (Nat.lt_of_lt_of_le hBn hW.size) (Nat.le_trans hz hW.size) (fun W' h => hc W' ((hW.mono hz).trans h)) h0

set_option maxHeartbeats 400000 in
set_option maxRecDepth 100000 in
/-- Each: a function over the states. -/
theorem each_any (v : Value) (w : World) : Calls Tryz.prog 15 #[.agg #[v]] w fun e w' => e = .returned (.func (.func 43) #[] #[.pointer (some ⟨w.heap.size, 0, none⟩)]) ∧ w.alloc (.cells #[v] 29) = w' := by
  have hmf : ∀ (fn : Fn) (first cap : Array Value) (w : World), (Instr.makeFunc fn first cap).run Tryz.prog w = .ok (.func fn first cap) w := fun _ _ _ _ => rfl
  go_enter Tryz.func15, Tryz.ntmps15
  go_wp2
  go_ret
  exact ⟨rfl, rfl⟩
end Go.Proofs.YtcjfcomadcebnaaGreatDoor

/- strings.Join at this seat. -/
namespace Go.Proofs.YtcjfcomadcebnaaGreatDoor
open Go.Shelf Go.RowKit
def Tryz.lays156_ren : Go.Shelf.Ren := ⟨fun | 156 => 52 | 165 => 68 | 166 => 69 | 169 => 70 | 240 => 92 | 241 => 93 | 276 => 109 | 277 => 110 | n => n, fun | 31 => 61 | 9 => 9 | 3 => 3 | 4 => 4 | 0 => 0 | 20 => 20 | 72 => 127 | 76 => 129 | 70 => 125 | 37 => 89 | 75 => 70 | 127 => 146 | 164 => 157 | 5 => 5 | 80 => 41 | n => n, fun | n => n⟩
theorem Tryz.lays156 : Go.Proofs.Lays.n156 Tryz.prog Tryz.lays156_ren := {
  mixed := by kernel_rfl
  f156 := Tryz.func52.trans (congrArg some (by kernel_rfl))
  f165 := Tryz.func68.trans (congrArg some (by kernel_rfl))
  f166 := Tryz.func69.trans (congrArg some (by kernel_rfl))
  f169 := Tryz.func70.trans (congrArg some (by kernel_rfl))
  f240 := Tryz.func92.trans (congrArg some (by kernel_rfl))
  f241 := Tryz.func93.trans (congrArg some (by kernel_rfl))
  f276 := Tryz.func109.trans (congrArg some (by kernel_rfl))
  f277 := Tryz.func110.trans (congrArg some (by kernel_rfl))
  t0 := Tryz.underlying0
  a0 := Tryz.isAgg0
  z0 := Tryz.sizeOf0
  v0 := Tryz.zeroValue0
  t3 := Tryz.underlying3
  a3 := Tryz.isAgg3
  z3 := Tryz.sizeOf3
  v3 := Tryz.zeroValue3
  t4 := Tryz.underlying4
  a4 := Tryz.isAgg4
  z4 := Tryz.sizeOf4
  v4 := Tryz.zeroValue4
  t9 := Tryz.underlying9
  a9 := Tryz.isAgg9
  z9 := Tryz.sizeOf9
  v9 := Tryz.zeroValue9
  t20 := Tryz.underlying20
  a20 := Tryz.isAgg20
  z20 := Tryz.sizeOf20
  v20 := Tryz.zeroValue20
  t31 := Tryz.underlying61
  a31 := Tryz.isAgg61
  z31 := Tryz.sizeOf61
  v31 := Tryz.zeroValue61
  t37 := Tryz.underlying89
  a37 := Tryz.isAgg89
  z37 := Tryz.sizeOf89
  v37 := Tryz.zeroValue89
  t70 := Tryz.underlying125
  a70 := Tryz.isAgg125
  z70 := Tryz.sizeOf125
  v70 := Tryz.zeroValue125
  t72 := Tryz.underlying127
  a72 := Tryz.isAgg127
  z72 := Tryz.sizeOf127
  v72 := Tryz.zeroValue127
  t75 := Tryz.underlying70
  a75 := Tryz.isAgg70
  z75 := Tryz.sizeOf70
  v75 := Tryz.zeroValue70
  t76 := Tryz.underlying129
  a76 := Tryz.isAgg129
  z76 := Tryz.sizeOf129
  v76 := Tryz.zeroValue129
  t127 := Tryz.underlying146
  a127 := Tryz.isAgg146
  z127 := Tryz.sizeOf146
  v127 := Tryz.zeroValue146
  t164 := Tryz.underlying157
  a164 := Tryz.isAgg157
  z164 := Tryz.sizeOf157
  v164 := Tryz.zeroValue157 }
theorem Tryz.Builder_Extra_156 : Builder.Extra Tryz.prog Tryz.lays156_ren := {
  sizeBuilder := by kernel_rfl
  liesBuilder := by kernel_rfl
  t5 := Tryz.underlying5
  a5 := Tryz.isAgg5
  z5 := Tryz.sizeOf5
  v5 := Tryz.zeroValue5
  infoByte := by kernel_rfl
  cellsByte := by kernel_rfl
  sizeByte := by kernel_rfl
  neB5 := by decide }
theorem Tryz.strings_Join_none (a : Option Addr) (c : Nat) (sep : ByteArray) (w : World) :
    Calls Tryz.prog 52 #[.slice a 0 c, .string sep] w fun e w' => e = .returned (.string ⟨#[]⟩) ∧ w' = w := Any.strings_Join_none Tryz.lays156 Tryz.Builder_Extra_156 a c sep w
theorem Tryz.strings_Join (bk o c : Nat) (xs : List ByteArray) (sep : ByteArray) (w : World) (hcells : ∀ (j : Nat) x, xs[j]? = some x → w.cell? ⟨bk, o + j, none⟩ = some (.string x)) (hbk : bk < w.heap.size) (hN : xs.length ≤ 140737488355328) (hcap : xs.length ≤ c) (hlen : (Lib.join (xs.map (·.data.toList)) sep.data.toList).length ≤ 140737488355328) :
    Calls Tryz.prog 52 #[.slice (some ⟨bk, o, none⟩) xs.length c, .string sep] w fun e w' => e = .returned (.string ⟨(Lib.join (xs.map (·.data.toList)) sep.data.toList).toArray⟩) ∧ Below w.heap.size w w' := Any.strings_Join Tryz.lays156 Tryz.Builder_Extra_156 bk o c xs sep w hcells hbk hN hcap hlen
end Go.Proofs.YtcjfcomadcebnaaGreatDoor
