/- The walk of the statement on new memory: words and bytes that are spoilt. -/
import Derived.Test.YtaddpekjmboimaaDoorRb
namespace Go.Proofs.YtaddpekjmboimaaDoor
open Go.RowKit Go.Maps Go.WideMaps Go.WideElems Go.ChangeShapes Go.WideShapes

variable {T : TypeId} {e0 e1 e2 : Addr}

theorem row_shape {w : World} {B : Nat} {e : TypeId} {v : Value} {n : Nat} {xs : List Value} (h : w.ownsRow B e 1 v n xs) : ∃ a c, v = .slice a n c := by
  rcases h.2 with ⟨rfl, rfl⟩ | ⟨g, cap, cur, rfl, _⟩
  · exact ⟨_, _, rfl⟩
  · exact ⟨_, _, rfl⟩
theorem row_at {w : World} {B : Nat} {e : TypeId} {a : Option Addr} {c n : Nat} {xs : List Value} (h : w.ownsRow B e 1 (.slice a n c) n xs) {k : Nat} (hk : k < n) : ∃ g u, a = some ⟨g, 0, none⟩ ∧ B ≤ g ∧ w.cell? ⟨g, k, none⟩ = some u ∧ w.frozen? ⟨g, k, none⟩ = false := by
  rcases h.2 with ⟨e1, h0⟩ | ⟨g, cap, cur, e1, hb, hg, hn, hm, hs, _⟩
  · cases e1; omega
  · cases e1
    have hk' : k < cur.size := by omega
    exact ⟨g, cur[k], rfl, hb, by simp [World.cell?, hg, hk'], by simp [World.frozen?, hg]⟩
theorem row_set {w : World} {B : Nat} {e : TypeId} {g c n : Nat} {xs : List Value} (h : w.ownsRow B e 1 (.slice (some ⟨g, 0, none⟩) n c) n xs) {k : Nat} (_hk : k < n) (u : Value) : (w.setCell ⟨g, k, none⟩ u).ownsRow B e 1 (.slice (some ⟨g, 0, none⟩) n c) n (xs.set k u) := by
  rcases h.2 with ⟨e1, h0⟩ | ⟨g', cap, cur, e1, hb, hg, hn, hm, hs, ht⟩
  · cases e1
  · cases e1
    refine ⟨by rw [List.length_set]; exact h.1, .inr ⟨g, c, cur.setIfInBounds k u, rfl, hb, ?_, hn, hm, by simpa using hs, ?_⟩⟩
    · show (w.heap.modify g _)[g]? = _
      rw [Array.getElem?_modify]
      simp [hg]
    · rw [← ht, Array.toList_setIfInBounds, List.take_set]
theorem row_other {w : World} {B : Nat} {e e' : TypeId} {v v' : Value} {n n' : Nat} {xs xs' : List Value} (h : w.ownsRow B e 1 v n xs) (h' : w.ownsRow B e' 1 v' n' xs') (hne : e ≠ e') : ∀ g, v.ownBlock = some g → v'.ownBlock ≠ some g := by
  intro g hg hg'
  rcases h.2 with ⟨rfl, _⟩ | ⟨g1, cap, cur, rfl, _, hb1, _⟩
  · cases hg
  rcases h'.2 with ⟨rfl, _⟩ | ⟨g2, cap', cur', rfl, _, hb2, _⟩
  · cases hg'
  have e1 : g1 = g := by simpa [Value.ownBlock] using hg
  have e2 : g2 = g := by simpa [Value.ownBlock] using hg'
  subst e1; subst e2
  rw [hb1] at hb2
  cases hb2
  exact hne rfl
theorem row_grown {w w' : World} {B : Nat} {e : TypeId} {v : Value} {n : Nat} {xs : List Value} {row : Option Nat} (h : w.ownsRow B e 1 v n xs) (hg : w.grownBy w' row) (hne : ∀ g, v.ownBlock = some g → row ≠ some g) : w'.ownsRow B e 1 v n xs := by
  refine ⟨h.1, ?_⟩
  rcases h.2 with hn | ⟨g, cap, cur, rfl, hb, hg', rest⟩
  · exact .inl hn
  · exact .inr ⟨g, cap, cur, rfl, hb, (hg.block g (Array.getElem?_eq_some_iff.1 hg').1 (fun e => hne g rfl e.symm)).trans hg', rest⟩
theorem row_stored {w : World} {B : Nat} {e : TypeId} {v : Value} {n : Nat} {xs : List Value} (h : w.ownsRow B e 1 v n xs) (p : Addr) (u : Value) (hne : ∀ g, v.ownBlock = some g → p.block ≠ g) : (w.setCell p u).ownsRow B e 1 v n xs := by
  refine ⟨h.1, ?_⟩
  rcases h.2 with hn | ⟨g, cap, cur, rfl, hb, hg', rest⟩
  · exact .inl hn
  · exact .inr ⟨g, cap, cur, rfl, hb, (Below.heap_setCell _ _ _ _ (fun e => hne g rfl e.symm)).trans hg', rest⟩

/-- What holds while the answers are spoilt. -/
structure Spoil (w0 : World) (va : Value) (na : Nat) (vb' : Value) (nb : Nat) (wr : World) : Prop where
  a : ∃ xs, wr.ownsRow w0.heap.size 9 1 va na xs
  b : ∃ ys, wr.ownsRow w0.heap.size 5 1 vb' nb ys
  below : Below w0.heap.size w0 wr

theorem Spoil.seta {w0 wr : World} {g ca na nb : Nat} {vb' : Value} (h : Spoil w0 (.slice (some ⟨g, 0, none⟩) na ca) na vb' nb wr) {k : Nat} (hk : k < na) (u : Value) : Spoil w0 (.slice (some ⟨g, 0, none⟩) na ca) na vb' nb (wr.setCell ⟨g, k, none⟩ u) := by
  obtain ⟨xs, hx⟩ := h.a
  obtain ⟨ys, hy⟩ := h.b
  obtain ⟨g', u', e, hB, _⟩ := row_at hx hk
  cases e
  exact ⟨⟨_, row_set hx hk u⟩, ⟨_, row_stored hy _ _ (fun j hj e => row_other hy hx (by decide) j hj (by rw [← e]; rfl))⟩, h.below.setCell (p := ⟨g, k, none⟩) hB _⟩
theorem Spoil.setb {w0 wr : World} {g cb na nb : Nat} {va : Value} (h : Spoil w0 va na (.slice (some ⟨g, 0, none⟩) nb cb) nb wr) {k : Nat} (hk : k < nb) (u : Value) : Spoil w0 va na (.slice (some ⟨g, 0, none⟩) nb cb) nb (wr.setCell ⟨g, k, none⟩ u) := by
  obtain ⟨xs, hx⟩ := h.a
  obtain ⟨ys, hy⟩ := h.b
  obtain ⟨g', u', e, hB, _⟩ := row_at hy hk
  cases e
  exact ⟨⟨_, row_stored hx _ _ (fun j hj e => row_other hx hy (by decide) j hj (by rw [← e]; rfl))⟩, ⟨_, row_set hy hk u⟩, h.below.setCell (p := ⟨g, k, none⟩) hB _⟩

theorem Spoil.appA {w0 wr w1 : World} {na nb n' : Nat} {va vb' v' : Value} {o : Obj} {xs xs' : List Value} (h : Spoil w0 va na vb' nb wr) (hx : wr.ownsRow w0.heap.size 9 1 va na xs) (hown : w1.ownsRow w0.heap.size 9 1 v' n' xs') (hg : (wr.alloc o).grownBy w1 va.ownBlock) : Spoil w0 v' n' vb' nb w1 := by
  obtain ⟨ys, hy⟩ := h.b
  exact ⟨⟨_, hown⟩, ⟨_, row_grown (hy.alloc o) hg (row_other hy hx (by decide))⟩, (h.below.alloc h.below.size o).grown hg (by have := h.below.size; simp; omega) (fun j e => (hx.lt j e).1)⟩
theorem Spoil.appB {w0 wr w1 : World} {na nb n' : Nat} {va vb' v' : Value} {o : Obj} {ys xs' : List Value} (h : Spoil w0 va na vb' nb wr) (hy : wr.ownsRow w0.heap.size 5 1 vb' nb ys) (hown : w1.ownsRow w0.heap.size 5 1 v' n' xs') (hg : (wr.alloc o).grownBy w1 vb'.ownBlock) : Spoil w0 va na v' n' w1 := by
  obtain ⟨xs, hx⟩ := h.a
  exact ⟨⟨_, row_grown (hx.alloc o) hg (row_other hx hy (by decide))⟩, ⟨_, hown⟩, (h.below.alloc h.below.size o).grown hg (by have := h.below.size; simp; omega) (fun j e => (hy.lt j e).1)⟩

theorem wordsL_len : ∀ (l cur : List UInt8), (wordsGo cur l).length ≤ l.length + (if cur = [] then 0 else 1)
  | [], cur => by unfold wordsGo; split <;> simp
  | c :: l, cur => by
    unfold wordsGo
    split
    · split
      · have := wordsL_len l []; simp at this ⊢; omega
      · have := wordsL_len l []; simp at this ⊢; omega
    · have := wordsL_len l (cur ++ [c]); simp at this ⊢; omega

set_option maxRecDepth 100000 in
set_option maxHeartbeats 4000000 in
theorem own_any (ls : List UInt8) (hls : ls.length ≤ 9223372036854775807) (n : Int) (h0 : -9223372036854775808 ≤ n) (h1 : n ≤ 9223372036854775807) (w : World) (hG : Glob T e0 e1 e2 w) :
    Calls Tryd.prog 8 #[tv ls, .int .i64 n] w fun e w' => e = .returned (.bool true) ∧ Hid (Below w.heap.size w w') := by
  have HG := Lib.hid hG
  have Hf := Lib.hid (first_any w hG)
  have hsl : (⟨ls.toArray⟩ : ByteArray).size = ls.length := by simp [ByteArray.size]
  have hdl : (⟨ls.toArray⟩ : ByteArray).data.toList = ls := by simp
  by_cases hbig : 65536 < ls.length
  · have hd : decide ((65536 : Int) < (ls.length : Int)) = true := by simp; omega
    clear hG hbig hdl
    go_enter Tryd.func8, Tryd.ntmps8
    go_wp2_with (first | (go_at_call 9; refine Hf.out.mono ?_; rintro e w1 ⟨rfl, hb1⟩))
    go_ret
    exact ⟨rfl, hb1⟩
  have hd : decide ((65536 : Int) < (ls.length : Int)) = false := by simp; omega
  have hU := fold_lt n h0 h1
  have hl1 := vb_len_pos (foldN n)
  have hl10 := vb_len_10 (foldN n) hU
  have hwl : (wordsL ls).length ≤ 65536 := by have := wordsL_len ls []; simp at this; unfold wordsL; omega
  have hwords : ∀ w1, Below w.heap.size w w1 → Calls Tryd.prog 12 #[tv ls] w1 fun e w' => ∃ A : Nat, e = .returned (.slice (some ⟨A, 0, none⟩) (wordsL ls).length (wordsL ls).length) ∧ Hid (w'.ownsRow w.heap.size 9 1 (.slice (some ⟨A, 0, none⟩) (wordsL ls).length (wordsL ls).length) (wordsL ls).length (tc (wordsL ls)) ∧ Below w.heap.size w w' ∧ Below w1.heap.size w1 w') := fun w1 hb => (words_any ls (by omega) w1).mono fun e w' ⟨A, he, h2⟩ => ⟨A, he, row_base h2.out.1 hb.size, hb.trans (h2.out.2.mono hb.size), h2.out.2⟩
  have hput : ∀ w1, Below w.heap.size w w1 → Calls Tryd.prog 22 #[.slice none 0 0, .int .i64 n] w1 fun e w' => ∃ a c, e = .returned (.slice a (vb (foldN n)).length c) ∧ Hid (w'.ownsRow w.heap.size 5 1 (.slice a (vb (foldN n)).length c) (vb (foldN n)).length (bc (vb (foldN n))) ∧ Below w.heap.size w w' ∧ Below w1.heap.size w1 w') := fun w1 hb => (put_any n h0 h1 w1).mono fun e w' ⟨v, he, h2, h3⟩ => by
    obtain ⟨a, c, rfl⟩ := row_shape h2
    exact ⟨a, c, he, row_base h2 hb.size, hb.trans (h3.mono hb.size), h3⟩
  have hrefw : ∀ w1, Below w.heap.size w w1 → Calls Tryd.prog 13 #[tv ls] w1 fun e w' => ∃ a c, e = .returned (.slice a (wordsL ls).length c) ∧ Hid (TAt w' a (wordsL ls) ∧ Below w.heap.size w w' ∧ Below w1.heap.size w1 w') := fun w1 hb => by
    have h := refWords_any ⟨ls.toArray⟩ (by rw [hsl]; omega) w1
    rw [hdl] at h
    refine h.mono fun e w' ⟨v, he, h2⟩ => ?_
    obtain ⟨a, c, ha, ht⟩ := tat_row h2.out.1
    exact ⟨a, c, by rw [he, ha], ht, hb.trans (h2.out.2.mono hb.size), h2.out.2⟩
  have hrefb : ∀ w1, Below w.heap.size w w1 → Calls Tryd.prog 27 #[.int .i64 n] w1 fun e w' => ∃ a c, e = .returned (.slice a (vb (foldN n)).length c) ∧ Hid (BAt w' a (vb (foldN n)) ∧ Below w.heap.size w w' ∧ Below w1.heap.size w1 w') := fun w1 hb => (refBytes_any n h0 h1 w1).mono fun e w' ⟨v, he, h2⟩ => by
    obtain ⟨a, c, ha, ht⟩ := bat_row h2.out.1
    exact ⟨a, c, by rw [he, ha], ht, hb.trans (h2.out.2.mono hb.size), h2.out.2⟩
  have hst : ∀ w1 a a' c c', TAt w1 a (wordsL ls) → TAt w1 a' (wordsL ls) → Calls Tryd.prog 11 #[.slice a (wordsL ls).length c, .slice a' (wordsL ls).length c'] w1 fun e w' => e = .returned (.bool true) ∧ Hid (Below w1.heap.size w1 w') := fun w1 a a' c c' g1 g2 => by
    have h := sameTexts_any a a' c c' _ _ w1 g1 g2 (by omega) (by omega)
    rw [decide_eq_true rfl] at h
    exact h.mono fun e w' ⟨he, q, hq⟩ => ⟨he, by show Below _ _ _; rw [← hq]; exact below_drewN (Below.refl _ _) q⟩
  have hsb : ∀ w1 a a' c c', BAt w1 a (vb (foldN n)) → BAt w1 a' (vb (foldN n)) → Calls Tryd.prog 21 #[.slice a (vb (foldN n)).length c, .slice a' (vb (foldN n)).length c'] w1 fun e w' => e = .returned (.bool true) ∧ w1 = w' := fun w1 a a' c c' g1 g2 => by
    have h := sameBytes_any a a' c c' _ _ w1 g1 g2 (vb_byte _) (vb_byte _)
    rw [decide_eq_true rfl] at h
    exact h
  generalize wordsL ls = WL at *
  generalize vb (foldN n) = V at *
  have Hwords := Lib.hid hwords
  have Hput := Lib.hid hput
  have Hrefw := Lib.hid hrefw
  have Hrefb := Lib.hid hrefb
  have Hst := Lib.hid hst
  have Hsb := Lib.hid hsb
  clear hG hbig hdl hwords hput hrefw hrefb hst hsb hU
  obtain ⟨i0, hi, hz0, hz1, hz2⟩ := info_parts infoB
  obtain ⟨j0, hj, hy0, hy1, hy2⟩ := info_parts infoS
  go_enter Tryd.func8, Tryd.ntmps8
  go_wp2_with (first | (go_at_call 9; refine Hf.out.mono ?_; rintro e w1 ⟨rfl, hb1⟩))
  go_loopw [6] (fun i wr => ∃ r : Nat, r ≤ 2 ∧ i = .int .i64 r ∧ Hid (Below w.heap.size w wr)) (fun i _ => 2 - (intOf i).toNat)
  case atStart => exact ⟨0, by decide, rfl, hb1⟩
  case round =>
    obtain ⟨r, hr, rfl, HR⟩ := hrel
    clear hb1
    by_cases hr2 : r < 2
    · go_wp2_with (first | (go_at_call 12; refine (Hwords.out _ HR.out).mono ?_; rintro e w2 ⟨A, rfl, h2⟩) | (go_at_call 22; refine (Hput.out _ h2.out.2.1).mono ?_; rintro e w3 ⟨a3, c3, rfl, h3⟩))
      have hS : Spoil w (.slice (some ⟨A, 0, none⟩) WL.length WL.length) WL.length (.slice a3 V.length c3) V.length w3 := ⟨⟨_, row_grown (row_base h2.out.1 (Nat.le_refl _)) (row := none) ⟨h3.out.2.2.os, h3.out.2.2.tape, h3.out.2.2.output, h3.out.2.2.size, fun k hk _ => h3.out.2.2.block k hk⟩ (fun _ _ h => by cases h)⟩, ⟨_, h3.out.1⟩, h3.out.2.1⟩
      have HS := Lib.hid hS
      clear hS h2 h3
      go_loopw [9] (fun i wr' => ∃ k : Nat, k ≤ WL.length ∧ i = .int .i64 k ∧ Hid (Spoil w (.slice (some ⟨A, 0, none⟩) WL.length WL.length) WL.length (.slice a3 V.length c3) V.length wr')) (fun i _ => WL.length - (intOf i).toNat)
      case atStart => exact ⟨0, Nat.zero_le _, rfl, HS.out⟩
      case round =>
        obtain ⟨k, hk, rfl, HS2⟩ := hrel
        clear HS
        by_cases hlt : k < WL.length
        · obtain ⟨xs, hx⟩ := HS2.out.a
          obtain ⟨g, u, eg, _, hcg, hfg⟩ := row_at hx hlt
          cases eg
          have HS3 := Lib.hid (HS2.out.seta hlt (tv [115, 112, 111, 105, 108, 116]))
          clear hx
          go_wp2
          go_roundw
          case rel => exact ⟨k + 1, by omega, by go_num, HS3.out⟩
          case measure => simp [intOf]; omega
        · have hke : k = WL.length := by omega
          subst hke
          go_wp2
          go_loopw [10] (fun i wr2 => ∃ k : Nat, k ≤ V.length ∧ i = .int .i64 k ∧ Hid (Spoil w (.slice (some ⟨A, 0, none⟩) WL.length WL.length) WL.length (.slice a3 V.length c3) V.length wr2)) (fun i _ => V.length - (intOf i).toNat)
          case atStart => exact ⟨0, Nat.zero_le _, rfl, HS2.out⟩
          case round =>
            obtain ⟨k, hk, rfl, HS3⟩ := hrel
            clear HS2
            by_cases hlt2 : k < V.length
            · obtain ⟨ys, hy⟩ := HS3.out.b
              obtain ⟨g, u, eg, _, hcg, hfg⟩ := row_at hy hlt2
              cases eg
              have HS4 := Lib.hid (HS3.out.setb hlt2 (.int .u8 238))
              clear hy
              go_wp2
              go_roundw
              case rel => exact ⟨k + 1, by omega, by go_num, HS4.out⟩
              case measure => simp [intOf]; omega
            · have hke2 : k = V.length := by omega
              subst hke2
              have ht1 : decide (((WL.length + 1 : Nat) : Int) < 1) = false := by simp; omega
              have ht2 : decide (((V.length + 1 : Nat) : Int) < 1) = false := by simp; omega
              generalize Value.slice (some ⟨A, 0, none⟩) WL.length WL.length = va at HS3 ⊢
              obtain ⟨xs, hx⟩ := HS3.out.a
              have hbs := HS3.out.below.size
              go_wp2_with (first | (at_builtin; refine wpList_append_own _ rfl _ _ 22 rfl w.heap.size 9 j0 (.string ⟨#[]⟩) 1 16 under22 hj hy0 hy1 hy2 rfl (by decide) _ _ _ rfl (hx.alloc _) ⟨_, 0, none⟩ 1 1 [tv [109, 111, 114, 101]] rfl rfl (cell_one_new _ _ _) (by simp [Value.oneCell']) (by unfold maxLen; omega) (by omega) (by simp; omega) ?_; intro v6 w6 hown6 hgrow6 _; have HS5 := Lib.hid (HS3.out.appA hx hown6 hgrow6); obtain ⟨a6, c6, rfl⟩ := row_shape hown6; clear hx hown6 hgrow6 HS3 hbs; generalize Value.slice a3 V.length c3 = vv at HS5 ⊢; obtain ⟨ys, hy⟩ := HS5.out.b; have hbs5 := HS5.out.below.size) | (at_builtin; refine wpList_append_own _ rfl _ _ 31 rfl w.heap.size 5 i0 (.int .u8 0) 1 1 under31 hi hz0 hz1 hz2 rfl (by decide) _ _ _ rfl (hy.alloc _) ⟨_, 0, none⟩ 1 1 [.int .u8 1] rfl rfl (cell_one_new _ _ _) (by simp [Value.oneCell']) (by unfold maxLen; omega) (by omega) (by simp; omega) ?_; intro v7 w7 hown7 hgrow7 _; have HS6 := Lib.hid (HS5.out.appB hy hown7 hgrow7); obtain ⟨a7, c7, rfl⟩ := row_shape hown7; clear hy hown7 hgrow7 HS5 hbs5))
              go_roundw
              case rel => exact ⟨r + 1, by omega, by go_num, HS6.out.below⟩
              case measure => simp [intOf]; omega
    · have hre : r = 2 := by omega
      subst hre
      go_wp2_with (first
        | (go_at_call 12; refine (Hwords.out _ HR.out).mono ?_; rintro e w2 ⟨A, rfl, h2⟩; obtain ⟨a2, c2, ha2, ht2⟩ := tat_row h2.out.1; cases ha2; have H2 := Lib.hid (And.intro ht2 h2.out.2.1); clear h2 ht2 Hwords)
        | (go_at_call 13; refine (Hrefw.out _ H2.out.2).mono ?_; rintro e w3 ⟨a3, c3, rfl, h3⟩; have H3 := Lib.hid (And.intro (H2.out.1.below' h3.out.2.2) h3.out); clear h3 H2 Hrefw)
        | (go_at_call 11; refine (Hst.out _ _ _ _ _ H3.out.1 H3.out.2.1).mono ?_; rintro e w4 ⟨rfl, h4⟩; have H4 := Lib.hid (H3.out.2.2.1.trans (h4.out.mono H3.out.2.2.1.size)); clear h4 H3 Hst)
        | (go_at_call 22; refine (Hput.out _ H4.out).mono ?_; rintro e w5 ⟨a5, c5, rfl, h5⟩; obtain ⟨a5', c5', ha5, ht5⟩ := bat_row h5.out.1; cases ha5; have H5 := Lib.hid (And.intro ht5 h5.out.2.1); clear h5 ht5 Hput)
        | (go_at_call 27; refine (Hrefb.out _ H5.out.2).mono ?_; rintro e w6 ⟨a6, c6, rfl, h6⟩; have H6 := Lib.hid (And.intro (H5.out.1.below' h6.out.2.2) h6.out); clear h6 H5 Hrefb)
        | (go_at_call 21; refine (Hsb.out _ _ _ _ _ H6.out.1 H6.out.2.1).mono ?_; rintro e w7 ⟨rfl, rfl⟩))
      go_ret
      exact ⟨rfl, H6.out.2.2.1⟩
end Go.Proofs.YtaddpekjmboimaaDoor
