/- Helpers, joined: Mp, Mq, Mr, Dd. -/
import Derived.Test.YtcjfcomadcebnaaGreatDoorM4
import Derived.Test.YtcjfcomadcebnaaGreatDoorM5
import Derived.Deep.Cut

/- mapped, the document's, by contracts. -/
namespace Go.Proofs.YtcjfcomadcebnaaGreatDoor
open Go.RowKit Go.Maps Go.WideMaps Go.WideElems Go.ChangeShapes Go.WideShapes
variable {T : TypeId} {er : Nat → Addr}

/-- A state of the document. -/
abbrev dv (k n : Int) (ka : Option Addr) (nk kc : Nat) (va : Option Addr) (nv vc : Nat) : Value := .agg #[.int .i64 k, .int .i64 n, .slice ka nk kc, .slice va nv vc]
abbrev dcs (k n : Int) (K V : Value) : Array Value := #[.int .i64 k, .int .i64 n, K, V]
/-- An address at or above a bound. -/
def Ge (B : Nat) (a : Option Addr) : Prop := ∀ b o, a = some ⟨b, o, none⟩ → B ≤ b
/-- What a call gives that answers a state with these keys and values. -/
def DvRes (B : Nat) (k n : Int) (ks vs : List Int) (ret got : Int) (w : World) (e : Ending) (w' : World) : Prop :=
  ∃ ka kc va vc, e = .returned (.tuple #[dv k n ka ks.length kc va vs.length vc, .int .i64 ret, .int .i64 got, .int .i64 0]) ∧ Hid (IAt w' ka ks ∧ IAt w' va vs ∧ (ka = none → kc = 0) ∧ (va = none → vc = 0) ∧ ks.length ≤ kc ∧ vs.length ≤ vc ∧ Below B w w' ∧ Ge B ka ∧ Ge B va)
theorem own_ge {W : World} {B n c : Nat} {a : Option Addr} {xs : List Value} (h : W.ownsRow B 3 1 (.slice a n c) n xs) : Ge B a := by
  intro b o e
  rcases h.2 with ⟨e1, _⟩ | ⟨g, cap, cur, e1, hb, _⟩
  · cases e1; cases e
  · cases e1; cases e; exact hb
theorem Ge.mono {B C : Nat} {a : Option Addr} (h : Ge C a) (hb : B ≤ C) : Ge B a := fun b o e => Nat.le_trans hb (h b o e)
theorem dv_mono {B C : Nat} {k n : Int} {ks vs : List Int} {r g : Int} {w : World} {e : Ending} {w' : World} (hb : B ≤ C) (h : DvRes C k n ks vs r g w e w') : DvRes B k n ks vs r g w e w' := by
  obtain ⟨ka, kc, va, vc, he, h1, h2, h3, h4, h5, h6, h7, h8, h9⟩ := h
  exact ⟨ka, kc, va, vc, he, h1, h2, h3, h4, h5, h6, h7.mono hb, h8.mono hb, h9.mono hb⟩
theorem elem3 : (Tryz.prog.info? 3).map (fun i => (i.zero, i.size, i.bytes)) = some (some (.int .i64 0), 1, 8) := by kernel_rfl
/-- A part of a list, by its address. -/
theorem iat_take {W : World} {a : Option Addr} {zs : List Int} (h : IAt W a zs) (i : Nat) : IAt W a (zs.take i) := by
  rcases h with h | ⟨b, off, e, hc⟩
  · subst h; exact .inl (by simp)
  · refine .inr ⟨b, off, e, fun k hk => ?_⟩
    rw [List.length_take] at hk
    rw [hc k (by omega), List.getElem?_take_of_lt (by omega)]
theorem iat_drop {W : World} {a : Option Addr} {zs : List Int} {c i : Nat} (h : IAt W a zs) (hi : i ≤ zs.length) (hc : zs.length ≤ c) : IAt W (if c = i then a else Option.map (fun x => x.add i) a) (zs.drop i) := by
  by_cases he : zs.drop i = []
  · exact .inl he
  rcases h with h | ⟨b, off, e, hcell⟩
  · subst h; exact .inl (by simp)
  have hlt : i < zs.length := by
    rcases Nat.lt_or_ge i zs.length with h | h
    · exact h
    · exact absurd (List.drop_eq_nil_of_le h) he
  rw [if_neg (by omega)]
  refine .inr ⟨b, off + i, ?_, fun k hk => ?_⟩
  · subst e
    show some (Addr.add _ _) = _
    unfold Addr.add
    split
    · rename_i h0; subst h0; rfl
    · rfl
  · rw [List.length_drop] at hk
    rw [Nat.add_assoc, hcell (i + k) (by omega), List.getElem?_drop]
theorem stepD {W V : World} {n : Nat} (h : Below n W V) : Below n W V.drew := h.drew
theorem cellB {W V : World} {n b o : Nat} {u : Value} (h : Below n W V) (hn : b < n) (hc : W.cell? ⟨b, o, none⟩ = some u) : V.cell? ⟨b, o, none⟩ = some u := (h.cell (p := ⟨b, o, none⟩) hn).trans hc
theorem cellS {W : World} {a b o o' : Nat} {u v : Value} (hne : a ≠ b) (h : W.cell? ⟨a, o, none⟩ = some u) : (W.setCell ⟨b, o', none⟩ v).cell? ⟨a, o, none⟩ = some u := by
  have e := Below.heap_setCell W ⟨b, o', none⟩ v a hne
  simp only [World.cell?] at h ⊢
  rw [e]; exact h
theorem iat_at {W V : World} {a : Option Addr} {zs : List Int} (h : IAt W a zs) (hb : Below W.heap.size W V) : IAt V a zs := h.below hb
theorem le_at {W V : World} (h : Below W.heap.size W V) : W.heap.size ≤ V.heap.size := h.size
/-- The boxes of a call, in the worlds behind. -/
structure Mb (w : World) (sb tb rb : Nat) (S4 T4 R4 : Array Value) (V : World) : Prop where
  below : Below w.heap.size w V
  sbx : V.heap[sb]? = some (.cells S4 39)
  tbx : V.heap[tb]? = some (.cells T4 39)
  rbx : V.heap[rb]? = some (.cells R4 39)
theorem Mb.drew {w V : World} {sb tb rb : Nat} {S4 T4 R4 : Array Value} (h : Mb w sb tb rb S4 T4 R4 V) : Mb w sb tb rb S4 T4 R4 V.drew := ⟨h.below.drew, h.sbx, h.tbx, h.rbx⟩
theorem Mb.alloc {w V : World} {sb tb rb : Nat} {S4 T4 R4 : Array Value} (h : Mb w sb tb rb S4 T4 R4 V) (o : Obj) : Mb w sb tb rb S4 T4 R4 (V.alloc o) := ⟨stepA h.below o, keepA o h.sbx, keepA o h.tbx, keepA o h.rbx⟩
theorem Mb.next {w V U : World} {sb tb rb : Nat} {S4 T4 R4 : Array Value} (hb : Below V.heap.size V U) (h : Mb w sb tb rb S4 T4 R4 V) : Mb w sb tb rb S4 T4 R4 U := ⟨stepB h.below hb, keepB hb h.sbx, keepB hb h.tbx, keepB hb h.rbx⟩
theorem Mb.grown {w V U : World} {sb tb rb g n c : Nat} {S4 T4 R4 : Array Value} {xs : List Value} (hr : V.ownsRow w.heap.size 3 1 (.slice (some ⟨g, 0, none⟩) n c) n xs) (hg : V.grownBy U (Value.ownBlock (.slice (some ⟨g, 0, none⟩) n c))) (h : Mb w sb tb rb S4 T4 R4 V) : Mb w sb tb rb S4 T4 R4 U := by
  obtain ⟨hB, cur, hc⟩ := row_heap hr
  have k : ∀ {j : Nat} {cs : Array Value}, V.heap[j]? = some (.cells cs 39) → U.heap[j]? = some (.cells cs 39) := fun {j cs} hj => keepG hg (fun e => ne_of_type hc hj (by decide) (by simpa [Value.ownBlock] using e)) hj
  exact ⟨h.below.grown hg h.below.size (fun j e => by have e2 : g = j := (by simpa [Value.ownBlock] using e); omega), k h.sbx, k h.tbx, k h.rbx⟩
/-- One of t's lists written over. -/
theorem Mb.setT {w V : World} {sb tb rb : Nat} {S4 T4 R4 : Array Value} (h : Mb w sb tb rb S4 T4 R4 V) (ht : w.heap.size ≤ tb) (h1 : tb ≠ sb) (h2 : tb ≠ rb) (o : Nat) (u : Value) : Mb w sb tb rb S4 (T4.setIfInBounds o u) R4 (V.setCell ⟨tb, o, none⟩ u) :=
  ⟨h.below.setCell (p := ⟨tb, o, none⟩) ht u, keepS h1 h.sbx, heap_setCell_same V tb o _ _ u h.tbx, keepS h2 h.rbx⟩
theorem row_four {W : World} {B : Nat} {x y z u : Value} {t : TypeId} (h : W.heap[B]? = some (.cells #[x, y, z, u] t)) :
    (W.cell? ⟨B, 0, none⟩ = some x ∧ W.cell? ⟨B, 1, none⟩ = some y) ∧ W.cell? ⟨B, 2, none⟩ = some z ∧ W.cell? ⟨B, 3, none⟩ = some u := by simp [World.cell?, h]
theorem row_set4 {W : World} {g : Nat} {x y z u : Value} {t : TypeId} (h : W.heap[g]? = some (.cells #[x, y, z, u] t)) (p q r s : Value) :
    (W.cell? ⟨g, 0, none⟩ = some x ∧ W.frozen? ⟨g, 0, none⟩ = false) ∧
    ((W.setCell ⟨g, 0, none⟩ p).cell? ⟨g, 1, none⟩ = some y ∧ (W.setCell ⟨g, 0, none⟩ p).frozen? ⟨g, 1, none⟩ = false) ∧
    (((W.setCell ⟨g, 0, none⟩ p).setCell ⟨g, 1, none⟩ q).cell? ⟨g, 2, none⟩ = some z ∧ ((W.setCell ⟨g, 0, none⟩ p).setCell ⟨g, 1, none⟩ q).frozen? ⟨g, 2, none⟩ = false) ∧
    ((((W.setCell ⟨g, 0, none⟩ p).setCell ⟨g, 1, none⟩ q).setCell ⟨g, 2, none⟩ r).cell? ⟨g, 3, none⟩ = some u ∧ (((W.setCell ⟨g, 0, none⟩ p).setCell ⟨g, 1, none⟩ q).setCell ⟨g, 2, none⟩ r).frozen? ⟨g, 3, none⟩ = false) ∧
    ((((W.setCell ⟨g, 0, none⟩ p).setCell ⟨g, 1, none⟩ q).setCell ⟨g, 2, none⟩ r).setCell ⟨g, 3, none⟩ s).heap[g]? = some (.cells #[p, q, r, s] t) := by
  have h1 : (W.setCell ⟨g, 0, none⟩ p).heap[g]? = some (.cells #[p, y, z, u] t) := heap_setCell_same W g 0 _ t p h
  have h2 : ((W.setCell ⟨g, 0, none⟩ p).setCell ⟨g, 1, none⟩ q).heap[g]? = some (.cells #[p, q, z, u] t) := heap_setCell_same _ g 1 _ t q h1
  have h3 : (((W.setCell ⟨g, 0, none⟩ p).setCell ⟨g, 1, none⟩ q).setCell ⟨g, 2, none⟩ r).heap[g]? = some (.cells #[p, q, r, u] t) := heap_setCell_same _ g 2 _ t r h2
  have h4 := heap_setCell_same _ g 3 _ t s h3
  exact ⟨⟨(row_four h).1.1, frozen_of_row _ g 0 _ t h⟩, ⟨(row_four h1).1.2, frozen_of_row _ g 1 _ t h1⟩, ⟨(row_four h2).2.1, frozen_of_row _ g 2 _ t h2⟩, ⟨(row_four h3).2.2, frozen_of_row _ g 3 _ t h3⟩, h4⟩
/-- The result's box written. -/
theorem mapped_fin {w V : World} {sb tb rb B1 B2 : Nat} {S4 T4 : Array Value} {k n : Int} {ka va : Option Addr} {nk kc nv vc : Nat} {ks vs : List Int} (hM : Mb w sb tb rb S4 T4 (dcs 0 0 (.slice none 0 0) (.slice none 0 0)) V) (hr : w.heap.size ≤ rb) (h1 : rb < B1) (h2 : rb < B2)
    (RK : V.ownsRow B1 3 1 (.slice ka nk kc) nk (ks.map (Value.int .i64))) (RV : V.ownsRow B2 3 1 (.slice va nv vc) nv (vs.map (Value.int .i64))) (hk : ks.length = nk) (hv : vs.length = nv) :
    ∃ V1 V2 V3 V4, V.setCell ⟨rb, 0, none⟩ (.int .i64 k) = V1 ∧ V1.setCell ⟨rb, 1, none⟩ (.int .i64 n) = V2 ∧ V2.setCell ⟨rb, 2, none⟩ (.slice ka nk kc) = V3 ∧ V3.setCell ⟨rb, 3, none⟩ (.slice va nv vc) = V4 ∧
      ((V.cell? ⟨rb, 0, none⟩ = some (.int .i64 0) ∧ V.frozen? ⟨rb, 0, none⟩ = false) ∧ (V1.cell? ⟨rb, 1, none⟩ = some (.int .i64 0) ∧ V1.frozen? ⟨rb, 1, none⟩ = false) ∧ (V2.cell? ⟨rb, 2, none⟩ = some (.slice none 0 0) ∧ V2.frozen? ⟨rb, 2, none⟩ = false) ∧ (V3.cell? ⟨rb, 3, none⟩ = some (.slice none 0 0) ∧ V3.frozen? ⟨rb, 3, none⟩ = false)) ∧
      Hid (V4.heap[rb]? = some (.cells (dcs k n (.slice ka nk kc) (.slice va nv vc)) 39)) ∧ Hid (IAt V4 ka ks ∧ IAt V4 va vs ∧ (ka = none → kc = 0) ∧ (va = none → vc = 0) ∧ ks.length ≤ kc ∧ vs.length ≤ vc ∧ Below w.heap.size w V4 ∧ Ge w.heap.size ka ∧ Ge w.heap.size va) := by
  obtain ⟨f0, f1, f2, f3, hf⟩ := row_set4 hM.rbx (.int .i64 k) (.int .i64 n) (.slice ka nk kc) (.slice va nv vc)
  refine ⟨_, _, _, _, rfl, rfl, rfl, rfl, ⟨f0, f1, f2, f3⟩, hf, ?_⟩
  have RK' := ownsRow_setCell_below (ownsRow_setCell_below (ownsRow_setCell_below (ownsRow_setCell_below RK (a := ⟨rb, 0, none⟩) h1 (.int .i64 k)) (a := ⟨rb, 1, none⟩) h1 (.int .i64 n)) (a := ⟨rb, 2, none⟩) h1 (.slice ka nk kc)) (a := ⟨rb, 3, none⟩) h1 (.slice va nv vc)
  have RV' := ownsRow_setCell_below (ownsRow_setCell_below (ownsRow_setCell_below (ownsRow_setCell_below RV (a := ⟨rb, 0, none⟩) h2 (.int .i64 k)) (a := ⟨rb, 1, none⟩) h2 (.int .i64 n)) (a := ⟨rb, 2, none⟩) h2 (.slice ka nk kc)) (a := ⟨rb, 3, none⟩) h2 (.slice va nv vc)
  obtain ⟨sk, ck⟩ := row_sl0 RK'
  obtain ⟨sv, cv⟩ := row_sl0 RV'
  obtain ⟨_, _, ek, _, lk⟩ := row_sl RK'
  obtain ⟨_, _, ev, _, lv⟩ := row_sl RV'
  cases ek
  cases ev
  exact ⟨sk.ints, sv.ints, ck, cv, by omega, by omega, (((hM.below.setCell (p := ⟨rb, 0, none⟩) hr _).setCell (p := ⟨rb, 1, none⟩) hr _).setCell (p := ⟨rb, 2, none⟩) hr _).setCell (p := ⟨rb, 3, none⟩) hr _, (own_ge RK).mono (by omega), (own_ge RV).mono (by omega)⟩
/-- The three boxes. -/
theorem mb_new (w : World) (S4 T4 R4 : Array Value) : ∃ W1 W2 W3, w.alloc (.cells S4 39) = W1 ∧ W1.alloc (.cells T4 39) = W2 ∧ W2.alloc (.cells R4 39) = W3 ∧ Hid (Mb w w.heap.size W1.heap.size W2.heap.size S4 T4 R4 W3) ∧ Hid (w.heap.size < W1.heap.size ∧ W1.heap.size < W2.heap.size) := by
  obtain ⟨W1, h1, b1, s1, x1⟩ := cells_new w S4 39
  obtain ⟨W2, h2, b2, s2, x2⟩ := cells_new W1 T4 39
  obtain ⟨W3, h3, b3, s3, x3⟩ := cells_new W2 R4 39
  exact ⟨W1, W2, W3, h1, h2, h3, ⟨stepB (stepB b1.out b2.out) b3.out, keepB b3.out (keepB b2.out x1.out), keepB b3.out x2.out, x3.out⟩, s1.out, s2.out⟩

set_option maxRecDepth 100000 in
set_option maxHeartbeats 4000000 in
theorem mapped_new (k n key val : Int) (A C : List (Int × Int)) (ka va : Option Addr) (kc vc : Nat) (K V : Value) (w : World) (hk : IAt w ka ((A ++ C).map (·.1))) (hv : IAt w va ((A ++ C).map (·.2))) (hkc : (A ++ C).length ≤ kc) (hvc : (A ++ C).length ≤ vc) (hlen : (A ++ C).length ≤ 100000)
    (hat : ∀ W, Below w.heap.size w W → Calls Tryz.prog 103 #[dv k n ka (A ++ C).length kc va (A ++ C).length vc, .int .i64 key] W fun e w' => e = .returned (.tuple #[.int .i64 A.length, .bool false]) ∧ Hid (Below W.heap.size W w')) :
    Calls Tryz.prog 79 #[dv k n ka (A ++ C).length kc va (A ++ C).length vc, .agg #[.int .i64 k, .int .i64 n, K, V], .int .i64 7, .int .i64 key, .int .i64 val] w (DvRes w.heap.size k n (((A ++ (key, val) :: C)).map (·.1)) ((A ++ (key, val) :: C).map (·.2)) 1 0 w) := by
  obtain ⟨i0, hi, hz0, hz1, hz2⟩ := info_parts elem3
  obtain ⟨N, hN⟩ : ∃ N, (A ++ C).length = N := ⟨_, rfl⟩
  obtain ⟨a, ha⟩ : ∃ a, A.length = a := ⟨_, rfl⟩
  have haN : a ≤ N := by rw [← hN, ← ha]; simp
  have hCN : C.length = N - a := by rw [← hN, ← ha]; simp
  obtain ⟨AK, hAK⟩ : ∃ l, A.map (·.1) = l := ⟨_, rfl⟩
  obtain ⟨CK, hCK⟩ : ∃ l, C.map (·.1) = l := ⟨_, rfl⟩
  obtain ⟨AV, hAV⟩ : ∃ l, A.map (·.2) = l := ⟨_, rfl⟩
  obtain ⟨CV, hCV⟩ : ∃ l, C.map (·.2) = l := ⟨_, rfl⟩
  have HlAK : Hid (AK.length = a) := by show _ = _; rw [← hAK]; simpa using ha
  have HlAV : Hid (AV.length = a) := by show _ = _; rw [← hAV]; simpa using ha
  have HlCK : Hid (CK.length = N - a) := by show _ = _; rw [← hCK]; simpa using hCN
  have HlCV : Hid (CV.length = N - a) := by show _ = _; rw [← hCV]; simpa using hCN
  have hKall : (A ++ C).map (·.1) = AK ++ CK := by rw [List.map_append, hAK, hCK]
  have hVall : (A ++ C).map (·.2) = AV ++ CV := by rw [List.map_append, hAV, hCV]
  have HKout : Hid ((A ++ (key, val) :: C).map (·.1) = AK ++ [key] ++ CK) := by show _ = _; rw [List.map_append, List.map_cons, hAK, hCK]; simp
  have HVout : Hid ((A ++ (key, val) :: C).map (·.2) = AV ++ [val] ++ CV) := by show _ = _; rw [List.map_append, List.map_cons, hAV, hCV]; simp
  rw [hKall] at hk
  rw [hVall] at hv
  rw [hN] at hat hkc hvc hlen ⊢
  rw [ha] at hat
  obtain ⟨AK2, hAK2⟩ : ∃ A2, (if kc = a then ka else Option.map (fun x => x.add a) ka) = A2 := ⟨_, rfl⟩
  obtain ⟨AV2, hAV2⟩ : ∃ A2, (if vc = a then va else Option.map (fun x => x.add a) va) = A2 := ⟨_, rfl⟩
  have HA1 : Hid (IAt w ka AK) := by have h := iat_take hk a; rwa [List.take_left' HlAK.out] at h
  have HA2 : Hid (IAt w va AV) := by have h := iat_take hv a; rwa [List.take_left' HlAV.out] at h
  have HC1 : Hid (IAt w AK2 CK) := by
    have h := iat_drop (i := a) (c := kc) hk (by rw [List.length_append, HlAK.out]; omega) (by rw [List.length_append, HlAK.out, HlCK.out]; omega)
    rw [List.drop_left' HlAK.out, hAK2] at h; exact h
  have HC2 : Hid (IAt w AV2 CV) := by
    have h := iat_drop (i := a) (c := vc) hv (by rw [List.length_append, HlAV.out]; omega) (by rw [List.length_append, HlAV.out, HlCV.out]; omega)
    rw [List.drop_left' HlAV.out, hAV2] at h; exact h
  obtain ⟨W1, W2, W3, hW1, hW2, hW3, HM, Hlt⟩ := mb_new w (dcs k n (.slice ka N kc) (.slice va N vc)) (dcs k n K V) (dcs 0 0 (.slice none 0 0) (.slice none 0 0))
  have HAT := Lib.hid (hat W3 HM.out.below)
  obtain ⟨⟨s0, s1⟩, s2, s3⟩ := row_four HM.out.sbx
  have HN := Lib.hid hN
  have Ha := Lib.hid ha
  clear hat hk hv hN ha hAK hCK hAV hCV hKall hVall hCN
  go_enter Tryz.func79, Tryz.ntmps79
  go_wp2_with (first
    | (go_at_call 103; (with_reducible refine HAT.out.mono ?_); rintro e w4 ⟨rfl, h4⟩
       have M4 := Lib.hid (HM.out.next h4.out)
       have B4 : Hid (Below w.heap.size w w4) := M4.out.below
       obtain ⟨⟨t0, t1⟩, t2, t3⟩ := row_four M4.out.sbx
       have S2k := Lib.hid t2
       have Tk : Hid (w4.heap[W1.heap.size]? = some (.cells (dcs k n K V) 39)) := M4.out.tbx
       have HAKk := Lib.hid (HA1.out.below B4.out)
       have HCKk := Lib.hid (HC1.out.below B4.out)
       have Hw4s : Hid (w.heap.size < w4.heap.size) := (Array.getElem?_eq_some_iff.1 M4.out.sbx).1))
  clear s0 s1 s2 s3 t0 t1 t3
  have hakc : a ≤ kc := by omega
  have hacI : (a : Int) ≤ (kc : Int) := by omega
  have haNI : (a : Int) ≤ (N : Int) := by omega
  have havI : (a : Int) ≤ (vc : Int) := by omega
  go_region_held3 (fun w' => w'.cell? ⟨w.heap.size, 2, none⟩ = some (.slice ka N kc)) ((first | (refine cellB (n := w4.heap.size) ?_ Hw4s.out S2k.out; (repeat (first | exact B5k.out | exact B3k.out | exact B2k.out | exact B1k.out | (with_reducible exact Below.refl _ _) | (with_reducible refine stepD ?_) | (with_reducible refine stepA ?_ _))); done) | (with_reducible refine cellS (Nat.ne_of_lt Hlt.out.1) ?_; refine cellB (n := w4.heap.size) ?_ Hw4s.out S2k.out; (repeat (first | exact B5k.out | exact B3k.out | exact B2k.out | exact B1k.out | (with_reducible exact Below.refl _ _) | (with_reducible refine stepD ?_) | (with_reducible refine stepA ?_ _))); done)))
    (first
      | (go_at_call 21; (with_reducible refine (ints2 ka a kc AK HlAK.out (by omega) _ (iat_at HAKk.out (by (repeat (first | exact B5k.out | exact B3k.out | exact B2k.out | exact B1k.out | (with_reducible exact Below.refl _ _) | (with_reducible refine stepD ?_) | (with_reducible refine stepA ?_ _)))))).mono ?_); rintro e w1k ⟨g1k, c1k, rfl, h1k⟩
         have b1k := Lib.hid h1k.out.2
         have B1k : Hid (Below w4.heap.size w4 w1k) := stepB (by (repeat (first | exact B5k.out | exact B3k.out | exact B2k.out | exact B1k.out | (with_reducible exact Below.refl _ _) | (with_reducible refine stepD ?_) | (with_reducible refine stepA ?_ _)))) b1k.out
         have R1k := Lib.hid (row_base h1k.out.1 (le_at (W := w4) (by (repeat (first | exact B5k.out | exact B3k.out | exact B2k.out | exact B1k.out | (with_reducible exact Below.refl _ _) | (with_reducible refine stepD ?_) | (with_reducible refine stepA ?_ _))))))
         clear h1k)
      | (refine step_append_lies _ rfl _ _ 37 rfl w4.heap.size 3 i0 _ 1 8 Tryz.underlying37 hi hz0 hz1 hz2 rfl (by decide) (.slice (some ⟨g1k, 0, none⟩) a c1k) a (AK.map (Value.int .i64)) rfl (by first | exact R1k.out | exact R1k.out.alloc _) ⟨_, 0, none⟩ 1 1 [.int .i64 key] rfl rfl (one_row (by (repeat (first | (with_reducible refine newA _ ?_; first | rfl | (simp; done)) | (with_reducible refine keepA _ ?_) | (with_reducible refine keepD ?_) | (with_reducible refine keepB b1k.out ?_))))) (by simp [Value.oneCell']) (by decide) (by unfold maxLen; omega) (by omega) (le_at (W := w4) (by (repeat (first | exact B5k.out | exact B3k.out | exact B2k.out | exact B1k.out | (with_reducible exact Below.refl _ _) | (with_reducible refine stepD ?_) | (with_reducible refine stepA ?_ _))))) _ rfl ?_
         intro g2k c2k w2k hown2 hgrow2 hat2 hlt2
         have B2k : Hid (Below w4.heap.size w4 w2k) := below_own (by (repeat (first | exact B5k.out | exact B3k.out | exact B2k.out | exact B1k.out | (with_reducible exact Below.refl _ _) | (with_reducible refine stepD ?_) | (with_reducible refine stepA ?_ _)))) hgrow2 (by first | exact R1k.out | exact R1k.out.alloc _) (le_at (W := w4) (by (repeat (first | exact B5k.out | exact B3k.out | exact B2k.out | exact B1k.out | (with_reducible exact Below.refl _ _) | (with_reducible refine stepD ?_) | (with_reducible refine stepA ?_ _)))))
         have R2k := Lib.hid hown2
         clear hown2 hgrow2 hat2 hlt2)
      | (go_at_call 21; (with_reducible refine (ints2 AK2 (N - a) (kc - a) CK HlCK.out (by omega) _ (iat_at HCKk.out B2k.out)).mono ?_); rintro e w3k ⟨g3k, c3k, rfl, h3k⟩
         have B3k : Hid (Below w4.heap.size w4 w3k) := stepB B2k.out h3k.out.2
         have R3k := Lib.hid h3k.out.1
         have R4k := Lib.hid (row_kept R2k.out h3k.out.2)
         clear h3k)
      | (refine step_append_own rfl _ _ 37 rfl w4.heap.size 3 i0 _ 1 8 Tryz.underlying37 hi hz0 hz1 hz2 rfl (by decide) (.slice (some ⟨g2k, 0, none⟩) (a + 1) c2k) (a + 1) _ rfl R4k.out ⟨g3k, 0, none⟩ (N - a) c3k (CK.map (Value.int .i64)) rfl (by rw [List.length_map, HlCK.out, Nat.mul_one]) (row_news R3k.out) (ints_one _) (by unfold maxLen; omega) (by omega) (le_at (W := w4) B3k.out) ?_
         intro v5k w5k hown5 hgrow5
         have B5k : Hid (Below w4.heap.size w4 w5k) := below_own B3k.out hgrow5 R4k.out (le_at (W := w4) B3k.out)
         obtain ⟨a5k, c5k, rfl, hsl5, hle5⟩ := row_sl hown5
         obtain ⟨hsl0, hnc5k⟩ := row_sl0 hown5
         have I5k := Lib.hid (SlAt.ints (zs := AK ++ [key] ++ CK) (by simpa using hsl5))
         have R5k := Lib.hid hown5
         have Hle5k := Lib.hid hle5
         have Hnc5k := Lib.hid hnc5k
         have TBk := Lib.hid (keepB B5k.out Tk.out)
         obtain ⟨⟨-, -⟩, q2, q3⟩ := row_four TBk.out
         have qf := frozen_of_row _ _ 2 _ _ TBk.out
         clear hown5 hgrow5 hsl5 hle5 hsl0 hnc5k))
  all_goals
    obtain ⟨V1, hV1⟩ : ∃ V, w5k.setCell ⟨W1.heap.size, 2, none⟩ (.slice a5k (a + 1 + (N - a)) c5k) = V := ⟨_, rfl⟩
    have Hw4k : Hid (W1.heap.size < w4.heap.size) := (Array.getElem?_eq_some_iff.1 M4.out.tbx).1
    have Hw4r : Hid (W2.heap.size < w4.heap.size) := (Array.getElem?_eq_some_iff.1 M4.out.rbx).1
    have MV : Hid (Mb w w.heap.size W1.heap.size W2.heap.size (dcs k n (.slice ka N kc) (.slice va N vc)) (dcs k n (.slice a5k (a + 1 + (N - a)) c5k) V) (dcs 0 0 (.slice none 0 0) (.slice none 0 0)) V1) := by
      have h := (M4.out.next B5k.out).setT (Nat.le_of_lt Hlt.out.1) (Nat.ne_of_gt Hlt.out.1) (Nat.ne_of_lt Hlt.out.2) 2 (.slice a5k (a + 1 + (N - a)) c5k)
      rw [hV1] at h; exact h
    have RK := Lib.hid (ownsRow_setCell_below R5k.out (a := ⟨W1.heap.size, 2, none⟩) Hw4k.out (.slice a5k (a + 1 + (N - a)) c5k))
    rw [hV1] at RK ⊢
    have S3v := Lib.hid (row_four MV.out.sbx).2.2
    have Tv : Hid (V1.heap[W1.heap.size]? = some (.cells (dcs k n (.slice a5k (a + 1 + (N - a)) c5k) V) 39)) := MV.out.tbx
    have HAVv := Lib.hid (HA2.out.below MV.out.below)
    have HCVv := Lib.hid (HC2.out.below MV.out.below)
    have HV1s : Hid (w.heap.size < V1.heap.size) := (Array.getElem?_eq_some_iff.1 MV.out.sbx).1
    have HV1t : Hid (W1.heap.size < V1.heap.size) := (Array.getElem?_eq_some_iff.1 MV.out.tbx).1
    have Hw4V : Hid (w4.heap.size ≤ V1.heap.size) := by have h := B5k.out.size; show _ ≤ _; rw [← hV1]; simpa using h
    clear HAT M4 B4 t2 S2k Tk HAKk HCKk Hw4s B1k R1k B2k R2k B3k R3k R4k B5k I5k R5k TBk q2 q3 qf hV1 h4 b1k HM
    go_wp2_with fail
    go_region_held3 (fun w' => w'.cell? ⟨w.heap.size, 3, none⟩ = some (.slice va N vc)) ((first | (refine cellB (n := V1.heap.size) ?_ HV1s.out S3v.out; (repeat (first | exact B5v.out | exact B3v.out | exact B2v.out | exact B1v.out | (with_reducible exact Below.refl _ _) | (with_reducible refine stepD ?_) | (with_reducible refine stepA ?_ _))); done) | (with_reducible refine cellS (Nat.ne_of_lt Hlt.out.1) ?_; refine cellB (n := V1.heap.size) ?_ HV1s.out S3v.out; (repeat (first | exact B5v.out | exact B3v.out | exact B2v.out | exact B1v.out | (with_reducible exact Below.refl _ _) | (with_reducible refine stepD ?_) | (with_reducible refine stepA ?_ _))); done)))
      (first
        | (go_at_call 21; (with_reducible refine (ints2 va a vc AV HlAV.out (by omega) _ (iat_at HAVv.out (by (repeat (first | exact B5v.out | exact B3v.out | exact B2v.out | exact B1v.out | (with_reducible exact Below.refl _ _) | (with_reducible refine stepD ?_) | (with_reducible refine stepA ?_ _)))))).mono ?_); rintro e w1v ⟨g1v, c1v, rfl, h1v⟩
           have b1v := Lib.hid h1v.out.2
           have B1v : Hid (Below V1.heap.size V1 w1v) := stepB (by (repeat (first | exact B5v.out | exact B3v.out | exact B2v.out | exact B1v.out | (with_reducible exact Below.refl _ _) | (with_reducible refine stepD ?_) | (with_reducible refine stepA ?_ _)))) b1v.out
           have R1v := Lib.hid (row_base h1v.out.1 (le_at (W := V1) (by (repeat (first | exact B5v.out | exact B3v.out | exact B2v.out | exact B1v.out | (with_reducible exact Below.refl _ _) | (with_reducible refine stepD ?_) | (with_reducible refine stepA ?_ _))))))
           clear h1v)
        | (refine step_append_lies _ rfl _ _ 37 rfl V1.heap.size 3 i0 _ 1 8 Tryz.underlying37 hi hz0 hz1 hz2 rfl (by decide) (.slice (some ⟨g1v, 0, none⟩) a c1v) a (AV.map (Value.int .i64)) rfl (by first | exact R1v.out | exact R1v.out.alloc _) ⟨_, 0, none⟩ 1 1 [.int .i64 val] rfl rfl (one_row (by (repeat (first | (with_reducible refine newA _ ?_; first | rfl | (simp; done)) | (with_reducible refine keepA _ ?_) | (with_reducible refine keepD ?_) | (with_reducible refine keepB b1v.out ?_))))) (by simp [Value.oneCell']) (by decide) (by unfold maxLen; omega) (by omega) (le_at (W := V1) (by (repeat (first | exact B5v.out | exact B3v.out | exact B2v.out | exact B1v.out | (with_reducible exact Below.refl _ _) | (with_reducible refine stepD ?_) | (with_reducible refine stepA ?_ _))))) _ rfl ?_
           intro g2v c2v w2v hown2 hgrow2 hat2 hlt2
           have B2v : Hid (Below V1.heap.size V1 w2v) := below_own (by (repeat (first | exact B5v.out | exact B3v.out | exact B2v.out | exact B1v.out | (with_reducible exact Below.refl _ _) | (with_reducible refine stepD ?_) | (with_reducible refine stepA ?_ _)))) hgrow2 (by first | exact R1v.out | exact R1v.out.alloc _) (le_at (W := V1) (by (repeat (first | exact B5v.out | exact B3v.out | exact B2v.out | exact B1v.out | (with_reducible exact Below.refl _ _) | (with_reducible refine stepD ?_) | (with_reducible refine stepA ?_ _)))))
           have R2v := Lib.hid hown2
           clear hown2 hgrow2 hat2 hlt2)
        | (go_at_call 21; (with_reducible refine (ints2 AV2 (N - a) (vc - a) CV HlCV.out (by omega) _ (iat_at HCVv.out B2v.out)).mono ?_); rintro e w3v ⟨g3v, c3v, rfl, h3v⟩
           have B3v : Hid (Below V1.heap.size V1 w3v) := stepB B2v.out h3v.out.2
           have R3v := Lib.hid h3v.out.1
           have R4v := Lib.hid (row_kept R2v.out h3v.out.2)
           clear h3v)
        | (refine step_append_own rfl _ _ 37 rfl V1.heap.size 3 i0 _ 1 8 Tryz.underlying37 hi hz0 hz1 hz2 rfl (by decide) (.slice (some ⟨g2v, 0, none⟩) (a + 1) c2v) (a + 1) _ rfl R4v.out ⟨g3v, 0, none⟩ (N - a) c3v (CV.map (Value.int .i64)) rfl (by rw [List.length_map, HlCV.out, Nat.mul_one]) (row_news R3v.out) (ints_one _) (by unfold maxLen; omega) (by omega) (le_at (W := V1) B3v.out) ?_
           intro v5v w5v hown5 hgrow5
           have B5v : Hid (Below V1.heap.size V1 w5v) := below_own B3v.out hgrow5 R4v.out (le_at (W := V1) B3v.out)
           obtain ⟨a5v, c5v, rfl, hsl5, hle5⟩ := row_sl hown5
           obtain ⟨hsl0, hnc5v⟩ := row_sl0 hown5
           have I5v := Lib.hid (SlAt.ints (zs := AV ++ [val] ++ CV) (by simpa using hsl5))
           have R5v := Lib.hid hown5
           have Hle5v := Lib.hid hle5
           have Hnc5v := Lib.hid hnc5v
           have TBv := Lib.hid (keepB B5v.out Tv.out)
           obtain ⟨⟨-, -⟩, q2, q3⟩ := row_four TBv.out
           have qf := frozen_of_row _ _ 3 _ _ TBv.out
           clear hown5 hgrow5 hsl5 hle5 hsl0 hnc5v))
    all_goals
      obtain ⟨V2, hV2⟩ : ∃ V, w5v.setCell ⟨W1.heap.size, 3, none⟩ (.slice a5v (a + 1 + (N - a)) c5v) = V := ⟨_, rfl⟩
      have MV2 : Hid (Mb w w.heap.size W1.heap.size W2.heap.size (dcs k n (.slice ka N kc) (.slice va N vc)) (dcs k n (.slice a5k (a + 1 + (N - a)) c5k) (.slice a5v (a + 1 + (N - a)) c5v)) (dcs 0 0 (.slice none 0 0) (.slice none 0 0)) V2) := by
        have h := (MV.out.next B5v.out).setT (Nat.le_of_lt Hlt.out.1) (Nat.ne_of_gt Hlt.out.1) (Nat.ne_of_lt Hlt.out.2) 3 (.slice a5v (a + 1 + (N - a)) c5v)
        rw [hV2] at h; exact h
      have RV := Lib.hid (ownsRow_setCell_below R5v.out (a := ⟨W1.heap.size, 3, none⟩) HV1t.out (.slice a5v (a + 1 + (N - a)) c5v))
      have RK2 := Lib.hid (ownsRow_setCell_below (row_kept RK.out B5v.out) (a := ⟨W1.heap.size, 3, none⟩) Hw4k.out (.slice a5v (a + 1 + (N - a)) c5v))
      rw [hV2] at RV RK2 ⊢
      obtain ⟨F1, F2, F3, F4, hF1, hF2, hF3, hF4, ⟨⟨f0, g0⟩, ⟨f1, g1⟩, ⟨f2, g2⟩, ⟨f3, g3⟩⟩, HF, HE⟩ := mapped_fin (ks := AK ++ [key] ++ CK) (vs := AV ++ [val] ++ CV) (k := k) (n := n) MV2.out (Nat.le_of_lt (Nat.lt_trans Hlt.out.1 Hlt.out.2)) Hw4r.out (Nat.lt_of_lt_of_le Hw4r.out Hw4V.out) (by simpa using RK2.out) (by simpa using RV.out) (by simp [HlAK.out, HlCK.out]; omega) (by simp [HlAV.out, HlCV.out]; omega)
      obtain ⟨⟨q0, q1⟩, q2, q3⟩ := row_four MV2.out.tbx
      go_wp2_with fail
      refine bodyPost_ret (results_row_tmp3 rfl _ _ W2.heap.size 39 _ (0, 0) _ rfl HF.out Tryz.underlying39 rfl (by kernel_rfl)) rfl ?_
      rw [HKout.out, HVout.out]
      refine ⟨a5k, c5k, a5v, c5v, ?_, HE.out⟩
      have l1 : (AK ++ [key] ++ CK).length = a + 1 + (N - a) := by simp [HlAK.out, HlCK.out]; omega
      have l2 : (AV ++ [val] ++ CV).length = a + 1 + (N - a) := by simp [HlAV.out, HlCV.out]; omega
      rw [l1, l2]
      rfl
end Go.Proofs.YtcjfcomadcebnaaGreatDoor

/- mapped, the document's: a key that is there, and one that is not. -/
namespace Go.Proofs.YtcjfcomadcebnaaGreatDoor
open Go.RowKit Go.Maps Go.WideMaps Go.WideElems Go.ChangeShapes Go.WideShapes
variable {T : TypeId} {er : Nat → Addr}

/-- The result's box written; the worlds named. -/
theorem mapped_box {w V : World} {rb : Nat} (p q K U : Value) (hM : V.heap[rb]? = some (.cells (dcs 0 0 (.slice none 0 0) (.slice none 0 0)) 39)) (hr : w.heap.size ≤ rb) :
    ∃ V1 V2 V3 V4, V.setCell ⟨rb, 0, none⟩ p = V1 ∧ V1.setCell ⟨rb, 1, none⟩ q = V2 ∧ V2.setCell ⟨rb, 2, none⟩ K = V3 ∧ V3.setCell ⟨rb, 3, none⟩ U = V4 ∧
      ((V.cell? ⟨rb, 0, none⟩ = some (.int .i64 0) ∧ V.frozen? ⟨rb, 0, none⟩ = false) ∧ (V1.cell? ⟨rb, 1, none⟩ = some (.int .i64 0) ∧ V1.frozen? ⟨rb, 1, none⟩ = false) ∧ (V2.cell? ⟨rb, 2, none⟩ = some (.slice none 0 0) ∧ V2.frozen? ⟨rb, 2, none⟩ = false) ∧ (V3.cell? ⟨rb, 3, none⟩ = some (.slice none 0 0) ∧ V3.frozen? ⟨rb, 3, none⟩ = false)) ∧
      Hid (V4.heap[rb]? = some (.cells #[p, q, K, U] 39)) ∧ Hid (Below w.heap.size V V4 ∧ ∀ b o u, b ≠ rb → V.cell? ⟨b, o, none⟩ = some u → V4.cell? ⟨b, o, none⟩ = some u) := by
  obtain ⟨f0, f1, f2, f3, hf⟩ := row_set4 hM p q K U
  exact ⟨_, _, _, _, rfl, rfl, rfl, rfl, ⟨f0, f1, f2, f3⟩, hf, ((((Below.refl _ V).setCell (p := ⟨rb, 0, none⟩) hr _).setCell (p := ⟨rb, 1, none⟩) hr _).setCell (p := ⟨rb, 2, none⟩) hr _).setCell (p := ⟨rb, 3, none⟩) hr _, fun b o u hne h => cellS hne (cellS hne (cellS hne (cellS hne h)))⟩
/-- A list below a bound stays. -/
theorem iat_bound {W V : World} {n : Nat} {a : Option Addr} {zs : List Int} (h : IAt W a zs) (hn : zs ≠ [] → ∀ b o, a = some ⟨b, o, none⟩ → b < n) (hb : Below n W V) : IAt V a zs := by
  by_cases h0 : zs = []
  · exact .inl h0
  rcases h with h | ⟨b, off, e, hc⟩
  · exact .inl h
  · have hlt := hn h0 b off e
    exact .inr ⟨b, off, e, fun k hk => (hb.cell (p := ⟨b, off + k, none⟩) hlt).trans (hc k hk)⟩
theorem iat_lt {W : World} {a : Option Addr} {zs : List Int} (h : IAt W a zs) (h0 : zs ≠ []) : ∀ b o, a = some ⟨b, o, none⟩ → b < W.heap.size := by
  rcases h with h | ⟨b, off, e, hc⟩
  · exact absurd h h0
  · intro b' o' e'
    rw [e] at e'
    cases e'
    have h1 : 0 < zs.length := List.length_pos_iff.2 h0
    exact World.block_lt_of_cell? W _ (hc 0 h1)
/-- A list elsewhere is not written on. -/
theorem iat_other {W : World} {g o : Nat} {u : Value} {a : Option Addr} {zs : List Int} (h : IAt W a zs) (hne : ∀ o, a ≠ some ⟨g, o, none⟩) : IAt (W.setCell ⟨g, o, none⟩ u) a zs := by
  rcases h with h | ⟨b, off, e, hc⟩
  · exact .inl h
  · exact .inr ⟨b, off, e, fun k hk => cellS (fun eb => hne off (by rw [e, eb])) (hc k hk)⟩

set_option maxRecDepth 100000 in
set_option maxHeartbeats 1000000 in
theorem mapped_none8 (B : Nat) (k n key : Int) (sk sv : Value) (ks vs : List Int) (tka tva : Option Addr) (tkc tvc : Nat) (i : Nat) (w : World) (htk : IAt w tka ks) (htv : IAt w tva vs) (hck : tka = none → tkc = 0) (hcv : tva = none → tvc = 0) (hlk : ks.length ≤ tkc) (hlv : vs.length ≤ tvc) (hB : B ≤ w.heap.size) (gk : Ge B tka) (gv : Ge B tva)
    (hat : ∀ W, Below w.heap.size w W → Calls Tryz.prog 103 #[.agg #[.int .i64 k, .int .i64 n, sk, sv], .int .i64 key] W fun e w' => e = .returned (.tuple #[.int .i64 i, .bool false]) ∧ Hid (Below W.heap.size W w')) :
    Calls Tryz.prog 79 #[.agg #[.int .i64 k, .int .i64 n, sk, sv], dv k n tka ks.length tkc tva vs.length tvc, .int .i64 8, .int .i64 key, .int .i64 0] w (DvRes B k n ks vs 2 0 w) := by
  obtain ⟨nk, hnk⟩ : ∃ m, ks.length = m := ⟨_, rfl⟩
  obtain ⟨nv, hnv⟩ : ∃ m, vs.length = m := ⟨_, rfl⟩
  have Hnk := Lib.hid hnk
  have Hnv := Lib.hid hnv
  have Htk := Lib.hid htk
  have Htv := Lib.hid htv
  have Hck := Lib.hid hck
  have Hcv := Lib.hid hcv
  have Hlk := Lib.hid hlk
  have Hlv := Lib.hid hlv
  rw [hnk, hnv]
  obtain ⟨W1, W2, W3, hW1, hW2, hW3, HM, Hlt⟩ := mb_new w (dcs k n sk sv) (dcs k n (.slice tka nk tkc) (.slice tva nv tvc)) (dcs 0 0 (.slice none 0 0) (.slice none 0 0))
  have HAT := Lib.hid (hat W3 HM.out.below)
  obtain ⟨⟨s0, s1⟩, s2, s3⟩ := row_four HM.out.sbx
  clear hat htk htv hck hcv hlk hlv hnk hnv
  go_enter Tryz.func79, Tryz.ntmps79
  go_wp2_with (first
    | (go_at_call 103; (with_reducible refine HAT.out.mono ?_); rintro e w4 ⟨rfl, h4⟩
       have M4 := Lib.hid (HM.out.next h4.out)
       have B4 : Hid (Below w.heap.size w w4) := M4.out.below
       obtain ⟨⟨t0, t1⟩, t2, t3⟩ := row_four M4.out.sbx
       obtain ⟨⟨q0, q1⟩, q2, q3⟩ := row_four M4.out.tbx
       obtain ⟨F1, F2, F3, F4, hF1, hF2, hF3, hF4, ⟨⟨f0, g0⟩, ⟨f1, g1⟩, ⟨f2, g2⟩, ⟨f3, g3⟩⟩, HF, HE⟩ := mapped_box (.int .i64 k) (.int .i64 n) (.slice tka nk tkc) (.slice tva nv tvc) M4.out.rbx (Nat.le_of_lt (Nat.lt_trans Hlt.out.1 Hlt.out.2))))
  refine bodyPost_ret (results_row_tmp3 rfl _ _ W2.heap.size 39 _ (0, 0) _ rfl HF.out Tryz.underlying39 rfl (by kernel_rfl)) rfl ?_
  have Bf : Below w.heap.size w F4 := B4.out.trans HE.out.1
  exact ⟨tka, tkc, tva, tvc, by rw [Hnk.out, Hnv.out]; rfl, Htk.out.below Bf, Htv.out.below Bf, Hck.out, Hcv.out, Hlk.out, Hlv.out, Bf.mono hB, gk, gv⟩

set_option maxRecDepth 100000 in
set_option maxHeartbeats 1000000 in
theorem mapped_none9 (B : Nat) (k n key : Int) (sk sv : Value) (ks vs : List Int) (tka tva : Option Addr) (tkc tvc : Nat) (i : Nat) (w : World) (htk : IAt w tka ks) (htv : IAt w tva vs) (hck : tka = none → tkc = 0) (hcv : tva = none → tvc = 0) (hlk : ks.length ≤ tkc) (hlv : vs.length ≤ tvc) (hB : B ≤ w.heap.size) (gk : Ge B tka) (gv : Ge B tva)
    (hat : ∀ W, Below w.heap.size w W → Calls Tryz.prog 103 #[.agg #[.int .i64 k, .int .i64 n, sk, sv], .int .i64 key] W fun e w' => e = .returned (.tuple #[.int .i64 i, .bool false]) ∧ Hid (Below W.heap.size W w')) :
    Calls Tryz.prog 79 #[.agg #[.int .i64 k, .int .i64 n, sk, sv], dv k n tka ks.length tkc tva vs.length tvc, .int .i64 9, .int .i64 key, .int .i64 0] w (DvRes B k n ks vs 2 0 w) := by
  obtain ⟨nk, hnk⟩ : ∃ m, ks.length = m := ⟨_, rfl⟩
  obtain ⟨nv, hnv⟩ : ∃ m, vs.length = m := ⟨_, rfl⟩
  have Hnk := Lib.hid hnk
  have Hnv := Lib.hid hnv
  have Htk := Lib.hid htk
  have Htv := Lib.hid htv
  have Hck := Lib.hid hck
  have Hcv := Lib.hid hcv
  have Hlk := Lib.hid hlk
  have Hlv := Lib.hid hlv
  rw [hnk, hnv]
  obtain ⟨W1, W2, W3, hW1, hW2, hW3, HM, Hlt⟩ := mb_new w (dcs k n sk sv) (dcs k n (.slice tka nk tkc) (.slice tva nv tvc)) (dcs 0 0 (.slice none 0 0) (.slice none 0 0))
  have HAT := Lib.hid (hat W3 HM.out.below)
  obtain ⟨⟨s0, s1⟩, s2, s3⟩ := row_four HM.out.sbx
  clear hat htk htv hck hcv hlk hlv hnk hnv
  go_enter Tryz.func79, Tryz.ntmps79
  go_wp2_with (first
    | (go_at_call 103; (with_reducible refine HAT.out.mono ?_); rintro e w4 ⟨rfl, h4⟩
       have M4 := Lib.hid (HM.out.next h4.out)
       have B4 : Hid (Below w.heap.size w w4) := M4.out.below
       obtain ⟨⟨t0, t1⟩, t2, t3⟩ := row_four M4.out.sbx
       obtain ⟨⟨q0, q1⟩, q2, q3⟩ := row_four M4.out.tbx
       obtain ⟨F1, F2, F3, F4, hF1, hF2, hF3, hF4, ⟨⟨f0, g0⟩, ⟨f1, g1⟩, ⟨f2, g2⟩, ⟨f3, g3⟩⟩, HF, HE⟩ := mapped_box (.int .i64 k) (.int .i64 n) (.slice tka nk tkc) (.slice tva nv tvc) M4.out.rbx (Nat.le_of_lt (Nat.lt_trans Hlt.out.1 Hlt.out.2))))
  refine bodyPost_ret (results_row_tmp3 rfl _ _ W2.heap.size 39 _ (0, 0) _ rfl HF.out Tryz.underlying39 rfl (by kernel_rfl)) rfl ?_
  have Bf : Below w.heap.size w F4 := B4.out.trans HE.out.1
  exact ⟨tka, tkc, tva, tvc, by rw [Hnk.out, Hnv.out]; rfl, Htk.out.below Bf, Htv.out.below Bf, Hck.out, Hcv.out, Hlk.out, Hlv.out, Bf.mono hB, gk, gv⟩

set_option maxRecDepth 100000 in
set_option maxHeartbeats 2000000 in
theorem mapped_look (B : Nat) (k n key v : Int) (sk : Value) (ks vs svs : List Int) (sva : Option Addr) (svc : Nat) (tka tva : Option Addr) (tkc tvc : Nat) (i : Nat) (w : World) (hsv : IAt w sva svs) (hv : svs[i]? = some v) (htk : IAt w tka ks) (htv : IAt w tva vs) (hck : tka = none → tkc = 0) (hcv : tva = none → tvc = 0) (hlk : ks.length ≤ tkc) (hlv : vs.length ≤ tvc) (hB : B ≤ w.heap.size) (gk : Ge B tka) (gv : Ge B tva)
    (hat : ∀ W, Below w.heap.size w W → Calls Tryz.prog 103 #[.agg #[.int .i64 k, .int .i64 n, sk, .slice sva svs.length svc], .int .i64 key] W fun e w' => e = .returned (.tuple #[.int .i64 i, .bool true]) ∧ Hid (Below W.heap.size W w')) :
    Calls Tryz.prog 79 #[.agg #[.int .i64 k, .int .i64 n, sk, .slice sva svs.length svc], dv k n tka ks.length tkc tva vs.length tvc, .int .i64 8, .int .i64 key, .int .i64 0] w (DvRes B k n ks vs 3 v w) := by
  have hi : i < svs.length := (List.getElem?_eq_some_iff.1 hv).1
  obtain ⟨nk, hnk⟩ : ∃ m, ks.length = m := ⟨_, rfl⟩
  obtain ⟨nv, hnv⟩ : ∃ m, vs.length = m := ⟨_, rfl⟩
  have Hsv := Lib.hid hsv
  have hne : svs ≠ [] := fun e => by rw [e] at hi; exact absurd hi (by simp)
  obtain ⟨b, off, rfl, hcell⟩ := hsv.resolve_left hne
  have u0 : w.cell? ⟨b, off + i, none⟩ = some (.int .i64 v) := by rw [hcell i hi, hv]; rfl
  have hb := World.block_lt_of_cell? w _ u0
  have U0 := Lib.hid u0
  have Hbl : Hid (b < w.heap.size) := hb
  clear hcell hsv u0 hne hb hv
  have Hnk := Lib.hid hnk
  have Hnv := Lib.hid hnv
  have Htk := Lib.hid htk
  have Htv := Lib.hid htv
  have Hck := Lib.hid hck
  have Hcv := Lib.hid hcv
  have Hlk := Lib.hid hlk
  have Hlv := Lib.hid hlv
  rw [hnk, hnv]
  obtain ⟨ns, hns⟩ : ∃ m, svs.length = m := ⟨_, rfl⟩
  rw [hns] at hi hat ⊢
  clear hns
  obtain ⟨W1, W2, W3, hW1, hW2, hW3, HM, Hlt⟩ := mb_new w (dcs k n sk (.slice (some ⟨b, off, none⟩) ns svc)) (dcs k n (.slice tka nk tkc) (.slice tva nv tvc)) (dcs 0 0 (.slice none 0 0) (.slice none 0 0))
  have HAT := Lib.hid (hat W3 HM.out.below)
  obtain ⟨⟨s0, s1⟩, s2, s3⟩ := row_four HM.out.sbx
  clear hat htk htv hck hcv hlk hlv hnk hnv
  go_enter Tryz.func79, Tryz.ntmps79
  go_wp2_with (first
    | (go_at_call 103; (with_reducible refine HAT.out.mono ?_); rintro e w4 ⟨rfl, h4⟩
       have M4 := Lib.hid (HM.out.next h4.out)
       have B4 : Hid (Below w.heap.size w w4) := M4.out.below
       obtain ⟨⟨t0, t1⟩, t2, t3⟩ := row_four M4.out.sbx
       obtain ⟨⟨q0, q1⟩, q2, q3⟩ := row_four M4.out.tbx
       obtain ⟨F1, F2, F3, F4, hF1, hF2, hF3, hF4, ⟨⟨f0, g0⟩, ⟨f1, g1⟩, ⟨f2, g2⟩, ⟨f3, g3⟩⟩, HF, HE⟩ := mapped_box (.int .i64 k) (.int .i64 n) (.slice tka nk tkc) (.slice tva nv tvc) M4.out.drew.rbx (Nat.le_of_lt (Nat.lt_trans Hlt.out.1 Hlt.out.2))
       have hu := (B4.out.cell (p := ⟨b, off + i, none⟩) Hbl.out).trans U0.out
       have hv1 : F4.cell? ⟨b, off + i, none⟩ = some (.int .i64 v) := HE.out.2 _ _ _ (Nat.ne_of_lt (Nat.lt_trans Hbl.out (Nat.lt_trans Hlt.out.1 Hlt.out.2))) hu
       have hv2 : F4.cell? ⟨w.heap.size, 3, none⟩ = some (.slice (some ⟨b, off, none⟩) ns svc) := HE.out.2 _ _ _ (Nat.ne_of_lt (Nat.lt_trans Hlt.out.1 Hlt.out.2)) t3))
  go_region_with (fail)
  all_goals
    go_wp2_with fail
    refine bodyPost_ret (results_row_tmp3 rfl _ _ W2.heap.size 39 _ (0, 0) _ rfl HF.out Tryz.underlying39 rfl (by kernel_rfl)) rfl ?_
    have Bf : Below w.heap.size w F4 := B4.out.drew.trans HE.out.1
    exact ⟨tka, tkc, tva, tvc, by rw [Hnk.out, Hnv.out]; rfl, Htk.out.below Bf, Htv.out.below Bf, Hck.out, Hcv.out, Hlk.out, Hlv.out, Bf.mono hB, gk, gv⟩

set_option maxRecDepth 100000 in
set_option maxHeartbeats 2000000 in
theorem mapped_put (B : Nat) (k n key val : Int) (sk sv : Value) (ks vs : List Int) (tka : Option Addr) (g : Nat) (tkc tvc : Nat) (i : Nat) (w : World) (hi : i < vs.length) (htk : IAt w tka ks) (htv : w.ownsRow B 3 1 (.slice (some ⟨g, 0, none⟩) vs.length tvc) vs.length (vs.map (Value.int .i64))) (hB : B ≤ w.heap.size) (hne : ∀ o, tka ≠ some ⟨g, o, none⟩) (hck : tka = none → tkc = 0) (hlk : ks.length ≤ tkc) (gk : Ge B tka)
    (hat : ∀ W, Below w.heap.size w W → Calls Tryz.prog 103 #[.agg #[.int .i64 k, .int .i64 n, sk, sv], .int .i64 key] W fun e w' => e = .returned (.tuple #[.int .i64 i, .bool true]) ∧ Hid (Below W.heap.size W w')) :
    Calls Tryz.prog 79 #[.agg #[.int .i64 k, .int .i64 n, sk, sv], dv k n tka ks.length tkc (some ⟨g, 0, none⟩) vs.length tvc, .int .i64 7, .int .i64 key, .int .i64 val] w (DvRes B k n ks (vs.set i val) 1 0 w) := by
  obtain ⟨nk, hnk⟩ : ∃ m, ks.length = m := ⟨_, rfl⟩
  obtain ⟨nv, hnv⟩ : ∃ m, vs.length = m := ⟨_, rfl⟩
  have Hnk := Lib.hid hnk
  have Hnv := Lib.hid hnv
  have Htk := Lib.hid htk
  rw [hnv] at htv hi
  have Htv := Lib.hid htv
  have Hne := Lib.hid hne
  have HB : Hid (B ≤ w.heap.size) := hB
  have Hck := Lib.hid hck
  have Hlk := Lib.hid hlk
  have Hg : Hid (B ≤ g ∧ g < w.heap.size) := by
    obtain ⟨h1, cur, h2⟩ := row_heap htv
    exact ⟨h1, (Array.getElem?_eq_some_iff.1 h2).1⟩
  have Hlv : Hid (nv ≤ tvc) := by obtain ⟨_, _, e, _, h⟩ := row_sl htv; cases e; exact h
  rw [hnk, hnv]
  obtain ⟨W1, W2, W3, hW1, hW2, hW3, HM, Hlt⟩ := mb_new w (dcs k n sk sv) (dcs k n (.slice tka nk tkc) (.slice (some ⟨g, 0, none⟩) nv tvc)) (dcs 0 0 (.slice none 0 0) (.slice none 0 0))
  have HAT := Lib.hid (hat W3 HM.out.below)
  obtain ⟨⟨s0, s1⟩, s2, s3⟩ := row_four HM.out.sbx
  clear hat htk htv hck hlk hnk hnv hne hB
  go_enter Tryz.func79, Tryz.ntmps79
  go_wp2_with (first
    | (go_at_call 103; (with_reducible refine HAT.out.mono ?_); rintro e w4 ⟨rfl, h4⟩
       have M4 := Lib.hid (HM.out.next h4.out)
       have B4 : Hid (Below w.heap.size w w4) := M4.out.below
       obtain ⟨⟨t0, t1⟩, t2, t3⟩ := row_four M4.out.sbx
       obtain ⟨⟨q0, q1⟩, q2, q3⟩ := row_four M4.out.tbx
       have R4 := Lib.hid (row_kept Htv.out B4.out)
       have r1 : w4.cell? ⟨g, i, none⟩ = some ((vs.map (Value.int .i64))[i]?.getD undef) := by rw [R4.out.cellAt i (by omega)]; simp [Hnv.out, hi]
       have r2 : w4.frozen? ⟨g, i, none⟩ = false := R4.out.frozenAt i
       obtain ⟨W5, hW5⟩ : ∃ W, w4.setCell ⟨g, i, none⟩ (.int .i64 val) = W := ⟨_, rfl⟩
       have R5 : Hid (W5.ownsRow B 3 1 (.slice (some ⟨g, 0, none⟩) nv tvc) nv ((vs.set i val).map (Value.int .i64))) := by
         have h := (R4.out.stored i (.int .i64 val)).1
         rw [hW5, ← List.map_set] at h
         exact h
       have I5 : Hid (IAt W5 tka ks) := by have h := iat_other (o := i) (u := .int .i64 val) (Htk.out.below B4.out) Hne.out; rwa [hW5] at h
       have hgB := (R4.out.stored i (.int .i64 val)).2
       rw [hW5] at hgB
       have Tx : Hid (W5.heap[W1.heap.size]? = some (.cells (dcs k n (.slice tka nk tkc) (.slice (some ⟨g, 0, none⟩) nv tvc)) 39)) := keepG hgB (fun e => by have e2 : g = W1.heap.size := (by injection e); have h1 := Hg.out.2; have h2 := Hlt.out.1; omega) M4.out.tbx
       have Rx : Hid (W5.heap[W2.heap.size]? = some (.cells (dcs 0 0 (.slice none 0 0) (.slice none 0 0)) 39)) := keepG hgB (fun e => by have e2 : g = W2.heap.size := (by injection e); have h1 := Hg.out.2; have h2 := Hlt.out.1; have h3 := Hlt.out.2; omega) M4.out.rbx
       clear hgB
       have B5 : Hid (Below B w W5) := by show Below _ _ _; rw [← hW5]; exact (B4.out.mono HB.out).setCell (p := ⟨g, i, none⟩) Hg.out.1 _
       obtain ⟨⟨q0', q1'⟩, q2', q3'⟩ := row_four Tx.out
       obtain ⟨F1, F2, F3, F4, hF1, hF2, hF3, hF4, ⟨⟨f0, g0⟩, ⟨f1, g1⟩, ⟨f2, g2⟩, ⟨f3, g3⟩⟩, HF, HE⟩ := mapped_box (.int .i64 k) (.int .i64 n) (.slice tka nk tkc) (.slice (some ⟨g, 0, none⟩) nv tvc) Rx.out (Nat.le_of_lt (Nat.lt_trans Hlt.out.1 Hlt.out.2))))
  refine bodyPost_ret (results_row_tmp3 rfl _ _ W2.heap.size 39 _ (0, 0) _ rfl HF.out Tryz.underlying39 rfl (by kernel_rfl)) rfl ?_
  refine ⟨tka, tkc, some ⟨g, 0, none⟩, tvc, by rw [List.length_set, Hnk.out, Hnv.out]; rfl, iat_bound I5.out (fun h0 => iat_lt Htk.out h0) HE.out.1, iat_bound (row_sl0 R5.out).1.ints (fun _ b o e => by cases e; exact Hg.out.2) HE.out.1, Hck.out, (fun e => by cases e), Hlk.out, by rw [List.length_set, Hnv.out]; exact Hlv.out, B5.out.trans (HE.out.1.mono HB.out), gk, fun b o e => by cases e; exact Hg.out.1⟩
end Go.Proofs.YtcjfcomadcebnaaGreatDoor

/- mapped, the document's: a key taken out. -/
namespace Go.Proofs.YtcjfcomadcebnaaGreatDoor
open Go.RowKit Go.Maps Go.WideMaps Go.WideElems Go.ChangeShapes Go.WideShapes
variable {T : TypeId} {er : Nat → Addr}

set_option maxRecDepth 100000 in
set_option maxHeartbeats 4000000 in
theorem mapped_del (k n key v : Int) (A C : List (Int × Int)) (ka va : Option Addr) (kc vc : Nat) (K V : Value) (w : World) (hk : IAt w ka ((A ++ (key, v) :: C).map (·.1))) (hv : IAt w va ((A ++ (key, v) :: C).map (·.2))) (hkc : (A ++ (key, v) :: C).length ≤ kc) (hvc : (A ++ (key, v) :: C).length ≤ vc) (hlen : (A ++ (key, v) :: C).length ≤ 100000)
    (hat : ∀ W, Below w.heap.size w W → Calls Tryz.prog 103 #[dv k n ka (A ++ (key, v) :: C).length kc va (A ++ (key, v) :: C).length vc, .int .i64 key] W fun e w' => e = .returned (.tuple #[.int .i64 A.length, .bool true]) ∧ Hid (Below W.heap.size W w')) :
    Calls Tryz.prog 79 #[dv k n ka (A ++ (key, v) :: C).length kc va (A ++ (key, v) :: C).length vc, .agg #[.int .i64 k, .int .i64 n, K, V], .int .i64 9, .int .i64 key, .int .i64 0] w (DvRes w.heap.size k n ((A ++ C).map (·.1)) ((A ++ C).map (·.2)) 3 v w) := by
  obtain ⟨i0, hi, hz0, hz1, hz2⟩ := info_parts elem3
  obtain ⟨N, hN⟩ : ∃ N, (A ++ (key, v) :: C).length = N := ⟨_, rfl⟩
  obtain ⟨a, ha⟩ : ∃ a, A.length = a := ⟨_, rfl⟩
  have haN : a + 1 ≤ N := by rw [← hN, ← ha]; simp
  have hCN : C.length = N - (a + 1) := by rw [← hN, ← ha]; simp; omega
  obtain ⟨AK, hAK⟩ : ∃ l, A.map (·.1) = l := ⟨_, rfl⟩
  obtain ⟨CK, hCK⟩ : ∃ l, C.map (·.1) = l := ⟨_, rfl⟩
  obtain ⟨AV, hAV⟩ : ∃ l, A.map (·.2) = l := ⟨_, rfl⟩
  obtain ⟨CV, hCV⟩ : ∃ l, C.map (·.2) = l := ⟨_, rfl⟩
  have HlAK : Hid (AK.length = a) := by show _ = _; rw [← hAK]; simpa using ha
  have HlAV : Hid (AV.length = a) := by show _ = _; rw [← hAV]; simpa using ha
  have HlCK : Hid (CK.length = N - (a + 1)) := by show _ = _; rw [← hCK]; simpa using hCN
  have HlCV : Hid (CV.length = N - (a + 1)) := by show _ = _; rw [← hCV]; simpa using hCN
  have hKall : (A ++ (key, v) :: C).map (·.1) = AK ++ key :: CK := by rw [List.map_append, List.map_cons, hAK, hCK]
  have hVall : (A ++ (key, v) :: C).map (·.2) = AV ++ v :: CV := by rw [List.map_append, List.map_cons, hAV, hCV]
  have HKout : Hid ((A ++ C).map (·.1) = AK ++ CK) := by show _ = _; rw [List.map_append, hAK, hCK]
  have HVout : Hid ((A ++ C).map (·.2) = AV ++ CV) := by show _ = _; rw [List.map_append, hAV, hCV]
  rw [hKall] at hk
  rw [hVall] at hv
  rw [hN] at hat hkc hvc hlen ⊢
  rw [ha] at hat
  obtain ⟨AK2, hAK2⟩ : ∃ A2, (if kc = a + 1 then ka else Option.map (fun x => ({ block := x.block, off := x.off + (a + 1) } : Addr)) ka) = A2 := ⟨_, rfl⟩
  obtain ⟨AV2, hAV2⟩ : ∃ A2, (if vc = a + 1 then va else Option.map (fun x => ({ block := x.block, off := x.off + (a + 1) } : Addr)) va) = A2 := ⟨_, rfl⟩
  have HA1 : Hid (IAt w ka AK) := by have h := iat_take hk a; rwa [List.take_left' HlAK.out] at h
  have HA2 : Hid (IAt w va AV) := by have h := iat_take hv a; rwa [List.take_left' HlAV.out] at h
  have eA : (fun x : Addr => x.add (a + 1)) = (fun x => ({ block := x.block, off := x.off + (a + 1) } : Addr)) := by funext x; simp [Addr.add]
  have eK : AK ++ key :: CK = (AK ++ [key]) ++ CK := by simp
  have eV : AV ++ v :: CV = (AV ++ [v]) ++ CV := by simp
  have lK : (AK ++ [key]).length = a + 1 := by rw [List.length_append, HlAK.out]; rfl
  have lV : (AV ++ [v]).length = a + 1 := by rw [List.length_append, HlAV.out]; rfl
  have HC1 : Hid (IAt w AK2 CK) := by
    have h := iat_drop (i := a + 1) (c := kc) hk (by rw [eK, List.length_append, lK]; omega) (by rw [eK, List.length_append, lK, HlCK.out]; omega)
    rw [eK, List.drop_left' lK, eA, hAK2] at h; exact h
  have HC2 : Hid (IAt w AV2 CV) := by
    have h := iat_drop (i := a + 1) (c := vc) hv (by rw [eV, List.length_append, lV]; omega) (by rw [eV, List.length_append, lV, HlCV.out]; omega)
    rw [eV, List.drop_left' lV, eA, hAV2] at h; exact h
  obtain ⟨vb, vo, HVA, HVC⟩ : ∃ b o, Hid (va = some ⟨b, o, none⟩) ∧ Hid (w.cell? ⟨b, o + a, none⟩ = some (.int .i64 v)) := by
    rcases hv with h | ⟨b, o, e, hc⟩
    · simp at h
    · refine ⟨b, o, e, ?_⟩
      have h9 := hc a (by simp [HlAV.out])
      show _ = _
      rw [h9, List.getElem?_append_right (by rw [HlAV.out]; exact Nat.le_refl _), HlAV.out, Nat.sub_self]
      rfl
  clear eA eK eV lK lV
  obtain ⟨W1, W2, W3, hW1, hW2, hW3, HM, Hlt⟩ := mb_new w (dcs k n (.slice ka N kc) (.slice va N vc)) (dcs k n K V) (dcs 0 0 (.slice none 0 0) (.slice none 0 0))
  have HAT := Lib.hid (hat W3 HM.out.below)
  obtain ⟨⟨s0, s1⟩, s2, s3⟩ := row_four HM.out.sbx
  have HN := Lib.hid hN
  have Ha := Lib.hid ha
  clear hat hk hv hN ha hAK hCK hAV hCV hKall hVall hCN
  go_enter Tryz.func79, Tryz.ntmps79
  go_wp2_with (first
    | (go_at_call 103; (with_reducible refine HAT.out.mono ?_); rintro e w4 ⟨rfl, h4⟩
       have M4 := Lib.hid (HM.out.next h4.out)
       have B4 : Hid (Below w.heap.size w w4) := M4.out.below
       obtain ⟨⟨t0, t1⟩, t2, t3⟩ := row_four M4.out.sbx
       have S2k := Lib.hid t2
       have Tk : Hid (w4.heap[W1.heap.size]? = some (.cells (dcs k n K V) 39)) := M4.out.tbx
       have HAKk := Lib.hid (HA1.out.below B4.out)
       have HCKk := Lib.hid (HC1.out.below B4.out)
       have Hw4s : Hid (w.heap.size < w4.heap.size) := (Array.getElem?_eq_some_iff.1 M4.out.sbx).1))
  clear s0 s1 s2 s3 t0 t1 t3
  have hwr : IntKind.i64.wrap ((a : Int) + 1) = (a : Int) + 1 := by rw [IntKind.wrap_i64]; omega
  have hwr0 : (0 : Int) ≤ (a : Int) + 1 := by omega
  have hakc : a + 1 ≤ kc := by omega
  have hacI : ((a : Int) + 1) ≤ (kc : Int) := by omega
  have haNI : ((a : Int) + 1) ≤ (N : Int) := by omega
  have havI : ((a : Int) + 1) ≤ (vc : Int) := by omega
  have haNI0 : (a : Int) ≤ (N : Int) := by omega
  have hacI0 : (a : Int) ≤ (kc : Int) := by omega
  have havI0 : (a : Int) ≤ (vc : Int) := by omega
  go_region_held3 (fun w' => w'.cell? ⟨w.heap.size, 2, none⟩ = some (.slice ka N kc)) ((first | (refine cellB (n := w4.heap.size) ?_ Hw4s.out S2k.out; (repeat (first | exact B5k.out | exact B3k.out | exact B1k.out | (with_reducible exact Below.refl _ _) | (with_reducible refine stepD ?_) | (with_reducible refine stepA ?_ _))); done) | (with_reducible refine cellS (Nat.ne_of_lt Hlt.out.1) ?_; refine cellB (n := w4.heap.size) ?_ Hw4s.out S2k.out; (repeat (first | exact B5k.out | exact B3k.out | exact B1k.out | (with_reducible exact Below.refl _ _) | (with_reducible refine stepD ?_) | (with_reducible refine stepA ?_ _))); done)))
    (first
      | (go_at_call 21; (with_reducible refine (ints2 ka a kc AK HlAK.out (by omega) _ (iat_at HAKk.out (by (repeat (first | exact B5k.out | exact B3k.out | exact B1k.out | (with_reducible exact Below.refl _ _) | (with_reducible refine stepD ?_) | (with_reducible refine stepA ?_ _)))))).mono ?_); rintro e w1k ⟨g1k, c1k, rfl, h1k⟩
         have b1k := Lib.hid h1k.out.2
         have B1k : Hid (Below w4.heap.size w4 w1k) := stepB (by (repeat (first | exact B5k.out | exact B3k.out | exact B1k.out | (with_reducible exact Below.refl _ _) | (with_reducible refine stepD ?_) | (with_reducible refine stepA ?_ _)))) b1k.out
         have R1k := Lib.hid (row_base h1k.out.1 (le_at (W := w4) (by (repeat (first | exact B5k.out | exact B3k.out | exact B1k.out | (with_reducible exact Below.refl _ _) | (with_reducible refine stepD ?_) | (with_reducible refine stepA ?_ _))))))
         clear h1k)
      | (go_at_call 21; (with_reducible refine (ints2 AK2 (N - (a + 1)) (kc - (a + 1)) CK HlCK.out (by omega) _ (iat_at HCKk.out B1k.out)).mono ?_); rintro e w3k ⟨g3k, c3k, rfl, h3k⟩
         have B3k : Hid (Below w4.heap.size w4 w3k) := stepB B1k.out h3k.out.2
         have R3k := Lib.hid h3k.out.1
         have R4k := Lib.hid (row_kept R1k.out h3k.out.2)
         clear h3k)
      | (refine step_append_own rfl _ _ 37 rfl w4.heap.size 3 i0 _ 1 8 Tryz.underlying37 hi hz0 hz1 hz2 rfl (by decide) (.slice (some ⟨g1k, 0, none⟩) a c1k) a _ rfl R4k.out ⟨g3k, 0, none⟩ (N - (a + 1)) c3k (CK.map (Value.int .i64)) rfl (by rw [List.length_map, HlCK.out, Nat.mul_one]) (row_news R3k.out) (ints_one _) (by unfold maxLen; omega) (by omega) (le_at (W := w4) B3k.out) ?_
         intro v5k w5k hown5 hgrow5
         have B5k : Hid (Below w4.heap.size w4 w5k) := below_own B3k.out hgrow5 R4k.out (le_at (W := w4) B3k.out)
         obtain ⟨a5k, c5k, rfl, hsl5, hle5⟩ := row_sl hown5
         have R5k := Lib.hid hown5
         have TBk := Lib.hid (keepB B5k.out Tk.out)
         obtain ⟨⟨-, -⟩, q2, q3⟩ := row_four TBk.out
         have qf := frozen_of_row _ _ 2 _ _ TBk.out
         clear hown5 hgrow5 hsl5 hle5))
  obtain ⟨V1, hV1⟩ : ∃ V, w5k.setCell ⟨W1.heap.size, 2, none⟩ (.slice a5k (a + (N - (a + 1))) c5k) = V := ⟨_, rfl⟩
  have Hw4k : Hid (W1.heap.size < w4.heap.size) := (Array.getElem?_eq_some_iff.1 M4.out.tbx).1
  have Hw4r : Hid (W2.heap.size < w4.heap.size) := (Array.getElem?_eq_some_iff.1 M4.out.rbx).1
  have MV : Hid (Mb w w.heap.size W1.heap.size W2.heap.size (dcs k n (.slice ka N kc) (.slice va N vc)) (dcs k n (.slice a5k (a + (N - (a + 1))) c5k) V) (dcs 0 0 (.slice none 0 0) (.slice none 0 0)) V1) := by
    have h := (M4.out.next B5k.out).setT (Nat.le_of_lt Hlt.out.1) (Nat.ne_of_gt Hlt.out.1) (Nat.ne_of_lt Hlt.out.2) 2 (.slice a5k (a + (N - (a + 1))) c5k)
    rw [hV1] at h; exact h
  have RK := Lib.hid (ownsRow_setCell_below R5k.out (a := ⟨W1.heap.size, 2, none⟩) Hw4k.out (.slice a5k (a + (N - (a + 1))) c5k))
  rw [hV1] at RK ⊢
  have S3v := Lib.hid (row_four MV.out.sbx).2.2
  have Tv : Hid (V1.heap[W1.heap.size]? = some (.cells (dcs k n (.slice a5k (a + (N - (a + 1))) c5k) V) 39)) := MV.out.tbx
  have HAVv := Lib.hid (HA2.out.below MV.out.below)
  have HCVv := Lib.hid (HC2.out.below MV.out.below)
  have HV1s : Hid (w.heap.size < V1.heap.size) := (Array.getElem?_eq_some_iff.1 MV.out.sbx).1
  have HV1t : Hid (W1.heap.size < V1.heap.size) := (Array.getElem?_eq_some_iff.1 MV.out.tbx).1
  have Hw4V : Hid (w4.heap.size ≤ V1.heap.size) := by have h := B5k.out.size; show _ ≤ _; rw [← hV1]; simpa using h
  have B4s : Hid (w.heap.size ≤ w4.heap.size) := B4.out.size
  clear HAT M4 B4 t2 S2k Tk HAKk HCKk Hw4s B1k R1k B3k R3k R4k B5k R5k TBk q2 q3 qf hV1 h4 b1k HM
  go_wp2_with fail
  go_region_held3 (fun w' => w'.cell? ⟨w.heap.size, 3, none⟩ = some (.slice va N vc)) ((first | (refine cellB (n := V1.heap.size) ?_ HV1s.out S3v.out; (repeat (first | exact B5v.out | exact B3v.out | exact B1v.out | (with_reducible exact Below.refl _ _) | (with_reducible refine stepD ?_) | (with_reducible refine stepA ?_ _))); done) | (with_reducible refine cellS (Nat.ne_of_lt Hlt.out.1) ?_; refine cellB (n := V1.heap.size) ?_ HV1s.out S3v.out; (repeat (first | exact B5v.out | exact B3v.out | exact B1v.out | (with_reducible exact Below.refl _ _) | (with_reducible refine stepD ?_) | (with_reducible refine stepA ?_ _))); done)))
    (first
      | (go_at_call 21; (with_reducible refine (ints2 va a vc AV HlAV.out (by omega) _ (iat_at HAVv.out (by (repeat (first | exact B5v.out | exact B3v.out | exact B1v.out | (with_reducible exact Below.refl _ _) | (with_reducible refine stepD ?_) | (with_reducible refine stepA ?_ _)))))).mono ?_); rintro e w1v ⟨g1v, c1v, rfl, h1v⟩
         have b1v := Lib.hid h1v.out.2
         have B1v : Hid (Below V1.heap.size V1 w1v) := stepB (by (repeat (first | exact B5v.out | exact B3v.out | exact B1v.out | (with_reducible exact Below.refl _ _) | (with_reducible refine stepD ?_) | (with_reducible refine stepA ?_ _)))) b1v.out
         have R1v := Lib.hid (row_base h1v.out.1 (le_at (W := V1) (by (repeat (first | exact B5v.out | exact B3v.out | exact B1v.out | (with_reducible exact Below.refl _ _) | (with_reducible refine stepD ?_) | (with_reducible refine stepA ?_ _))))))
         clear h1v)
      | (go_at_call 21; (with_reducible refine (ints2 AV2 (N - (a + 1)) (vc - (a + 1)) CV HlCV.out (by omega) _ (iat_at HCVv.out B1v.out)).mono ?_); rintro e w3v ⟨g3v, c3v, rfl, h3v⟩
         have B3v : Hid (Below V1.heap.size V1 w3v) := stepB B1v.out h3v.out.2
         have R3v := Lib.hid h3v.out.1
         have R4v := Lib.hid (row_kept R1v.out h3v.out.2)
         clear h3v)
      | (refine step_append_own rfl _ _ 37 rfl V1.heap.size 3 i0 _ 1 8 Tryz.underlying37 hi hz0 hz1 hz2 rfl (by decide) (.slice (some ⟨g1v, 0, none⟩) a c1v) a _ rfl R4v.out ⟨g3v, 0, none⟩ (N - (a + 1)) c3v (CV.map (Value.int .i64)) rfl (by rw [List.length_map, HlCV.out, Nat.mul_one]) (row_news R3v.out) (ints_one _) (by unfold maxLen; omega) (by omega) (le_at (W := V1) B3v.out) ?_
         intro v5v w5v hown5 hgrow5
         have B5v : Hid (Below V1.heap.size V1 w5v) := below_own B3v.out hgrow5 R4v.out (le_at (W := V1) B3v.out)
         obtain ⟨a5v, c5v, rfl, hsl5, hle5⟩ := row_sl hown5
         have R5v := Lib.hid hown5
         have TBv := Lib.hid (keepB B5v.out Tv.out)
         obtain ⟨⟨-, -⟩, q2, q3⟩ := row_four TBv.out
         have qf := frozen_of_row _ _ 3 _ _ TBv.out
         clear hown5 hgrow5 hsl5 hle5))
  obtain ⟨V2, hV2⟩ : ∃ V, w5v.setCell ⟨W1.heap.size, 3, none⟩ (.slice a5v (a + (N - (a + 1))) c5v) = V := ⟨_, rfl⟩
  have MV2 : Hid (Mb w w.heap.size W1.heap.size W2.heap.size (dcs k n (.slice ka N kc) (.slice va N vc)) (dcs k n (.slice a5k (a + (N - (a + 1))) c5k) (.slice a5v (a + (N - (a + 1))) c5v)) (dcs 0 0 (.slice none 0 0) (.slice none 0 0)) V2) := by
    have h := (MV.out.next B5v.out).setT (Nat.le_of_lt Hlt.out.1) (Nat.ne_of_gt Hlt.out.1) (Nat.ne_of_lt Hlt.out.2) 3 (.slice a5v (a + (N - (a + 1))) c5v)
    rw [hV2] at h; exact h
  have RV := Lib.hid (ownsRow_setCell_below R5v.out (a := ⟨W1.heap.size, 3, none⟩) HV1t.out (.slice a5v (a + (N - (a + 1))) c5v))
  have RK2 := Lib.hid (ownsRow_setCell_below (row_kept RK.out B5v.out) (a := ⟨W1.heap.size, 3, none⟩) Hw4k.out (.slice a5v (a + (N - (a + 1))) c5v))
  rw [hV2] at RV RK2 ⊢
  obtain ⟨F1, F2, F3, F4, hF1, hF2, hF3, hF4, ⟨⟨f0, g0⟩, ⟨f1, g1⟩, ⟨f2, g2⟩, ⟨f3, g3⟩⟩, HF, HE⟩ := mapped_box (w := w) (.int .i64 k) (.int .i64 n) (.slice a5k (a + (N - (a + 1))) c5k) (.slice a5v (a + (N - (a + 1))) c5v) MV2.out.drew.rbx (Nat.le_of_lt (Nat.lt_trans Hlt.out.1 Hlt.out.2))
  obtain ⟨⟨q0, q1⟩, q2, q3⟩ := row_four MV2.out.tbx
  obtain ⟨⟨-, -⟩, -, t3⟩ := row_four MV2.out.sbx
  have hu := (MV2.out.below.cell (p := ⟨vb, vo + a, none⟩) (World.block_lt_of_cell? w _ HVC.out)).trans HVC.out
  have hv1 : F4.cell? ⟨vb, vo + a, none⟩ = some (.int .i64 v) := HE.out.2 _ _ _ (Nat.ne_of_lt (Nat.lt_trans (World.block_lt_of_cell? w _ HVC.out) (Nat.lt_trans Hlt.out.1 Hlt.out.2))) hu
  have hv2 : F4.cell? ⟨w.heap.size, 3, none⟩ = some (.slice va N vc) := HE.out.2 _ _ _ (Nat.ne_of_lt (Nat.lt_trans Hlt.out.1 Hlt.out.2)) t3
  obtain ⟨RKF, RVF⟩ : Hid (F4.ownsRow w4.heap.size 3 1 (.slice a5k (a + (N - (a + 1))) c5k) (a + (N - (a + 1))) ((AK ++ CK).map (Value.int .i64))) ∧ Hid (F4.ownsRow V1.heap.size 3 1 (.slice a5v (a + (N - (a + 1))) c5v) (a + (N - (a + 1))) ((AV ++ CV).map (Value.int .i64))) := by
    rw [List.map_append, List.map_append]
    subst hF4 hF3 hF2 hF1
    exact ⟨ownsRow_setCell_below (ownsRow_setCell_below (ownsRow_setCell_below (ownsRow_setCell_below RK2.out.drew Hw4r.out _) Hw4r.out _) Hw4r.out _) Hw4r.out _, ownsRow_setCell_below (ownsRow_setCell_below (ownsRow_setCell_below (ownsRow_setCell_below RV.out.drew (Nat.lt_of_lt_of_le Hw4r.out Hw4V.out) _) (Nat.lt_of_lt_of_le Hw4r.out Hw4V.out) _) (Nat.lt_of_lt_of_le Hw4r.out Hw4V.out) _) (Nat.lt_of_lt_of_le Hw4r.out Hw4V.out) _⟩
  have haN2 : a < N := by omega
  have hva := HVA.out
  rw [hva] at t3 hv2
  rw [hva]
  clear hva
  go_wp2_with fail
  go_region_with (fail)
  all_goals
    go_wp2_with fail
    refine bodyPost_ret (results_row_tmp3 rfl _ _ W2.heap.size 39 _ (0, 0) _ rfl HF.out Tryz.underlying39 rfl (by kernel_rfl)) rfl ?_
    have Bf : Below w.heap.size w F4 := MV2.out.below.drew.trans HE.out.1
    obtain ⟨sk, ck⟩ := row_sl0 RKF.out
    obtain ⟨sv, cv⟩ := row_sl0 RVF.out
    obtain ⟨_, _, ek, _, lk⟩ := row_sl RKF.out
    obtain ⟨_, _, ev, _, lv⟩ := row_sl RVF.out
    cases ek
    cases ev
    have l1 : (AK ++ CK).length = a + (N - (a + 1)) := by simp [HlAK.out, HlCK.out]
    have l2 : (AV ++ CV).length = a + (N - (a + 1)) := by simp [HlAV.out, HlCV.out]
    rw [HKout.out, HVout.out]
    exact ⟨a5k, c5k, a5v, c5v, by rw [l1, l2]; rfl, sk.ints, sv.ints, ck, cv, by omega, by omega, Bf, (own_ge RKF.out).mono B4s.out, (own_ge RVF.out).mono (Nat.le_trans B4s.out Hw4V.out)⟩
end Go.Proofs.YtcjfcomadcebnaaGreatDoor

/- Do of the document's states. -/
namespace Go.Proofs.YtcjfcomadcebnaaGreatDoor
open Go.RowKit Go.Maps Go.WideMaps Go.WideElems Go.ChangeShapes Go.WideShapes
variable {T : TypeId} {er : Nat → Addr}

/-- The zero state's cells. -/
abbrev dz : Array Value := dcs 0 0 (.slice none 0 0) (.slice none 0 0)
/-- Do, behind the copy of the state. -/
structure Dm (w : World) (B rb tb : Nat) (S4 : Array Value) (k n : Int) (g1 g2 kc vc : Nat) (ks vs : List Int) (V : World) : Prop where
  below : Below w.heap.size w V
  sbx : V.heap[w.heap.size]? = some (.cells S4 39)
  rbx : V.heap[rb]? = some (.cells dz 39)
  tbx : V.heap[tb]? = some (.cells (dcs k n (.slice (some ⟨g1, 0, none⟩) ks.length kc) (.slice (some ⟨g2, 0, none⟩) vs.length vc)) 39)
  keys : V.ownsRow B 3 1 (.slice (some ⟨g1, 0, none⟩) ks.length kc) ks.length (ks.map (Value.int .i64))
  vals : V.ownsRow B 3 1 (.slice (some ⟨g2, 0, none⟩) vs.length vc) vs.length (vs.map (Value.int .i64))
  ne : g1 ≠ g2
  ord : w.heap.size < rb ∧ rb < B ∧ B ≤ tb
/-- The copy's box written. -/
theorem dm_fin {w V : World} {B rb tb : Nat} {S4 : Array Value} {k n : Int} {g1 g2 kc vc : Nat} {ks vs : List Int} (hb : Below w.heap.size w V) (hs : V.heap[w.heap.size]? = some (.cells S4 39)) (hr : V.heap[rb]? = some (.cells dz 39)) (ht : V.heap[tb]? = some (.cells dz 39))
    (hk : V.ownsRow B 3 1 (.slice (some ⟨g1, 0, none⟩) ks.length kc) ks.length (ks.map (Value.int .i64))) (hv : V.ownsRow B 3 1 (.slice (some ⟨g2, 0, none⟩) vs.length vc) vs.length (vs.map (Value.int .i64))) (hne : g1 ≠ g2) (hord : w.heap.size < rb ∧ rb < B ∧ B ≤ tb) :
    ∃ V1 V2 V3 V4, V.setCell ⟨tb, 0, none⟩ (.int .i64 k) = V1 ∧ V1.setCell ⟨tb, 1, none⟩ (.int .i64 n) = V2 ∧ V2.setCell ⟨tb, 2, none⟩ (.slice (some ⟨g1, 0, none⟩) ks.length kc) = V3 ∧ V3.setCell ⟨tb, 3, none⟩ (.slice (some ⟨g2, 0, none⟩) vs.length vc) = V4 ∧
      ((V.cell? ⟨tb, 0, none⟩ = some (.int .i64 0) ∧ V.frozen? ⟨tb, 0, none⟩ = false) ∧ (V1.cell? ⟨tb, 1, none⟩ = some (.int .i64 0) ∧ V1.frozen? ⟨tb, 1, none⟩ = false) ∧ (V2.cell? ⟨tb, 2, none⟩ = some (.slice none 0 0) ∧ V2.frozen? ⟨tb, 2, none⟩ = false) ∧ (V3.cell? ⟨tb, 3, none⟩ = some (.slice none 0 0) ∧ V3.frozen? ⟨tb, 3, none⟩ = false)) ∧
      Hid (Dm w B rb tb S4 k n g1 g2 kc vc ks vs V4) := by
  obtain ⟨V1, V2, V3, V4, e1, e2, e3, e4, hc, hf, hB, hkeep⟩ := mapped_box (w := w) (.int .i64 k) (.int .i64 n) (.slice (some ⟨g1, 0, none⟩) ks.length kc) (.slice (some ⟨g2, 0, none⟩) vs.length vc) ht (by omega)
  refine ⟨V1, V2, V3, V4, e1, e2, e3, e4, hc, ?_⟩
  obtain ⟨_, cur1, q1⟩ := row_heap hk
  obtain ⟨_, cur2, q2⟩ := row_heap hv
  have n1 : g1 ≠ tb := ne_of_type q1 ht (by decide)
  have n2 : g2 ≠ tb := ne_of_type q2 ht (by decide)
  subst e4 e3 e2 e1
  have o1 : (Value.slice (some ⟨g1, 0, none⟩) ks.length kc).ownBlock ≠ some tb := fun e => n1 (by simpa [Value.ownBlock] using e)
  have o2 : (Value.slice (some ⟨g2, 0, none⟩) vs.length vc).ownBlock ≠ some tb := fun e => n2 (by simpa [Value.ownBlock] using e)
  refine ⟨hb.trans hB, ?_, ?_, hf, ?_, ?_, hne, hord⟩
  · exact keepS (by omega) (keepS (by omega) (keepS (by omega) (keepS (by omega) hs)))
  · exact keepS (by omega) (keepS (by omega) (keepS (by omega) (keepS (by omega) hr)))
  · exact ownsRow_setCell_other (ownsRow_setCell_other (ownsRow_setCell_other (ownsRow_setCell_other hk (a := ⟨tb, 0, none⟩) o1 _) (a := ⟨tb, 1, none⟩) o1 _) (a := ⟨tb, 2, none⟩) o1 _) (a := ⟨tb, 3, none⟩) o1 _
  · exact ownsRow_setCell_other (ownsRow_setCell_other (ownsRow_setCell_other (ownsRow_setCell_other hv (a := ⟨tb, 0, none⟩) o2 _) (a := ⟨tb, 1, none⟩) o2 _) (a := ⟨tb, 2, none⟩) o2 _) (a := ⟨tb, 3, none⟩) o2 _
/-- The copies' lists. -/
theorem dm_iat {w V : World} {B rb tb : Nat} {S4 : Array Value} {k n : Int} {g1 g2 kc vc : Nat} {ks vs : List Int} (h : Dm w B rb tb S4 k n g1 g2 kc vc ks vs V) :
    (IAt V (some ⟨g1, 0, none⟩) ks ∧ IAt V (some ⟨g2, 0, none⟩) vs) ∧ (ks.length ≤ kc ∧ vs.length ≤ vc) ∧ (∀ o, (some ⟨g1, 0, none⟩ : Option Addr) ≠ some ⟨rb, o, none⟩) ∧ (∀ o, (some ⟨g2, 0, none⟩ : Option Addr) ≠ some ⟨rb, o, none⟩) ∧ g1 ≠ tb ∧ g2 ≠ tb := by
  obtain ⟨h1, cur1, q1⟩ := row_heap h.keys
  obtain ⟨h2, cur2, q2⟩ := row_heap h.vals
  obtain ⟨_, _, ek, _, lk⟩ := row_sl h.keys
  obtain ⟨_, _, ev, _, lv⟩ := row_sl h.vals
  cases ek
  cases ev
  have ho := h.ord
  refine ⟨⟨(row_sl0 h.keys).1.ints, (row_sl0 h.vals).1.ints⟩, ⟨lk, lv⟩, fun o e => ?_, fun o e => ?_, ne_of_type q1 h.tbx (by decide), ne_of_type q2 h.tbx (by decide)⟩
  · cases e; omega
  · cases e; omega
theorem dm_ge {w V : World} {B rb tb : Nat} {S4 : Array Value} {k n : Int} {g1 g2 kc vc : Nat} {ks vs : List Int} (h : Dm w B rb tb S4 k n g1 g2 kc vc ks vs V) : Ge w.heap.size (some ⟨g1, 0, none⟩) ∧ Ge w.heap.size (some ⟨g2, 0, none⟩) := by
  have ho := h.ord
  exact ⟨(own_ge h.keys).mono (by omega), (own_ge h.vals).mono (by omega)⟩
theorem iat_keep {V F : World} {rb : Nat} {a : Option Addr} {zs : List Int} (h : IAt V a zs) (hne : ∀ o, a ≠ some ⟨rb, o, none⟩) (hk : ∀ b o u, b ≠ rb → V.cell? ⟨b, o, none⟩ = some u → F.cell? ⟨b, o, none⟩ = some u) : IAt F a zs := by
  rcases h with h | ⟨b, off, e, hc⟩
  · exact .inl h
  · exact .inr ⟨b, off, e, fun k h => hk b _ _ (fun eb => hne off (by rw [e, eb])) (hc k h)⟩
/-- What Do answers, at the end. -/
theorem dv_end {w V F : World} {rb : Nat} {k n r g : Int} {ka va : Option Addr} {kc vc : Nat} {ks vs : List Int} (hE : Below w.heap.size V F ∧ ∀ b o u, b ≠ rb → V.cell? ⟨b, o, none⟩ = some u → F.cell? ⟨b, o, none⟩ = some u) (hb : Below w.heap.size w V) (ik : IAt V ka ks) (iv : IAt V va vs) (nk : ∀ o, ka ≠ some ⟨rb, o, none⟩) (nv : ∀ o, va ≠ some ⟨rb, o, none⟩) (ck : ka = none → kc = 0) (cv : va = none → vc = 0) (lk : ks.length ≤ kc) (lv : vs.length ≤ vc) (gk : Ge w.heap.size ka) (gv : Ge w.heap.size va) :
    DvRes w.heap.size k n ks vs r g w (.returned (.tuple #[.agg #[.int .i64 k, .int .i64 n, .slice ka ks.length kc, .slice va vs.length vc], .int .i64 r, .int .i64 g, .int .i64 0])) F :=
  ⟨ka, kc, va, vc, rfl, iat_keep ik nk hE.2, iat_keep iv nv hE.2, ck, cv, lk, lv, hb.trans hE.1, gk, gv⟩
theorem own_ne {W : World} {B n tb : Nat} {v : Value} {xs : List Value} {cs : Array Value} (h : W.ownsRow B 3 1 v n xs) (ht : W.heap[tb]? = some (.cells cs 39)) : v.ownBlock ≠ some tb := by
  rcases h.2 with ⟨e, _⟩ | ⟨g, cap, cur, e, _, hg, _⟩
  · subst e; intro e; cases e
  · subst e
    intro e
    exact ne_of_type hg ht (by decide) (by simpa [Value.ownBlock] using e)
theorem own_addr_ne {W : World} {B n c rb : Nat} {a : Option Addr} {xs : List Value} {cs : Array Value} (h : W.ownsRow B 3 1 (.slice a n c) n xs) (ht : W.heap[rb]? = some (.cells cs 39)) : ∀ o, a ≠ some ⟨rb, o, none⟩ := by
  intro o e
  rcases h.2 with ⟨e1, _⟩ | ⟨g, cap, cur, e1, _, hg, _⟩
  · cases e1; cases e
  · cases e1
    cases e
    exact ne_of_type hg ht (by decide) rfl
theorem dv_rows {w V F : World} {rb B1 B2 nk nv : Nat} {k n r g : Int} {ka va : Option Addr} {kc vc : Nat} {ks vs : List Int} {cs : Array Value} (hE : Below w.heap.size V F ∧ ∀ b o u, b ≠ rb → V.cell? ⟨b, o, none⟩ = some u → F.cell? ⟨b, o, none⟩ = some u) (hb : Below w.heap.size w V) (rk : V.ownsRow B1 3 1 (.slice ka nk kc) nk (ks.map (Value.int .i64))) (rv : V.ownsRow B2 3 1 (.slice va nv vc) nv (vs.map (Value.int .i64))) (rx : V.heap[rb]? = some (.cells cs 39)) (hk : ks.length = nk) (hv : vs.length = nv) (h1 : w.heap.size ≤ B1) (h2 : w.heap.size ≤ B2) :
    DvRes w.heap.size k n ks vs r g w (.returned (.tuple #[.agg #[.int .i64 k, .int .i64 n, .slice ka nk kc, .slice va nv vc], .int .i64 r, .int .i64 g, .int .i64 0])) F := by
  subst hk hv
  obtain ⟨_, _, ek, _, lk⟩ := row_sl rk
  obtain ⟨_, _, ev, _, lv⟩ := row_sl rv
  cases ek
  cases ev
  exact dv_end hE hb (row_sl0 rk).1.ints (row_sl0 rv).1.ints (own_addr_ne rk rx) (own_addr_ne rv rx) (row_sl0 rk).2 (row_sl0 rv).2 lk lv ((own_ge rk).mono h1) ((own_ge rv).mono h2)
/-- Two boxes of states. -/
theorem two_box (w : World) (S4 R4 : Array Value) : ∃ W1 W2, w.alloc (.cells S4 39) = W1 ∧ W1.alloc (.cells R4 39) = W2 ∧ Hid (Below w.heap.size w W2) ∧ Hid (w.heap.size < W1.heap.size) ∧ Hid (W2.heap[w.heap.size]? = some (.cells S4 39)) ∧ Hid (W2.heap[W1.heap.size]? = some (.cells R4 39)) := by
  obtain ⟨W1, h1, b1, s1, x1⟩ := cells_new w S4 39
  obtain ⟨W2, h2, b2, s2, x2⟩ := cells_new W1 R4 39
  exact ⟨W1, W2, h1, h2, stepB b1.out b2.out, s1.out, keepB b2.out x1.out, x2.out⟩
end Go.Proofs.YtcjfcomadcebnaaGreatDoor
