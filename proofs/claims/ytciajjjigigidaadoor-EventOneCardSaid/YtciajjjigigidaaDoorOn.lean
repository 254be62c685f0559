/- The walk of the statement on the bytes of one event. -/
import Derived.Test.YtciajjjigigidaaDoorEx
import Derived.Test.YtciajjjigigidaaDoorEz
namespace Go.Proofs.YtciajjjigigidaaDoor
open Go.RowKit Go.Maps Go.WideMaps Go.WideElems Go.ChangeShapes Go.WideShapes

variable {T : TypeId} {er : Nat → Addr}

theorem row_shape {w : World} {B : Nat} {e : TypeId} {v : Value} {n : Nat} {xs : List Value} (h : w.ownsRow B e 1 v n xs) : ∃ a c, v = .slice a n c := by
  rcases h.2 with ⟨rfl, rfl⟩ | ⟨g, cap, cur, rfl, _⟩
  · exact ⟨_, _, rfl⟩
  · exact ⟨_, _, rfl⟩
theorem row_at {w : World} {B : Nat} {e : TypeId} {a : Option Addr} {c n : Nat} {xs : List Value} (h : w.ownsRow B e 1 (.slice a n c) n xs) {k : Nat} (hk : k < n) : ∃ g u, a = some ⟨g, 0, none⟩ ∧ B ≤ g ∧ w.cell? ⟨g, k, none⟩ = some u ∧ w.frozen? ⟨g, k, none⟩ = false := by
  rcases h.2 with ⟨e1, h0⟩ | ⟨g, cap, cur, e1, hb, hg, hn, hm, hs, _⟩
  · cases e1; omega
  · cases e1
    have hk' : k < cur.size := by omega
    exact ⟨g, cur[k], rfl, hb, by simp [World.cell?, hg, hk'], by simp [World.frozen?, hg]⟩
theorem row_set {w : World} {B : Nat} {e : TypeId} {g c n : Nat} {xs : List Value} (h : w.ownsRow B e 1 (.slice (some ⟨g, 0, none⟩) n c) n xs) {k : Nat} (_hk : k < n) (u : Value) : (w.setCell ⟨g, k, none⟩ u).ownsRow B e 1 (.slice (some ⟨g, 0, none⟩) n c) n (xs.set k u) := by
  rcases h.2 with ⟨e1, h0⟩ | ⟨g', cap, cur, e1, hb, hg, hn, hm, hs, ht⟩
  · cases e1
  · cases e1
    refine ⟨by rw [List.length_set]; exact h.1, .inr ⟨g, c, cur.setIfInBounds k u, rfl, hb, ?_, hn, hm, by simpa using hs, ?_⟩⟩
    · show (w.heap.modify g _)[g]? = _
      rw [Array.getElem?_modify]
      simp [hg]
    · rw [← ht, Array.toList_setIfInBounds, List.take_set]

/-- The first bytes of a slice. -/
theorem head_run (a : Option Addr) (c : Nat) (l : List Nat) (n : Nat) (hn : n ≤ l.length) (hcap : l.length ≤ c) : ∃ a' c', (∀ w, (Instr.slice 31 (.slice a l.length c) none (some (.int .i64 (n : Int))) none).run Tryd.prog w = .ok (.slice a' (l.take n).length c') w) ∧ ∀ W, BAt W a l → BAt W a' (l.take n) := by
  refine ⟨if c = 0 then a else Option.map (fun x => x.add (0 * 1)) a, c, fun w => ?_, fun W h => ?_⟩
  · have hb : (Instr.sliceBounds true l.length c none (some (.int .i64 (n : Int))) none).run Tryd.prog w = .ok (0, n, c) w := by
      unfold Instr.sliceBounds
      have := run_sliceBound (P := Tryd.prog) (w := w) .i64 (n : Int) c (.sliceAcap) (by omega) (by omega)
      simp [this]
    have hsz : (sizeOf 5).run Tryd.prog w = .ok 1 w := by kernel_rfl
    unfold Instr.slice
    simp only [Sem.run_bind, run_underlying under31 w, Result.andThen_ok, hb, hsz, Sem.run_pure, List.length_take]
    rw [Nat.min_eq_left hn]
    rfl
  · rcases h with rfl | ⟨b, off, rfl, h⟩
    · exact .inl (by simp)
    · have e : (if c = 0 then some (⟨b, off, none⟩ : Addr) else Option.map (fun x : Addr => x.add (0 * 1)) (some (⟨b, off, none⟩ : Addr))) = some (⟨b, off, none⟩ : Addr) := by
        split
        · rfl
        · rfl
      rw [e]
      refine .inr ⟨b, off, rfl, fun i hi => ?_⟩
      rw [List.length_take] at hi
      have := h i (by omega)
      rw [this]
      simp [show i < n by omega]

/-- What holds while the bytes are spoilt. -/
structure SpoilB (W : World) (v : Value) (n : Nat) (wr : World) : Prop where
  row : ∃ xs, wr.ownsRow W.heap.size 5 1 v n xs
  below : Below W.heap.size W wr
theorem SpoilB.set {W wr : World} {g c n : Nat} (h : SpoilB W (.slice (some ⟨g, 0, none⟩) n c) n wr) {k : Nat} (hk : k < n) (u : Value) : SpoilB W (.slice (some ⟨g, 0, none⟩) n c) n (wr.setCell ⟨g, k, none⟩ u) := by
  obtain ⟨xs, hx⟩ := h.row
  obtain ⟨g', u', e, hB, _⟩ := row_at hx hk
  cases e
  exact ⟨⟨_, row_set hx hk u⟩, h.below.setCell (p := ⟨g, k, none⟩) hB _⟩

set_option maxRecDepth 100000 in
set_option maxHeartbeats 4000000 in
theorem one_ev (a : Option Addr) (c : Nat) (l : List Nat) (w : World) (hF : FromIn w a c l) (hG : GlobX T er w) :
    Calls Tryd.prog 4 #[.slice a l.length c] w fun e w' => e = .returned (.bool true) ∧ Hid (Below w.heap.size w w') := by
  have Hf := Lib.hid (first_any w hG.toGlob)
  have HG := Lib.hid hG
  have HF := Lib.hid hF
  by_cases hbig : 16384 < l.length
  · have hd : decide ((16384 : Int) < (l.length : Int)) = true := by simp; omega
    clear hG hF hbig
    go_enter Tryd.func4, Tryd.ntmps4
    go_wp2_with (first | (go_at_call 6; refine Hf.out.mono ?_; rintro e w1 ⟨rfl, hb1⟩; have H1 := Lib.hid hb1; clear hb1))
    go_ret
    exact ⟨rfl, H1.out⟩
  have hd : decide ((16384 : Int) < (l.length : Int)) = false := by simp; omega
  have hfi : ∀ W, Below w.heap.size w W → FromIn W a c l := fun W h => ⟨hF.at_.below' h, hF.cap, hF.len, hF.byte⟩
  have hfr : ∀ W, Below w.heap.size w W → Calls Tryd.prog 19 #[.slice a l.length c] W (Makes (fromV T er (fromR l)) W) := fun W h => from_any a c l W (hfi W h) (HG.out.below' h)
  cases hR : fromR l with
  | error n =>
    rw [hR] at hfr
    have Hfr : Hid (∀ W, Below w.heap.size w W → Calls Tryd.prog 19 #[.slice a l.length c] W (Makes (.tuple #[Ev.zero.agg, .int .i64 0, .iface T (.pointer (some (er n)))]) W)) := hfr
    have Hse := Lib.hid (fun W => sameEvent_eq Ev.zero W)
    clear hG hF hfi hfr hR hbig
    go_enter Tryd.func4, Tryd.ntmps4
    go_wp2_with (first
      | (go_at_call 6; refine Hf.out.mono ?_; rintro e w1 ⟨rfl, hb1⟩; have H1 := Lib.hid hb1; clear hb1)
      | (go_at_call 19; refine (Hfr.out _ H1.out).mono ?_; rintro e w2 ⟨rfl, hb2⟩; have H2 := Lib.hid (H1.out.trans (hb2.mono H1.out.size)); clear hb2)
      | (go_at_call 20; refine (Hse.out _).mono ?_; rintro e w3 ⟨rfl, hb3⟩; have H3 := Lib.hid (H2.out.trans (((Below.refl _ _).alloc (Nat.le_refl _) (.cells #[.int .i64 0, .int .i64 0, .int .i64 0, .int .i64 0, .int .i64 0, .int .i64 0, .int .i64 0, .int .i64 0] 33)).trans (hb3.mono (by simp)) |>.mono H2.out.size)); clear hb3))
    go_ret
    exact ⟨rfl, H3.out⟩
  | ok x =>
    obtain ⟨e, n⟩ := x
    have hok := from_ok hF.byte hR
    rw [hR] at hfr
    have Hfr : Hid (∀ W, Below w.heap.size w W → Calls Tryd.prog 19 #[.slice a l.length c] W (Makes (.tuple #[e.agg, .int .i64 n, .nilIface]) W)) := hfr
    have Hb : Hid (∀ W, Below w.heap.size w W → Calls Tryd.prog 21 #[e.agg] W fun e' w' => ∃ v, e' = .returned (.tuple #[v, .nilIface]) ∧ Hid (w'.ownsRow W.heap.size 5 1 v (l.take n).length (bc (l.take n)) ∧ Below W.heap.size W w')) := fun W h => by
      have := evBytes_ok e hok.fits hok.valid W (HG.out.below' h).toGlob
      rw [hok.bytes] at this
      exact this
    obtain ⟨a', c', hcut, hcb⟩ := head_run a c l n hok.le hF.cap
    have Hsb : Hid (∀ (W : World) a1 c1, Below w.heap.size w W → BAt W a1 (l.take n) → Calls Tryd.prog 22 #[.slice a1 (l.take n).length c1, .slice a' (l.take n).length c'] W fun e w' => e = .returned (.bool true) ∧ W = w') := fun W a1 c1 hb h1 => by
      have := sameBytes_any a1 a' c1 c' (l.take n) (l.take n) W h1 (hcb W (HF.out.at_.below' hb)) (fun x hx => HF.out.byte x (List.mem_of_mem_take hx)) (fun x hx => HF.out.byte x (List.mem_of_mem_take hx))
      rw [decide_eq_true rfl] at this
      exact this
    have hn1 : decide ((n : Int) < 1) = false := by have := hok.pos; simp; omega
    have hn2 : decide (l.length < n) = false := by have := hok.le; simp; omega
    have hevn := Lib.hid (fun W => evAt_new W e)
    have hln : (l.take n).length ≤ 16384 := by rw [List.length_take]; omega
    generalize l.take n = B at *
    clear hG hF hfi hfr hR hbig hok hcb
    go_enter Tryd.func4, Tryd.ntmps4
    go_wp2_with (first
      | (go_at_call 6; refine Hf.out.mono ?_; rintro e1 w1 ⟨rfl, hb1⟩; have H1 := Lib.hid hb1; clear hb1)
      | (go_at_call 19; refine (Hfr.out _ H1.out).mono ?_; rintro e1 w2 ⟨rfl, hb2⟩; have H2 := Lib.hid (H1.out.trans (hb2.mono H1.out.size)); clear hb2; have H2a : Hid (Below w.heap.size w (w2.alloc (.cells #[.int .i64 e.kind, .int .i64 e.tx, .int .i64 e.thread, .int .i64 e.obj, .int .i64 e.op, .int .i64 e.key, .int .i64 e.val, .int .i64 e.ret] 33))) := H2.out.trans (((Below.refl _ _).alloc (Nat.le_refl _) _).mono H2.out.size))
      | (go_at_call 21; refine (Hb.out _ H2a.out).mono ?_; rintro e1 w3 ⟨v3, rfl, h3⟩; obtain ⟨a3, c3, rfl⟩ := row_shape h3.out.1; have hS3 : SpoilB _ _ _ w3 := ⟨⟨_, h3.out.1⟩, h3.out.2⟩; have H3 := Lib.hid (H2a.out.trans (h3.out.2.mono H2a.out.size)); have hb3 : BAt w3 a3 B := (by obtain ⟨a4, c4, e4, hb4⟩ := bat_row h3.out.1; cases e4; exact hb4); have Hb3 := Lib.hid hb3; have HS3 := Lib.hid hS3; clear hb3 hS3 h3)
      | (go_at_call 22; refine (Hsb.out _ _ _ H3.out Hb3.out).mono ?_; rintro e1 w' ⟨rfl, rfl⟩))
    have Hev2 := Lib.hid (hevn.out w2)
    obtain ⟨W2, hW2⟩ : ∃ W, W = w2.alloc (.cells #[.int .i64 e.kind, .int .i64 e.tx, .int .i64 e.thread, .int .i64 e.obj, .int .i64 e.op, .int .i64 e.key, .int .i64 e.val, .int .i64 e.ret] 33) := ⟨_, rfl⟩
    rw [← hW2] at HS3 Hev2 H2a
    clear hW2 Hb3 H3
    go_loopw [10] (fun i wr => ∃ k : Nat, k ≤ B.length ∧ i = .int .i64 k ∧ Hid (SpoilB W2 (.slice a3 B.length c3) B.length wr)) (fun i _ => B.length - (intOf i).toNat)
    case atStart => exact ⟨0, Nat.zero_le _, rfl, HS3.out⟩
    case round =>
      obtain ⟨k, hk, rfl, HS⟩ := hrel
      clear HS3
      by_cases hlt : k < B.length
      · obtain ⟨xs, hx⟩ := HS.out.row
        obtain ⟨g, u, eg, _, hcg, hfg⟩ := row_at hx hlt
        cases eg
        have HS4 := Lib.hid (HS.out.set hlt (.int .u8 238))
        clear hx
        go_wp2
        go_roundw
        case rel => exact ⟨k + 1, by omega, by go_num, HS4.out⟩
        case measure => simp [intOf]; omega
      · have hke : k = B.length := by omega
        subst hke
        have Hw := Lib.hid (H2a.out.trans (HS.out.below.mono H2a.out.size))
        obtain ⟨d0, d1, d2, d3, d4, d5, d6, d7⟩ := Hev2.out.below' HS.out.below
        go_wp2_with (first
          | (go_at_call 21; refine (Hb.out _ Hw.out).mono ?_; rintro e1 w5 ⟨v5, rfl, h5⟩; obtain ⟨a5, c5, rfl, hb5⟩ := bat_row h5.out.1; have H5 := Lib.hid (Hw.out.trans (h5.out.2.mono Hw.out.size)); have Hb5 := Lib.hid hb5; clear hb5 h5)
          | (go_at_call 22; refine (Hsb.out _ _ _ H5.out Hb5.out).mono ?_; rintro e1 w' ⟨rfl, rfl⟩))
        go_ret
        exact ⟨rfl, H5.out⟩
end Go.Proofs.YtciajjjigigidaaDoor
