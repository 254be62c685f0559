/- The items of a text that has one, judged, by a contract. -/
import Derived.Test.YtgnpcbpbmalgiaaDoorSl
namespace Go.Proofs.YtgnpcbpbmalgiaaDoor
open Go.RowKit Go.Maps Go.WideMaps Go.WideElems Go.ChangeShapes Go.WideShapes
attribute [local go_sem] Oper.semAt_some

variable {T : TypeId} {er : Nat → Addr}

theorem split_stops (n : Nat) (hn : 1 ≤ n) (c : Nat) (it : List UInt8) (hit : (32 : UInt8) ∉ it) (w : World) (hs : w.cell? ⟨c, 0, none⟩ = some (tv it)) (hp : w.cell? ⟨c + 1, 0, none⟩ = some (.string ⟨#[32]⟩)) :
    SeqStopsK Fence.wide n Tryd.prog 69 #[.pointer (some ⟨c + 1, 0, none⟩), .pointer (some ⟨c, 0, none⟩), .pointer (some ⟨c + 2, 0, none⟩)] (fun _ : Nat => #[tv it]) (fun _ _ => True) (fun ys => ys = [0]) (fun pre => pre = [0]) 1 w := fun l J Jx W hW _ _ hY h0 =>
  (split1 n hn l c it hit J Jx (fun W1 h1 => by
    obtain ⟨fn, tmps, assign, body, hy, hR⟩ := hY [] 0 W1 h1 (by decide)
    exact ⟨fn, tmps, assign, body, hy, hR.mono fun e W' h => h.imp (fun h => ⟨h.1, h.2.1⟩) id⟩) W ((hW.cell (World.block_lt_of_cell? w _ hs)).trans hs) ((hW.cell (World.block_lt_of_cell? w _ hp)).trans hp) h0).mono fun e W' h => ⟨h.1, h.2.imp (fun h => ⟨[0], rfl, h⟩) (fun h => ⟨[0], rfl, h⟩)⟩

theorem splitInner_any (it : List UInt8) (w : World) : Calls Tryd.prog 59 #[tv it, .string ⟨#[32]⟩, .int .i64 0] w fun e w' => e = .returned (.func (.func 69) #[] #[.pointer (some ⟨w.heap.size + 1, 0, none⟩), .pointer (some ⟨w.heap.size, 0, none⟩), .pointer (some ⟨w.heap.size + 2, 0, none⟩)]) ∧ ((w.alloc (.cells #[tv it] 9)).alloc (.cells #[.string ⟨#[32]⟩] 9)).alloc (.cells #[.int .i64 0] 3) = w' := by
  have hmf : ∀ (fn : Fn) (first cap : Array Value) (w : World), (Instr.makeFunc fn first cap).run Tryd.prog w = .ok (.func fn first cap) w := fun _ _ _ _ => rfl
  go_enter Tryd.func59, Tryd.ntmps59
  go_wp2
  go_ret
  exact ⟨rfl, rfl⟩
theorem splitSeq_any (it : List UInt8) (w : World) : Calls Tryd.prog 48 #[tv it, .string ⟨#[32]⟩] w fun e w' => e = .returned (.func (.func 69) #[] #[.pointer (some ⟨w.heap.size + 1, 0, none⟩), .pointer (some ⟨w.heap.size, 0, none⟩), .pointer (some ⟨w.heap.size + 2, 0, none⟩)]) ∧ ((w.alloc (.cells #[tv it] 9)).alloc (.cells #[.string ⟨#[32]⟩] 9)).alloc (.cells #[.int .i64 0] 3) = w' := by
  have H := Lib.hid (splitInner_any it w)
  go_enter Tryd.func48, Tryd.ntmps48
  go_wp2_with (first | (go_at_call 59; refine H.out.mono ?_; rintro e w' ⟨rfl, rfl⟩))
  go_ret
  exact ⟨rfl, rfl⟩

theorem own_of_below {β : Type} {n B : Nat} (hB : n ≤ B) {I : β → World → Prop} (hsz : ∀ x W, I x W → n ≤ W.heap.size) (h : ∀ x W W', I x W → Below n W W' → I x W') : OwnFrom B I :=
  fun x W W' _ hs hg hr => h x W W' hs ((Below.refl n W).grown hg (hsz x W hs) (fun k e => Nat.le_trans hB (hr k e).1))
theorem keeps_below {W W' : World} (h : Below W.heap.size W W') : KeepsOthers W W' := ⟨h.size, fun k _ hk _ => (h.block k (Array.getElem?_eq_some_iff.1 hk).1).trans hk⟩

/-- What holds at the head of a round, and behind the loop. -/
structure LoopAt (T : TypeId) (er : Nat → Addr) (w : World) (n₀ N B b : Nat) (pre : List Nat) (W : World) : Prop where
  size : N ≤ W.heap.size
  below : Below n₀ w W
  glob : Glob T er W
  judge : W.cell? ⟨b, 0, none⟩ = some (.func (.func 49) #[] #[.pointer (some ⟨B, 0, none⟩), .pointer (some ⟨B + 1, 0, none⟩)])
  res : W.cell? ⟨b + 1, 0, none⟩ = some .nilIface
  resf : W.frozen? ⟨b + 1, 0, none⟩ = false
  all : W.cell? ⟨b + 2, 0, none⟩ = some (.bool true)
  allf : W.frozen? ⟨b + 2, 0, none⟩ = false
  first : pre = [] → JudgeAt W B true 0
theorem JudgeAt.belowN {w w' : World} {B n : Nat} {f : Bool} {k : Int} (h : JudgeAt w B f k) (hb : Below n w w') (hn : B + 1 < n) : JudgeAt w' B f k :=
  ⟨(hb.cell (p := ⟨B, 0, none⟩) (by show B < n; omega)).trans h.c0, (hb.cell (p := ⟨B + 1, 0, none⟩) hn).trans h.c1, (hb.frozen (p := ⟨B, 0, none⟩) (by show B < n; omega)).trans h.f0, (hb.frozen (p := ⟨B + 1, 0, none⟩) hn).trans h.f1⟩
theorem LoopAt.step {w W W' : World} {n₀ N B b : Nat} {pre : List Nat} (h : LoopAt T er w n₀ N B b pre W) (hb : Below N W W') (hN : B + 1 < N ∧ b + 2 < N ∧ 15 ≤ N ∧ n₀ ≤ N) : LoopAt T er w n₀ N B b pre W' := by
  have c : ∀ g, g < N → W'.cell? ⟨g, 0, none⟩ = W.cell? ⟨g, 0, none⟩ := fun g hg => hb.cell (p := ⟨g, 0, none⟩) hg
  exact ⟨Nat.le_trans h.size hb.size, h.below.trans (hb.mono hN.2.2.2), h.glob.below hb hN.2.2.1, (c b (by omega)).trans h.judge, (c (b + 1) (by omega)).trans h.res, (hb.frozen (p := ⟨b + 1, 0, none⟩) (by show b + 1 < N; omega)).trans h.resf, (c (b + 2) (by omega)).trans h.all, (hb.frozen (p := ⟨b + 2, 0, none⟩) (by show b + 2 < N; omega)).trans h.allf, fun e => (h.first e).belowN hb hN.1⟩

theorem allocs_size : ∀ (l : List Obj) (w : World), (l.foldl World.alloc w).heap.size = w.heap.size + l.length
  | [], w => rfl
  | o :: l, w => by rw [List.foldl_cons, allocs_size l, World.size_alloc]; simp; omega
theorem allocs_below : ∀ (l : List Obj) (w : World) (B : Nat), B ≤ w.heap.size → Below B w (l.foldl World.alloc w)
  | [], w, B, _ => Below.refl _ _
  | o :: l, w, B, h => ((Below.refl B w).alloc h o).trans (allocs_below l (w.alloc o) B (by rw [World.size_alloc]; omega))
theorem allocs_at : ∀ (l : List Obj) (w : World) (i : Nat) (o : Obj), l[i]? = some o → (l.foldl World.alloc w).heap[w.heap.size + i]? = some o
  | [], _, _, _, h => by simp at h
  | x :: l, w, 0, o, h => by
    have hx : x = o := by simpa using h
    subst hx
    rw [List.foldl_cons]
    have hb := allocs_below l (w.alloc x) (w.heap.size + 1) (by rw [World.size_alloc]; exact Nat.le_refl _)
    exact (hb.block w.heap.size (Nat.lt_succ_self _)).trans (World.alloc_heap_new w x)
  | x :: l, w, i + 1, o, h => by
    have := allocs_at l (w.alloc x) i o (by simpa using h)
    rw [World.size_alloc] at this
    rw [List.foldl_cons, show w.heap.size + (i + 1) = w.heap.size + 1 + i by omega]
    exact this
theorem cell_of {W : World} {g : Nat} {v : Value} {t : TypeId} (h : W.heap[g]? = some (.cells #[v] t)) : W.cell? ⟨g, 0, none⟩ = some v ∧ W.frozen? ⟨g, 0, none⟩ = false := ⟨by simp [World.cell?, h], by simp [World.frozen?, h]⟩
theorem cell_set {w : World} {g h : Nat} {v : Value} (hne : g ≠ h) : (w.setCell ⟨g, 0, none⟩ v).cell? ⟨h, 0, none⟩ = w.cell? ⟨h, 0, none⟩ := World.cell?_setCell_other _ _ _ _ (by intro h'; injection h' with h1; exact hne h1)
/-- The world behind the judge's call. -/
abbrev judgedW (w2 : World) (B : Nat) (kk : Int) : World := (w2.setCell ⟨B, 0, none⟩ (.bool false)).setCell ⟨B + 1, 0, none⟩ (.int .i64 kk)
theorem LoopAt.judged {w W w2 : World} {n₀ N B b : Nat} {kk : Int} {pre : List Nat} (h : LoopAt T er w n₀ N B b pre W) (hb : Below W.heap.size W w2) (hN : B + 1 < b ∧ b + 2 < N ∧ 15 ≤ n₀ ∧ n₀ ≤ B) (x : Nat) :
    LoopAt T er w n₀ N B b (pre ++ [x]) (judgedW w2 B kk) := by
  have hs := h.size
  have c : ∀ g, g < N → w2.cell? ⟨g, 0, none⟩ = W.cell? ⟨g, 0, none⟩ := fun g hg => hb.cell (p := ⟨g, 0, none⟩) (by show g < W.heap.size; omega)
  have f : ∀ g, g < N → w2.frozen? ⟨g, 0, none⟩ = W.frozen? ⟨g, 0, none⟩ := fun g hg => hb.frozen (p := ⟨g, 0, none⟩) (by show g < W.heap.size; omega)
  have s : ∀ g, g ≠ B → g ≠ B + 1 → (judgedW w2 B kk).cell? ⟨g, 0, none⟩ = w2.cell? ⟨g, 0, none⟩ := fun g h0 h1 => (cell_set (Ne.symm h1)).trans (cell_set (Ne.symm h0))
  have sf : ∀ g, (judgedW w2 B kk).frozen? ⟨g, 0, none⟩ = w2.frozen? ⟨g, 0, none⟩ := fun g => (World.frozen?_setCell ..).trans (World.frozen?_setCell ..)
  have hw : Below n₀ W (judgedW w2 B kk) := ((hb.mono (by omega)).setCell (p := ⟨B, 0, none⟩) hN.2.2.2 _).setCell (p := ⟨B + 1, 0, none⟩) (by show n₀ ≤ B + 1; omega) _
  exact ⟨by have := hw.size; omega, h.below.trans hw, h.glob.below (hw.mono hN.2.2.1) (Nat.le_refl _), (s b (by omega) (by omega)).trans ((c b (by omega)).trans h.judge), (s (b + 1) (by omega) (by omega)).trans ((c (b + 1) (by omega)).trans h.res), (sf _).trans ((f (b + 1) (by omega)).trans h.resf), (s (b + 2) (by omega) (by omega)).trans ((c (b + 2) (by omega)).trans h.all), (sf _).trans ((f (b + 2) (by omega)).trans h.allf), fun e => by simp at e⟩
theorem LoopAt.allset {w W : World} {n₀ N B b : Nat} {pre : List Nat} (h : LoopAt T er w n₀ N B b pre W) (hp : pre ≠ []) (hN : B + 1 < b ∧ b + 2 < N ∧ 15 ≤ n₀ ∧ n₀ ≤ B) : LoopAt T er w n₀ N B b pre (W.setCell ⟨b + 2, 0, none⟩ (.bool true)) := by
  have hw : Below n₀ W (W.setCell ⟨b + 2, 0, none⟩ (.bool true)) := (Below.refl _ _).setCell (p := ⟨b + 2, 0, none⟩) (by show n₀ ≤ b + 2; omega) _
  have sf : ∀ g, (W.setCell ⟨b + 2, 0, none⟩ (.bool true)).frozen? ⟨g, 0, none⟩ = W.frozen? ⟨g, 0, none⟩ := fun g => World.frozen?_setCell ..
  exact ⟨by have := hw.size; have := h.size; omega, h.below.trans hw, h.glob.below (hw.mono hN.2.2.1) (Nat.le_refl _), (cell_set (by omega)).trans h.judge, (cell_set (by omega)).trans h.res, (sf _).trans h.resf, World.cell?_setCell_same _ _ _ h.all, (sf _).trans h.allf, fun e => absurd e hp⟩
theorem LoopAt.resset {w W : World} {n₀ N B b : Nat} {pre : List Nat} (h : LoopAt T er w n₀ N B b pre W) (hp : pre ≠ []) (hN : B + 1 < b ∧ b + 2 < N ∧ 15 ≤ n₀ ∧ n₀ ≤ B) : LoopAt T er w n₀ N B b pre (W.setCell ⟨b + 1, 0, none⟩ .nilIface) := by
  have hw : Below n₀ W (W.setCell ⟨b + 1, 0, none⟩ .nilIface) := (Below.refl _ _).setCell (p := ⟨b + 1, 0, none⟩) (by show n₀ ≤ b + 1; omega) _
  have sf : ∀ g, (W.setCell ⟨b + 1, 0, none⟩ .nilIface).frozen? ⟨g, 0, none⟩ = W.frozen? ⟨g, 0, none⟩ := fun g => World.frozen?_setCell ..
  exact ⟨by have := hw.size; have := h.size; omega, h.below.trans hw, h.glob.below (hw.mono hN.2.2.1) (Nat.le_refl _), (cell_set (by omega)).trans h.judge, World.cell?_setCell_same _ _ _ h.res, (sf _).trans h.resf, (cell_set (by omega)).trans h.all, (sf _).trans h.allf, fun e => absurd e hp⟩

theorem res26 (tmps : Array Value) (W : World) (b : Nat) (h : W.cell? ⟨b, 0, none⟩ = some .nilIface) (h2 : tmps.getD 4 undef = .pointer (some ⟨b, 0, none⟩)) : (results Tryd.f26 tmps).run Tryd.prog W = .ok .nilIface W := by
  have h2' : tmps[4]?.getD undef = .pointer (some ⟨b, 0, none⟩) := by simpa using h2
  have hl : (loadVar 29 ⟨b, 0, none⟩).run Tryd.prog W = .ok .nilIface W := by go_simp
  simp [results, Tryd.results26, h2', asAddr, hl]

theorem leave26 {R : Ending → World → Prop} {a : Act} {w : World} (D b : Nat) (hd : a.defers = [{ target := .collected D, args := #[] }]) (hp : a.tmps.getD 4 undef = .pointer (some ⟨b, 0, none⟩)) (hK : w.heap[D]? = some (.deferred (some [])))
    (hc : (w.putObj D (.deferred none)).cell? ⟨b, 0, none⟩ = some .nilIface) (hR : R (.returned .nilIface) (w.putObj D (.deferred none))) : bodyPostM Fence.wide 10 Tryd.prog Tryd.f26 R .ret a w := by
  show LeavesInM Fence.wide 10 Tryd.prog Tryd.f26 a.tmps R a.defers .returning w
  rw [hd]
  exact ⟨by simp, .inl ⟨_, _, rfl, run_takeDeferred hK, _, res26 _ _ b hc hp, hR⟩⟩

set_option maxRecDepth 100000 in
set_option maxHeartbeats 4000000 in
theorem judgeItems_one (p : Int × Int) (hk : 0 ≤ p.1 ∧ p.1 ≤ 1000) (hv : near p.2 1000000000) (B n₀ : Nat) (w : World) (hJ : JudgeAt w B true 0) (hn₀ : n₀ ≤ B) (h15 : 15 ≤ n₀) (hG : Glob T er w) :
    Calls Tryd.prog 26 #[tv (32 :: item p), .func (.func 49) #[] #[.pointer (some ⟨B, 0, none⟩), .pointer (some ⟨B + 1, 0, none⟩)]] w fun e w' => e = .returned .nilIface ∧ Hid (Below n₀ w w') := by
  have Hjf := Lib.hid (fun W (h : JudgeAt W B true 0) (hg : Glob T er W) => judge_first p hk hv B W h hg)
  have HJ := Lib.hid hJ
  have HG := Lib.hid hG
  have hcut : ∀ w, (Instr.slice 9 (tv (32 :: item p)) (some (.int .i64 1)) none none).run Tryd.prog w = .ok (tv (item p)) w := str_from (32 :: item p) 1 (by simp)
  have hit := item_32 p
  have hBl : B + 1 < w.heap.size := World.block_lt_of_cell? w _ hJ.c1
  obtain ⟨L, hL⟩ : ∃ L, L = 32 :: item p := ⟨_, rfl⟩
  have hLe : L.isEmpty = false := by rw [hL]; rfl
  rw [← hL] at hcut ⊢
  generalize item p = it at *
  generalize p.1 = kk at *
  have Hit := Lib.hid hit
  clear hJ hG hk hv hL hit
  refine callsIn_wide.1 (callsIn_of_wp_marks (F := Fence.wide) (n := 10) Tryd.func26 rfl trivial (wpIn_wide.2 ?_) rfl)
  simp only [Tryd.ntmps26, List.size_toArray, List.length_cons, List.length_nil, Nat.reduceAdd, Nat.reduceSub, Array.replicate_succ, Array.replicate_zero, List.push_toArray, List.append_toArray, List.nil_append, List.cons_append]
  go_wp2_with (first | (go_at_call 48; refine (splitSeq_any it _).mono ?_; rintro e w6 ⟨rfl, hw6⟩))
  obtain ⟨b, hb⟩ : ∃ b, b = w.heap.size := ⟨_, rfl⟩
  have hw6' : ([.cells #[.func (.func 49) #[] #[.pointer (some ⟨B, 0, none⟩), .pointer (some ⟨B + 1, 0, none⟩)]] 66, .cells #[.nilIface] 29, .cells #[.bool true] 4, .cells #[tv it] 9, .cells #[.string ⟨#[32]⟩] 9, .cells #[.int .i64 0] 3] : List Obj).foldl World.alloc w = w6 := hw6
  have hs6 : w6.heap.size = b + 6 := by rw [← hw6', allocs_size, hb]; rfl
  have hB6 : Below b w w6 := by rw [← hw6', hb]; exact allocs_below _ w _ (Nat.le_refl _)
  have hat : ∀ i o, ([.cells #[.func (.func 49) #[] #[.pointer (some ⟨B, 0, none⟩), .pointer (some ⟨B + 1, 0, none⟩)]] 66, .cells #[.nilIface] 29, .cells #[.bool true] 4, .cells #[tv it] 9, .cells #[.string ⟨#[32]⟩] 9, .cells #[.int .i64 0] 3] : List Obj)[i]? = some o → w6.heap[b + i]? = some o := fun i o h => by rw [← hw6', hb]; exact allocs_at _ w i o h
  have k0 := (cell_of (hat 0 _ rfl)).1
  have k1 := cell_of (hat 1 _ rfl)
  have k2 := cell_of (hat 2 _ rfl)
  have k3 := (cell_of (hat 3 _ rfl)).1
  have k4 := (cell_of (hat 4 _ rfl)).1
  have hGb : Glob T er w6 := HG.out.below hB6 (by rw [hb]; exact HG.out.size)
  have hJ6 : JudgeAt w6 B true 0 := HJ.out.below (by rw [← hb]; exact hB6)
  have hN : B + 1 < b ∧ b + 2 < b + 6 ∧ 15 ≤ n₀ ∧ n₀ ≤ B := ⟨by rw [hb]; exact hBl, by omega, h15, hn₀⟩
  have h0 : LoopAt T er w n₀ (b + 6) B b [] w6 := ⟨by omega, hB6.mono (by omega), hGb, k0, k1.1, k1.2, k2.1, k2.2, fun _ => hJ6⟩
  have hseq := split_stops (10 - 1) (by decide) (b + 3) it Hit.out w6 k3 k4
  have hown : OwnFrom w6.heap.size (fun (pre : List Nat) W => LoopAt T er w n₀ (b + 6) B b pre W) := own_of_below (n := b + 6) (by omega) (fun _ _ h => h.size) (fun _ _ _ h hb => h.step hb (by omega))
  have H0 := Lib.hid h0
  clear hw6 hw6' hat k0 k1 k2 k3 k4 hGb hJ6 h0 hB6
  subst hb
  refine (wpIn_wide (n := 10)).1 ?_
  apply wpIn_rangeFunc_ownF (F := Fence.wide) (n := 10) rfl (by decide) (gf := 69) (lb := #[.pointer (some ⟨w.heap.size + 3 + 1, 0, none⟩), .pointer (some ⟨w.heap.size + 3, 0, none⟩), .pointer (some ⟨w.heap.size + 3 + 2, 0, none⟩)]) rfl trivial (enters_of Tryd.func69 (by kernel_rfl) rfl)
    hseq (fun _ _ => trivial) (fun _ _ _ _ _ _ _ _ => trivial) (Below.refl _ _) (fun _ => rfl)
    (fun pre W => LoopAt T er w n₀ (w.heap.size + 6) B w.heap.size pre W) (fun _ _ _ => False) hown (fun _ _ _ _ _ hs _ _ => hs) H0.out
  case hassign =>
    intro l x W K hK
    gi_wp2
    exact hK
  case hbody =>
    rintro l pre x W hI hlt
    have hpre : pre = [] := List.eq_nil_of_length_eq_zero (by omega)
    subst hpre
    have hj := hI.judge
    have HI := Lib.hid hI
    gi_wp2_with (first | (refine ⟨trivial, ?_⟩; gi_at_call 49; refine (callsIn_wide.2 (Hjf.out _ (HI.out.first rfl) HI.out.glob)).mono ?_; rintro e w7 ⟨rfl, h7⟩; obtain ⟨w2, hb2, rfl⟩ := h7.out; have hM := HI.out.judged hb2 hN x (kk := kk); have ha : (judgedW w2 B kk).cell? ⟨w.heap.size + 1 + 1, 0, none⟩ = some (.bool true) := hM.all; have haf : (judgedW w2 B kk).frozen? ⟨w.heap.size + 1 + 1, 0, none⟩ = false := hM.allf; have HM := Lib.hid hM; have Hb2 := Lib.hid hb2; clear hM hb2))
    exact ⟨((keeps_below Hb2.out).trans (KeepsOthers.setCell _ _ _)).trans ((KeepsOthers.setCell _ _ _).trans (KeepsOthers.setCell _ _ _)), trivial, HM.out.allset (by simp) hN⟩
  case hdone =>
    rintro D ys W hD rfl hI hK
    have ha : W.cell? ⟨w.heap.size + 1 + 1, 0, none⟩ = some (.bool true) := hI.all
    have hr := hI.res
    have hrf := hI.resf
    have HI := Lib.hid hI
    have HK := Lib.hid hK
    have HD := Lib.hid hD
    clear hI hK
    go_wp2
    have hX := HI.out.resset (by simp) hN
    have hk := (KeepsOthers.setCell W ⟨w.heap.size + 1, 0, none⟩ .nilIface).same D _ HK.out rfl
    have hput := belowK_b (n₀ := w.heap.size + 6) (w := w6) (by omega) _ D _ (.deferred none) HD.out hk rfl rfl
    exact leave26 D (w.heap.size + 1) rfl rfl hk ((hput.cell (p := ⟨w.heap.size + 1, 0, none⟩) (by show w.heap.size + 1 < w.heap.size + 6; omega)).trans hX.res) ⟨rfl, hX.below.trans (hput.mono (by omega))⟩
  case hstop =>
    rintro D c pre W _ _ h _
    exact h.elim
end Go.Proofs.YtgnpcbpbmalgiaaDoor
