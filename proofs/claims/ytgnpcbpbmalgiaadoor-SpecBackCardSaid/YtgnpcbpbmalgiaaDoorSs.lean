/- judgeItems, by contracts: a map's items. -/
import Derived.Test.YtgnpcbpbmalgiaaDoorSr
namespace Go.Proofs.YtgnpcbpbmalgiaaDoor
open Go.RowKit Go.Maps Go.WideMaps Go.WideElems Go.ChangeShapes Go.WideShapes
attribute [local go_sem] Oper.semAt_some

variable {T : TypeId} {er : Nat → Addr}

/-- What holds at the head of a round. -/
structure LpAt (T : TypeId) (er : Nat → Addr) (w : World) (n₀ b : Nat) (jv : Value) (all : Bool) (W : World) : Prop where
  size : b + 6 ≤ W.heap.size
  below : Below n₀ w W
  glob : Glob T er W
  judge : W.cell? ⟨b, 0, none⟩ = some jv
  res : W.cell? ⟨b + 1, 0, none⟩ = some .nilIface
  resf : W.frozen? ⟨b + 1, 0, none⟩ = false
  all : W.cell? ⟨b + 2, 0, none⟩ = some (.bool all)
  allf : W.frozen? ⟨b + 2, 0, none⟩ = false
theorem LpAt.grow {w W W' : World} {n₀ b : Nat} {jv : Value} {all : Bool} (h : LpAt T er w n₀ b jv all W) (hb : Below (b + 3) W W') (hs : W.heap.size ≤ W'.heap.size) (hN : n₀ ≤ b ∧ 15 ≤ n₀) : LpAt T er w n₀ b jv all W' := by
  have c : ∀ g, g < b + 3 → W'.cell? ⟨g, 0, none⟩ = W.cell? ⟨g, 0, none⟩ := fun g hg => hb.cell (p := ⟨g, 0, none⟩) hg
  have f : ∀ g, g < b + 3 → W'.frozen? ⟨g, 0, none⟩ = W.frozen? ⟨g, 0, none⟩ := fun g hg => hb.frozen (p := ⟨g, 0, none⟩) hg
  exact ⟨Nat.le_trans h.size hs, h.below.trans (hb.mono (by omega)), h.glob.below hb (by omega), (c b (by omega)).trans h.judge, (c (b + 1) (by omega)).trans h.res, (f (b + 1) (by omega)).trans h.resf, (c (b + 2) (by omega)).trans h.all, (f (b + 2) (by omega)).trans h.allf⟩
theorem size_setCell' (W : World) (p : Addr) (v : Value) : (W.setCell p v).heap.size = W.heap.size := by simp [World.setCell]
theorem LpAt.far {w W : World} {n₀ b g : Nat} {jv v : Value} {all : Bool} (h : LpAt T er w n₀ b jv all W) (hg : n₀ ≤ g) (h15 : 15 ≤ n₀) (h0 : g ≠ b) (h1 : g ≠ b + 1) (h2 : g ≠ b + 2) : LpAt T er w n₀ b jv all (W.setCell ⟨g, 0, none⟩ v) := by
  have hw : Below n₀ W (W.setCell ⟨g, 0, none⟩ v) := (Below.refl _ _).setCell (p := ⟨g, 0, none⟩) hg _
  have sf : ∀ k, (W.setCell ⟨g, 0, none⟩ v).frozen? ⟨k, 0, none⟩ = W.frozen? ⟨k, 0, none⟩ := fun k => World.frozen?_setCell ..
  exact ⟨by rw [size_setCell']; exact h.size, h.below.trans hw, h.glob.below hw h15, (cell_set h0).trans h.judge, (cell_set h1).trans h.res, (sf _).trans h.resf, (cell_set h2).trans h.all, (sf _).trans h.allf⟩
theorem LpAt.setAll {w W : World} {n₀ b : Nat} {jv : Value} {all all' : Bool} (h : LpAt T er w n₀ b jv all W) (hN : n₀ ≤ b ∧ 15 ≤ n₀) : LpAt T er w n₀ b jv all' (W.setCell ⟨b + 2, 0, none⟩ (.bool all')) := by
  have hw : Below n₀ W (W.setCell ⟨b + 2, 0, none⟩ (.bool all')) := (Below.refl _ _).setCell (p := ⟨b + 2, 0, none⟩) (by show n₀ ≤ b + 2; omega) _
  have sf : ∀ k, (W.setCell ⟨b + 2, 0, none⟩ (.bool all')).frozen? ⟨k, 0, none⟩ = W.frozen? ⟨k, 0, none⟩ := fun k => World.frozen?_setCell ..
  exact ⟨by rw [size_setCell']; exact h.size, h.below.trans hw, h.glob.below hw hN.2, (cell_set (by omega)).trans h.judge, (cell_set (by omega)).trans h.res, (sf _).trans h.resf, World.cell?_setCell_same _ _ _ h.all, (sf _).trans h.allf⟩
/-- An answer is laid. -/
structure ResAt (w : World) (n₀ b : Nat) (v : Value) (W : World) : Prop where
  size : b + 6 ≤ W.heap.size
  below : Below n₀ w W
  res : W.cell? ⟨b + 1, 0, none⟩ = some v
theorem LpAt.setRes {w W : World} {n₀ b : Nat} {jv v : Value} {all : Bool} (h : LpAt T er w n₀ b jv all W) (hN : n₀ ≤ b) : ResAt w n₀ b v (W.setCell ⟨b + 1, 0, none⟩ v) :=
  ⟨by rw [size_setCell']; exact h.size, h.below.setCell (p := ⟨b + 1, 0, none⟩) (by show n₀ ≤ b + 1; omega) _, World.cell?_setCell_same _ _ _ h.res⟩
theorem ResAt.grow {w W W' : World} {n₀ b : Nat} {v : Value} (h : ResAt w n₀ b v W) (hb : Below (b + 6) W W') (hN : n₀ ≤ b) : ResAt w n₀ b v W' :=
  ⟨Nat.le_trans h.size hb.size, h.below.trans (hb.mono (by omega)), (hb.cell (p := ⟨b + 1, 0, none⟩) (by show b + 1 < b + 6; omega)).trans h.res⟩
theorem JudgeAt.far {W : World} {B g : Nat} {f : Bool} {k : Int} {v : Value} (h : JudgeAt W B f k) (h0 : g ≠ B) (h1 : g ≠ B + 1) : JudgeAt (W.setCell ⟨g, 0, none⟩ v) B f k :=
  ⟨(cell_set h0).trans h.c0, (cell_set h1).trans h.c1, (World.frozen?_setCell ..).trans h.f0, (World.frozen?_setCell ..).trans h.f1⟩
theorem JudgeAt.set {W : World} {B : Nat} {f f' : Bool} {k k' : Int} (h : JudgeAt W B f k) : JudgeAt ((W.setCell ⟨B, 0, none⟩ (.bool f')).setCell ⟨B + 1, 0, none⟩ (.int .i64 k')) B f' k' := by
  have a0 : (W.setCell ⟨B, 0, none⟩ (.bool f')).cell? ⟨B, 0, none⟩ = some (.bool f') := World.cell?_setCell_same _ _ _ h.c0
  exact ⟨(cell_set (by omega)).trans a0, World.cell?_setCell_same _ _ _ ((cell_set (by omega)).trans h.c1), (World.frozen?_setCell ..).trans ((World.frozen?_setCell ..).trans h.f0), (World.frozen?_setCell ..).trans ((World.frozen?_setCell ..).trans h.f1)⟩
theorem heap_set {W : World} {g h : Nat} {v : Value} (hne : g ≠ h) : (W.setCell ⟨g, 0, none⟩ v).heap[h]? = W.heap[h]? := Below.heap_setCell _ _ _ h (fun e => hne e.symm)

theorem res26v (tmps : Array Value) (W : World) (b : Nat) (v : Value) (h : W.cell? ⟨b, 0, none⟩ = some v) (h2 : tmps.getD 4 undef = .pointer (some ⟨b, 0, none⟩)) : (results Tryd.f26 tmps).run Tryd.prog W = .ok v W := by
  have h2' : tmps[4]?.getD undef = .pointer (some ⟨b, 0, none⟩) := by simpa using h2
  have hl : (loadVar 29 ⟨b, 0, none⟩).run Tryd.prog W = .ok v W := by go_simp
  simp [results, Tryd.results26, h2', asAddr, hl]
theorem leave26v {R : Ending → World → Prop} {a : Act} {w : World} (D b : Nat) (v : Value) (hd : a.defers = [{ target := .collected D, args := #[] }]) (hp : a.tmps.getD 4 undef = .pointer (some ⟨b, 0, none⟩)) (hK : w.heap[D]? = some (.deferred (some [])))
    (hc : (w.putObj D (.deferred none)).cell? ⟨b, 0, none⟩ = some v) (hR : R (.returned v) (w.putObj D (.deferred none))) : bodyPostM Fence.wide 10 Tryd.prog Tryd.f26 R .ret a w := by
  show LeavesInM Fence.wide 10 Tryd.prog Tryd.f26 a.tmps R a.defers .returning w
  rw [hd]
  exact ⟨by simp, .inl ⟨_, _, rfl, run_takeDeferred hK, _, res26v _ _ b v hc hp, hR⟩⟩
theorem leave26n {R : Ending → World → Prop} {a : Act} {w : World} (b : Nat) (v : Value) (hd : a.defers = []) (hp : a.tmps.getD 4 undef = .pointer (some ⟨b, 0, none⟩)) (hc : w.cell? ⟨b, 0, none⟩ = some v) (hR : R (.returned v) w) : bodyPostM Fence.wide 10 Tryd.prog Tryd.f26 R .ret a w := by
  show LeavesInM Fence.wide 10 Tryd.prog Tryd.f26 a.tmps R a.defers .returning w
  rw [hd]
  exact ⟨_, res26v _ _ b v hc hp, hR⟩

/-- A judge of a map's items. -/
abbrev mjv (B : Nat) : Value := .func (.func 49) #[] #[.pointer (some ⟨B, 0, none⟩), .pointer (some ⟨B + 1, 0, none⟩)]
/-- The invariant of the loop over a map's items. -/
structure MapInv (T : TypeId) (er : Nat → Addr) (w : World) (n₀ b B : Nat) (PP : List (List UInt8)) (pre : List Nat) (W : World) : Prop where
  ex : ∃ l, kvsR none (atL PP pre) = some l ∧ LpAt T er w n₀ b (mjv B) (l.all inKv) W ∧ JudgeAt W B l.isEmpty (lastK l)
theorem prev_none (l : List (Int × Int)) : (if l = [] then none else prevK l) = prevK l := by
  split
  · rename_i h; subst h; rfl
  · rfl
theorem kvsR_snoc {a : List (List UInt8)} {l : List (Int × Int)} (h : kvsR none a = some l) (it : List UInt8) : kvsR none (a ++ [it]) = (kvsR (prevK l) [it]).map (l ++ ·) := by
  rw [kvsR_app, h]
  simp only
  rw [prev_none]
theorem kvsR_cut {a : List (List UInt8)} (h : kvsR none a = none) (b : List (List UInt8)) : kvsR none (a ++ b) = none := by
  rw [kvsR_app, h]

set_option maxRecDepth 100000 in
set_option maxHeartbeats 8000000 in
theorem judgeItems_map (s : List UInt8) (hs : s = [] ∨ ∃ r, s = 32 :: r) (hlen : s.length ≤ 1000000000) (B n₀ : Nat) (w : World) (hJ : JudgeAt w B true 0) (hn₀ : n₀ ≤ B) (h15 : 15 ≤ n₀) (hG : Glob T er w) :
    Calls Tryd.prog 26 #[tv s, mjv B] w fun e w' => e = .returned (itemsV T er (kvsR none (itemsOf s)) (·.all inKv)) ∧ Hid (Below n₀ w w') := by
  have HG := Lib.hid hG
  have HJ := Lib.hid hJ
  have hBl : B + 1 < w.heap.size := World.block_lt_of_cell? w _ hJ.c1
  refine callsIn_wide.1 (callsIn_of_wp_marks (F := Fence.wide) (n := 10) Tryd.func26 rfl trivial (wpIn_wide.2 ?_) rfl)
  simp only [Tryd.ntmps26, List.size_toArray, List.length_cons, List.length_nil, Nat.reduceAdd, Nat.reduceSub, Array.replicate_succ, Array.replicate_zero, List.push_toArray, List.append_toArray, List.nil_append, List.cons_append]
  rcases hs with rfl | ⟨it, rfl⟩
  · have e1 : itemsV T er (kvsR none (itemsOf [])) (·.all inKv) = .nilIface := rfl
    rw [e1]
    clear hG hJ hlen e1
    obtain ⟨L, hL⟩ : ∃ L : List UInt8, L = [] := ⟨_, rfl⟩
    have hLe : L.isEmpty = true := by rw [hL]; rfl
    rw [← hL]
    clear hL
    go_wp2
    have h2 : Below w.heap.size w ((w.alloc (.cells #[mjv B] 66)).alloc (.cells #[.nilIface] 29)) := ((Below.refl _ _).alloc (Nat.le_refl _) _).alloc (by simp) _
    have hc : ((w.alloc (.cells #[mjv B] 66)).alloc (.cells #[.nilIface] 29)).cell? ⟨w.heap.size + 1, 0, none⟩ = some .nilIface := by
      have := (Boxed.new (w.alloc (.cells #[mjv B] 66)) 29 .nilIface).cell
      rwa [World.size_alloc] at this
    exact leave26n (w.heap.size + 1) .nilIface rfl rfl hc ⟨rfl, h2.mono (by omega)⟩
  obtain ⟨R, hR⟩ : ∃ R, R = itemsV T er (kvsR none (itemsOf (32 :: it))) (·.all inKv) := ⟨_, rfl⟩
  rw [← hR]
  have hits : itemsOf (32 :: it) = cutsL it := by unfold itemsOf; rw [if_neg (by simp)]; rfl
  rw [hits] at hR
  have HR := Lib.hid hR
  have hcut : ∀ w, (Instr.slice 9 (tv (32 :: it)) (some (.int .i64 1)) none none).run Tryd.prog w = .ok (tv it) w := str_from (32 :: it) 1 (by simp)
  have hilen : it.length ≤ 1000000000 := by simp at hlen; omega
  obtain ⟨L, hL⟩ : ∃ L, L = 32 :: it := ⟨_, rfl⟩
  have hLe : L.isEmpty = false := by rw [hL]; rfl
  rw [← hL] at hcut ⊢
  clear hJ hG hL hlen hR hits
  go_wp2_with (first | (go_at_call 48; refine (splitSeq_any it _).mono ?_; rintro e w6 ⟨rfl, hw6⟩))
  obtain ⟨b, hb⟩ : ∃ b, b = w.heap.size := ⟨_, rfl⟩
  have hw6' : ([.cells #[mjv B] 66, .cells #[.nilIface] 29, .cells #[.bool true] 4, .cells #[tv it] 9, .cells #[.string ⟨#[32]⟩] 9, .cells #[.int .i64 0] 3] : List Obj).foldl World.alloc w = w6 := hw6
  have hs6 : w6.heap.size = b + 6 := by rw [← hw6', allocs_size, hb]; rfl
  have hB6 : Below b w w6 := by rw [← hw6', hb]; exact allocs_below _ w _ (Nat.le_refl _)
  have hat : ∀ i o, ([.cells #[mjv B] 66, .cells #[.nilIface] 29, .cells #[.bool true] 4, .cells #[tv it] 9, .cells #[.string ⟨#[32]⟩] 9, .cells #[.int .i64 0] 3] : List Obj)[i]? = some o → w6.heap[b + i]? = some o := fun i o h => by rw [← hw6', hb]; exact allocs_at _ w i o h
  have k0 := (cell_of (hat 0 _ rfl)).1
  have k1 := cell_of (hat 1 _ rfl)
  have k2 := cell_of (hat 2 _ rfl)
  have hspl : SplAt w6 (b + 3) it := ⟨hat 3 _ rfl, hat 4 _ rfl, hat 5 _ rfl⟩
  have hGb : Glob T er w6 := HG.out.below hB6 (by rw [hb]; exact HG.out.size)
  have hJ6 : JudgeAt w6 B true 0 := HJ.out.below (by rw [← hb]; exact hB6)
  have hN : n₀ ≤ b ∧ 15 ≤ n₀ := ⟨by omega, h15⟩
  have hBb : B + 1 < b := by omega
  have h0 : MapInv T er w n₀ b B (cutsL it) [] w6 := ⟨[], rfl, ⟨by omega, hB6.mono hN.1, hGb, k0, k1.1, k1.2, k2.1, k2.2⟩, hJ6⟩
  have hseq := split_seq (10 - 1) (by decide) (b + 3) it hilen w6 hspl (by omega)
  have hpl : ∀ x, ((cutsL it)[x]?.getD []).length ≤ 1000000000 := fun x => by
    by_cases hx : x < (cutsL it).length
    · rw [List.getElem?_eq_getElem hx]
      have := cuts_len it _ (List.getElem_mem hx)
      simp; omega
    · rw [List.getElem?_eq_none (by omega)]; simp
  generalize cutsL it = PP at *
  have hown : OwnFrom w6.heap.size (fun (pre : List Nat) W => MapInv T er w n₀ b B PP pre W) := own_of_below (n := b + 6) (by omega) (fun _ _ h => by obtain ⟨_, _, h, _⟩ := h.ex; exact h.size) (fun _ _ _ h hb => by
    obtain ⟨l, h1, h2, h3⟩ := h.ex
    exact ⟨l, h1, h2.grow (hb.mono (by omega)) hb.size hN, h3.belowN hb (by omega)⟩)
  have hownx : ∀ c : Code, OwnFrom w6.heap.size (fun (pre : List Nat) W => c = .ret ∧ kvsR none (atL PP pre) = none ∧ ResAt w n₀ b (errE T er 1) W) := fun c => own_of_below (n := b + 6) (by omega) (fun _ _ h => h.2.2.size) (fun _ _ _ h hb => ⟨h.1, h.2.1, h.2.2.grow hb hN.1⟩)
  have H0 := Lib.hid h0
  have Hpl := Lib.hid hpl
  clear hw6 hw6' hat k0 k1 k2 hGb hJ6 h0 hB6 hpl hspl
  subst hb
  refine (wpIn_wide (n := 10)).1 ?_
  apply rangeFunc_c (F := Fence.wide) (n := 10) rfl (by decide) (gf := 69) (lb := #[.pointer (some ⟨w.heap.size + 3 + 1, 0, none⟩), .pointer (some ⟨w.heap.size + 3, 0, none⟩), .pointer (some ⟨w.heap.size + 3 + 2, 0, none⟩)]) rfl trivial (enters_of Tryd.func69 (by kernel_rfl) rfl)
    hseq (fun _ _ h => by obtain ⟨v, rfl⟩ := h; exact KeepsOthers.setCell _ _ _) (fun h k g h1 h2 => (k g h1 h2).trans (h g h1 h2)) (fun W o _ g h1 h2 => World.putObj_heap_other (by omega)) (Below.refl _ _) (fun _ => rfl)
    (fun pre W => MapInv T er w n₀ w.heap.size B PP pre W) (fun c pre W => c = .ret ∧ kvsR none (atL PP pre) = none ∧ ResAt w n₀ w.heap.size (errE T er 1) W) hown
    (fun _ _ _ h ht => by
      obtain ⟨v, rfl⟩ := ht
      obtain ⟨l, h1, h2, h3⟩ := h.ex
      exact ⟨l, h1, h2.far (by omega) h15 (by omega) (by omega) (by omega), h3.far (by omega) (by omega)⟩) hownx H0.out
  case hassign =>
    intro l x W K hK
    gi_wp2
    exact hK
  case hbody =>
    rintro l pre x W hI hlt
    obtain ⟨L0, hk, hlp, hjd⟩ := hI.ex
    have hsn := kvsR_snoc hk (PP[x]?.getD [])
    have hjF := kvsR_one (PP[x]?.getD []) L0
    have hgot := fun m => kvsR_got (it := PP[x]?.getD []) (l := L0) (m := m)
    have hat := atL_snoc PP pre x
    have Hj := Lib.hid (judge_all (T := T) (er := er) (PP[x]?.getD []) (Hpl.out x) L0.isEmpty (lastK L0) B W hjd hlp.glob)
    rw [← hat] at hsn
    generalize PP[x]?.getD [] = pc at *
    have cj := hlp.judge
    have Hlp := Lib.hid hlp
    have Hjd := Lib.hid hjd
    cases hfm : jF L0.isEmpty (lastK L0) pc with
    | false =>
      rw [hfm] at hjF Hj
      have hnone : kvsR none (atL PP (pre ++ [x])) = none := by
        rw [hsn]
        cases h : kvsR (prevK L0) [pc] with
        | none => rfl
        | some m => rw [h] at hjF; cases hjF
      have Hnone := Lib.hid hnone
      clear hsn hjF hgot hat hk hlp hjd hnone hfm hI
      gi_wp2_with (first | (refine ⟨trivial, ?_⟩; gi_at_call 49; refine (callsIn_wide.2 Hj.out).mono ?_; rintro e w7 ⟨rfl, h7⟩; obtain ⟨w2, hb2, rfl⟩ := h7.out; have HM : Hid (LpAt T er w n₀ w.heap.size (mjv B) (L0.all inKv) ((w2.setCell ⟨B, 0, none⟩ (.bool false)).setCell ⟨B + 1, 0, none⟩ (.int .i64 (jK pc)))) := ((Hlp.out.grow (hb2.mono (by have := Hlp.out.size; omega)) hb2.size hN).far hn₀ h15 (by omega) (by omega) (by omega)).far (by omega) h15 (by omega) (by omega) (by omega); have ew := HM.out.glob.eWord; have er0 := HM.out.res; have erf := HM.out.resf))
      exact ⟨((keeps_below hb2).trans (KeepsOthers.setCell _ _ _)).trans ((KeepsOthers.setCell _ _ _).trans (KeepsOthers.setCell _ _ _)), rfl, Hnone.out, HM.out.setRes hN.1⟩
    | true =>
      rw [hfm] at hjF Hj
      obtain ⟨m, hm⟩ : ∃ m, kvsR (prevK L0) [pc] = some m := Option.isSome_iff_exists.1 hjF
      obtain ⟨p, rfl, hp1, hp2⟩ := hgot m hm
      have hnew : kvsR none (atL PP (pre ++ [x])) = some (L0 ++ [p]) := by rw [hsn, hm]; rfl
      have hall : (L0 ++ [p]).all inKv = (L0.all inKv && jW pc) := by rw [List.all_append]; simp [hp2]
      have hem : (L0 ++ [p]).isEmpty = false := by simp
      have hlk : lastK (L0 ++ [p]) = jK pc := by rw [lastK_snoc, hp1]
      have Hnew := Lib.hid hnew
      have Hfin : Hid (∀ W', LpAt T er w n₀ w.heap.size (mjv B) (L0.all inKv && jW pc) W' → JudgeAt W' B false (jK pc) → MapInv T er w n₀ w.heap.size B PP (pre ++ [x]) W') := fun W' a b => ⟨_, Hnew.out, by rw [hall]; exact a, by rw [hem, hlk]; exact b⟩
      clear hsn hjF hgot hat hk hlp hjd hnew hfm hI hall hem hlk hp1 hp2 hm Hnew
      generalize L0.all inKv = al at *
      generalize jW pc = wi at *
      generalize jK pc = kk at *
      have hKp : Hid (∀ (A : World) (v : Value), Below W.heap.size W A → ∀ g, w.heap.size + 3 ≤ g → g ≤ w.heap.size + 3 + 2 → (((A.setCell ⟨B, 0, none⟩ (.bool false)).setCell ⟨B + 1, 0, none⟩ (.int .i64 kk)).setCell ⟨w.heap.size + 1 + 1, 0, none⟩ v).heap[g]? = W.heap[g]?) := fun A v h g h1 h2 => by
        have hsz := Hlp.out.size
        rw [heap_set (by omega), heap_set (by omega), heap_set (by omega)]
        exact h.block g (by omega)
      cases al <;> cases wi
      all_goals
        gi_wp2_with (first | (refine ⟨trivial, ?_⟩; gi_at_call 49; refine (callsIn_wide.2 Hj.out).mono ?_; rintro e w7 ⟨rfl, h7⟩; obtain ⟨w2, hb2, rfl⟩ := h7.out; have hM := (((Hlp.out.grow (hb2.mono (by have := Hlp.out.size; omega)) hb2.size hN).far (v := .bool false) hn₀ h15 (by omega) (by omega) (by omega)).far (g := B + 1) (v := .int .i64 kk) (by omega) h15 (by omega) (by omega) (by omega)); have HM := Lib.hid hM; have Hj2 := Lib.hid ((Hjd.out.below hb2).set (f' := false) (k' := kk)); have Hb2 := Lib.hid hb2; clear hb2 h7 hM Hj; have ca : ((w2.setCell ⟨B, 0, none⟩ (.bool false)).setCell ⟨B + 1, 0, none⟩ (.int .i64 kk)).cell? ⟨w.heap.size + 1 + 1, 0, none⟩ = _ := HM.out.all; have cf : ((w2.setCell ⟨B, 0, none⟩ (.bool false)).setCell ⟨B + 1, 0, none⟩ (.int .i64 kk)).frozen? ⟨w.heap.size + 1 + 1, 0, none⟩ = false := HM.out.allf))
        exact ⟨((keeps_below Hb2.out).trans (KeepsOthers.setCell _ _ _)).trans ((KeepsOthers.setCell _ _ _).trans (KeepsOthers.setCell _ _ _)), hKp.out _ _ Hb2.out, Hfin.out _ (HM.out.setAll hN) (Hj2.out.far (by omega) (by omega))⟩
  case hdone =>
    rintro D ys W hD rfl hI hK
    obtain ⟨L0, hk, hlp, hjd⟩ := hI.ex
    rw [atL_range PP _ (Nat.le_refl _), List.take_length] at hk
    have ca : W.cell? ⟨w.heap.size + 1 + 1, 0, none⟩ = some (.bool (L0.all inKv)) := hlp.all
    have hr := hlp.res
    have hrf := hlp.resf
    have e4 := hlp.glob.eNumber
    have Hlp := Lib.hid hlp
    have HK := Lib.hid hK
    have HD := Lib.hid hD
    have HRk : Hid (R = if L0.all inKv = true then .nilIface else errE T er 4) := by show _ = _; rw [HR.out, hk]; rfl
    have hX := fun v => hlp.setRes (v := v) hN.1
    have HX := Lib.hid hX
    clear hI hK hlp hjd hk hX
    generalize L0.all inKv = al at *
    have hput : Hid (∀ v, Below (w.heap.size + 6) (W.setCell ⟨w.heap.size + 1, 0, none⟩ v) ((W.setCell ⟨w.heap.size + 1, 0, none⟩ v).putObj D (.deferred none))) := fun v => by
      have hkk := (KeepsOthers.setCell W ⟨w.heap.size + 1, 0, none⟩ v).same D _ HK.out rfl
      exact belowK_b (n₀ := w.heap.size + 6) (w := w6) (by omega) _ D _ (.deferred none) HD.out hkk rfl rfl
    cases al
    · have HR2 : Hid (R = errE T er 4) := HRk
      clear HRk
      go_wp2
      have hkk := (KeepsOthers.setCell W ⟨w.heap.size + 1, 0, none⟩ (.iface T (.pointer (some (er 4))))).same D _ HK.out rfl
      exact leave26v D (w.heap.size + 1) _ rfl rfl hkk ((HX.out _).grow (hput.out _) hN.1).res ⟨by rw [HR2.out], ((HX.out _).grow (hput.out _) hN.1).below⟩
    · have HR2 : Hid (R = .nilIface) := HRk
      clear HRk
      go_wp2
      have hkk := (KeepsOthers.setCell W ⟨w.heap.size + 1, 0, none⟩ .nilIface).same D _ HK.out rfl
      exact leave26v D (w.heap.size + 1) _ rfl rfl hkk ((HX.out _).grow (hput.out _) hN.1).res ⟨by rw [HR2.out], ((HX.out _).grow (hput.out _) hN.1).below⟩
  case hstop =>
    rintro D c pre W hD ⟨k, hk, rfl⟩ ⟨rfl, hn, hres⟩ hK
    have HRn : R = errE T er 1 := by
      have h := kvsR_cut hn (PP.drop (k + 1))
      rw [atL_range PP _ (by omega), List.take_append_drop] at h
      rw [HR.out, h]; rfl
    gi_wp2
    have hput := belowK_b (n₀ := w.heap.size + 6) (w := w6) (by omega) W D _ (.deferred none) hD hK rfl rfl
    exact leave26v D (w.heap.size + 1) _ rfl rfl hK (hres.grow hput hN.1).res ⟨by rw [HRn], (hres.grow hput hN.1).below⟩
end Go.Proofs.YtgnpcbpbmalgiaaDoor
