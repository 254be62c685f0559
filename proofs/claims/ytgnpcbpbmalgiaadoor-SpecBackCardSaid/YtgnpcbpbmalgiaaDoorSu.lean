/- judgeItems, by contracts: a queue's items. -/
import Derived.Test.YtgnpcbpbmalgiaaDoorSs
namespace Go.Proofs.YtgnpcbpbmalgiaaDoor
open Go.RowKit Go.Maps Go.WideMaps Go.WideElems Go.ChangeShapes Go.WideShapes
attribute [local go_sem] Oper.semAt_some

variable {T : TypeId} {er : Nat → Addr}

/-- The judge of a queue's items. -/
abbrev qjv : Value := .func (.func 27) #[] #[]
abbrev nearV (v : Int) : Bool := nearB v 1000000000
/-- The invariant of the loop over a queue's items. -/
structure QueInv (T : TypeId) (er : Nat → Addr) (w : World) (n₀ b : Nat) (PP : List (List UInt8)) (pre : List Nat) (W : World) : Prop where
  ex : ∃ l, valsR (atL PP pre) = some l ∧ LpAt T er w n₀ b qjv (l.all nearV) W
theorem valsR_snoc {a : List (List UInt8)} {l : List Int} (h : valsR a = some l) (it : List UInt8) : valsR (a ++ [it]) = (prn it).map (fun v => l ++ [v]) := by
  rw [valsR_app, h, valsR_one]
  cases prn it <;> rfl
theorem valsR_cut {a : List (List UInt8)} (h : valsR a = none) (b : List (List UInt8)) : valsR (a ++ b) = none := by
  rw [valsR_app, h]

set_option maxRecDepth 100000 in
set_option maxHeartbeats 8000000 in
theorem judgeItems_queue (s : List UInt8) (hs : s = [] ∨ ∃ r, s = 32 :: r) (hlen : s.length ≤ 1000000000) (n₀ : Nat) (w : World) (hn₀ : n₀ ≤ w.heap.size) (h15 : 15 ≤ n₀) (hG : Glob T er w) :
    Calls Tryd.prog 26 #[tv s, qjv] w fun e w' => e = .returned (itemsV T er (valsR (itemsOf s)) (·.all nearV)) ∧ Hid (Below n₀ w w') := by
  have HG := Lib.hid hG
  refine callsIn_wide.1 (callsIn_of_wp_marks (F := Fence.wide) (n := 10) Tryd.func26 rfl trivial (wpIn_wide.2 ?_) rfl)
  simp only [Tryd.ntmps26, List.size_toArray, List.length_cons, List.length_nil, Nat.reduceAdd, Nat.reduceSub, Array.replicate_succ, Array.replicate_zero, List.push_toArray, List.append_toArray, List.nil_append, List.cons_append]
  rcases hs with rfl | ⟨it, rfl⟩
  · have e1 : itemsV T er (valsR (itemsOf [])) (·.all nearV) = .nilIface := rfl
    rw [e1]
    clear hG hlen e1
    obtain ⟨L, hL⟩ : ∃ L : List UInt8, L = [] := ⟨_, rfl⟩
    have hLe : L.isEmpty = true := by rw [hL]; rfl
    rw [← hL]
    clear hL
    go_wp2
    have h2 : Below w.heap.size w ((w.alloc (.cells #[qjv] 66)).alloc (.cells #[.nilIface] 29)) := ((Below.refl _ _).alloc (Nat.le_refl _) _).alloc (by simp) _
    have hc : ((w.alloc (.cells #[qjv] 66)).alloc (.cells #[.nilIface] 29)).cell? ⟨w.heap.size + 1, 0, none⟩ = some .nilIface := by
      have := (Boxed.new (w.alloc (.cells #[qjv] 66)) 29 .nilIface).cell
      rwa [World.size_alloc] at this
    exact leave26n (w.heap.size + 1) .nilIface rfl rfl hc ⟨rfl, h2.mono (by omega)⟩
  obtain ⟨R, hR⟩ : ∃ R, R = itemsV T er (valsR (itemsOf (32 :: it))) (·.all nearV) := ⟨_, rfl⟩
  rw [← hR]
  have hits : itemsOf (32 :: it) = cutsL it := by unfold itemsOf; rw [if_neg (by simp)]; rfl
  rw [hits] at hR
  have HR := Lib.hid hR
  have hcut : ∀ w, (Instr.slice 9 (tv (32 :: it)) (some (.int .i64 1)) none none).run Tryd.prog w = .ok (tv it) w := str_from (32 :: it) 1 (by simp)
  have hilen : it.length ≤ 1000000000 := by simp at hlen; omega
  obtain ⟨L, hL⟩ : ∃ L, L = 32 :: it := ⟨_, rfl⟩
  have hLe : L.isEmpty = false := by rw [hL]; rfl
  rw [← hL] at hcut ⊢
  clear hG hL hlen hR hits
  go_wp2_with (first | (go_at_call 48; refine (splitSeq_any it _).mono ?_; rintro e w6 ⟨rfl, hw6⟩))
  obtain ⟨b, hb⟩ : ∃ b, b = w.heap.size := ⟨_, rfl⟩
  have hw6' : ([.cells #[qjv] 66, .cells #[.nilIface] 29, .cells #[.bool true] 4, .cells #[tv it] 9, .cells #[.string ⟨#[32]⟩] 9, .cells #[.int .i64 0] 3] : List Obj).foldl World.alloc w = w6 := hw6
  have hs6 : w6.heap.size = b + 6 := by rw [← hw6', allocs_size, hb]; rfl
  have hB6 : Below b w w6 := by rw [← hw6', hb]; exact allocs_below _ w _ (Nat.le_refl _)
  have hat : ∀ i o, ([.cells #[qjv] 66, .cells #[.nilIface] 29, .cells #[.bool true] 4, .cells #[tv it] 9, .cells #[.string ⟨#[32]⟩] 9, .cells #[.int .i64 0] 3] : List Obj)[i]? = some o → w6.heap[b + i]? = some o := fun i o h => by rw [← hw6', hb]; exact allocs_at _ w i o h
  have k0 := (cell_of (hat 0 _ rfl)).1
  have k1 := cell_of (hat 1 _ rfl)
  have k2 := cell_of (hat 2 _ rfl)
  have hspl : SplAt w6 (b + 3) it := ⟨hat 3 _ rfl, hat 4 _ rfl, hat 5 _ rfl⟩
  have hGb : Glob T er w6 := HG.out.below hB6 (by rw [hb]; exact HG.out.size)
  have hN : n₀ ≤ b ∧ 15 ≤ n₀ := ⟨by omega, h15⟩
  have h0 : QueInv T er w n₀ b (cutsL it) [] w6 := ⟨[], rfl, ⟨by omega, hB6.mono hN.1, hGb, k0, k1.1, k1.2, k2.1, k2.2⟩⟩
  have hseq := split_seq (10 - 1) (by decide) (b + 3) it hilen w6 hspl (by omega)
  have hpl : ∀ x, ((cutsL it)[x]?.getD []).length ≤ 1000000000 := fun x => by
    by_cases hx : x < (cutsL it).length
    · rw [List.getElem?_eq_getElem hx]
      have := cuts_len it _ (List.getElem_mem hx)
      simp; omega
    · rw [List.getElem?_eq_none (by omega)]; simp
  generalize cutsL it = PP at *
  have hown : OwnFrom w6.heap.size (fun (pre : List Nat) W => QueInv T er w n₀ b PP pre W) := own_of_below (n := b + 6) (by omega) (fun _ _ h => by obtain ⟨_, _, h⟩ := h.ex; exact h.size) (fun _ _ _ h hb => by
    obtain ⟨l, h1, h2⟩ := h.ex
    exact ⟨l, h1, h2.grow (hb.mono (by omega)) hb.size hN⟩)
  have hownx : ∀ c : Code, OwnFrom w6.heap.size (fun (pre : List Nat) W => c = .ret ∧ valsR (atL PP pre) = none ∧ ResAt w n₀ b (errE T er 1) W) := fun c => own_of_below (n := b + 6) (by omega) (fun _ _ h => h.2.2.size) (fun _ _ _ h hb => ⟨h.1, h.2.1, h.2.2.grow hb hN.1⟩)
  have H0 := Lib.hid h0
  have Hpl := Lib.hid hpl
  clear hw6 hw6' hat k0 k1 k2 hGb h0 hB6 hpl hspl
  subst hb
  refine (wpIn_wide (n := 10)).1 ?_
  apply rangeFunc_c (F := Fence.wide) (n := 10) rfl (by decide) (gf := 69) (lb := #[.pointer (some ⟨w.heap.size + 3 + 1, 0, none⟩), .pointer (some ⟨w.heap.size + 3, 0, none⟩), .pointer (some ⟨w.heap.size + 3 + 2, 0, none⟩)]) rfl trivial (enters_of Tryd.func69 (by kernel_rfl) rfl)
    hseq (fun _ _ h => by obtain ⟨v, rfl⟩ := h; exact KeepsOthers.setCell _ _ _) (fun h k g h1 h2 => (k g h1 h2).trans (h g h1 h2)) (fun W o _ g h1 h2 => World.putObj_heap_other (by omega)) (Below.refl _ _) (fun _ => rfl)
    (fun pre W => QueInv T er w n₀ w.heap.size PP pre W) (fun c pre W => c = .ret ∧ valsR (atL PP pre) = none ∧ ResAt w n₀ w.heap.size (errE T er 1) W) hown
    (fun _ _ _ h ht => by
      obtain ⟨v, rfl⟩ := ht
      obtain ⟨l, h1, h2⟩ := h.ex
      exact ⟨l, h1, h2.far (by omega) h15 (by omega) (by omega) (by omega)⟩) hownx H0.out
  case hassign =>
    intro l x W K hK
    gi_wp2
    exact hK
  case hbody =>
    rintro l pre x W hI hlt
    obtain ⟨L0, hk, hlp⟩ := hI.ex
    have hsn := valsR_snoc hk (PP[x]?.getD [])
    have hat := atL_snoc PP pre x
    have Hj := Lib.hid (value_all (T := T) (er := er) (PP[x]?.getD []) (Hpl.out x) W hlp.glob)
    rw [← hat] at hsn
    generalize PP[x]?.getD [] = pc at *
    have cj := hlp.judge
    have Hlp := Lib.hid hlp
    cases hfm : prn pc with
    | none =>
      rw [hfm] at hsn Hj
      have hnone : valsR (atL PP (pre ++ [x])) = none := hsn
      have Hnone := Lib.hid hnone
      clear hsn hat hk hlp hnone hfm hI
      generalize nearB (atoiV pc) 1000000000 = wi at *
      gi_wp2_with (first | (refine ⟨trivial, ?_⟩; gi_at_call 27; refine (callsIn_wide.2 Hj.out).mono ?_; rintro e w2 ⟨rfl, h2⟩; have hb2 := h2.out; have HM := Lib.hid (Hlp.out.grow (hb2.mono (by have := Hlp.out.size; omega)) hb2.size hN); have ew := HM.out.glob.eWord; have er0 := HM.out.res; have erf := HM.out.resf))
      exact ⟨(keeps_below hb2).trans (KeepsOthers.setCell _ _ _), rfl, Hnone.out, HM.out.setRes hN.1⟩
    | some v =>
      rw [hfm] at hsn Hj
      have hnew : valsR (atL PP (pre ++ [x])) = some (L0 ++ [v]) := hsn
      have hav := prn_atoiV hfm
      rw [hav] at Hj
      have hall : (L0 ++ [v]).all nearV = (L0.all nearV && nearB v 1000000000) := by rw [List.all_append]; simp
      have Hnew := Lib.hid hnew
      have Hfin : Hid (∀ W', LpAt T er w n₀ w.heap.size qjv (L0.all nearV && nearB v 1000000000) W' → QueInv T er w n₀ w.heap.size PP (pre ++ [x]) W') := fun W' a => ⟨_, Hnew.out, by rw [hall]; exact a⟩
      clear hsn hat hk hlp hnew hfm hI hall Hnew hav
      generalize L0.all nearV = al at *
      generalize nearB v 1000000000 = wi at *
      have hKp : Hid (∀ (A : World) (v : Value), Below W.heap.size W A → ∀ g, w.heap.size + 3 ≤ g → g ≤ w.heap.size + 3 + 2 → (A.setCell ⟨w.heap.size + 1 + 1, 0, none⟩ v).heap[g]? = W.heap[g]?) := fun A v h g h1 h2 => by
        have hsz := Hlp.out.size
        rw [heap_set (by omega)]
        exact h.block g (by omega)
      cases al <;> cases wi
      all_goals
        gi_wp2_with (first | (refine ⟨trivial, ?_⟩; gi_at_call 27; refine (callsIn_wide.2 Hj.out).mono ?_; rintro e w2 ⟨rfl, h2⟩; have hb2 := h2.out; have HM := Lib.hid (Hlp.out.grow (hb2.mono (by have := Hlp.out.size; omega)) hb2.size hN); have Hb2 := Lib.hid hb2; clear hb2 h2 Hj; have ca : w2.cell? ⟨w.heap.size + 1 + 1, 0, none⟩ = _ := HM.out.all; have cf : w2.frozen? ⟨w.heap.size + 1 + 1, 0, none⟩ = false := HM.out.allf))
        exact ⟨(keeps_below Hb2.out).trans (KeepsOthers.setCell _ _ _), hKp.out _ _ Hb2.out, Hfin.out _ (HM.out.setAll hN)⟩
  case hdone =>
    rintro D ys W hD rfl hI hK
    obtain ⟨L0, hk, hlp⟩ := hI.ex
    rw [atL_range PP _ (Nat.le_refl _), List.take_length] at hk
    have ca : W.cell? ⟨w.heap.size + 1 + 1, 0, none⟩ = some (.bool (L0.all nearV)) := hlp.all
    have hr := hlp.res
    have hrf := hlp.resf
    have e4 := hlp.glob.eNumber
    have Hlp := Lib.hid hlp
    have HK := Lib.hid hK
    have HD := Lib.hid hD
    have HRk : Hid (R = if L0.all nearV = true then .nilIface else errE T er 4) := by show _ = _; rw [HR.out, hk]; rfl
    have hX := fun v => hlp.setRes (v := v) hN.1
    have HX := Lib.hid hX
    clear hI hK hlp hk hX
    generalize L0.all nearV = al at *
    have hput : Hid (∀ v, Below (w.heap.size + 6) (W.setCell ⟨w.heap.size + 1, 0, none⟩ v) ((W.setCell ⟨w.heap.size + 1, 0, none⟩ v).putObj D (.deferred none))) := fun v => by
      have hkk := (KeepsOthers.setCell W ⟨w.heap.size + 1, 0, none⟩ v).same D _ HK.out rfl
      exact belowK_b (n₀ := w.heap.size + 6) (w := w6) (by omega) _ D _ (.deferred none) HD.out hkk rfl rfl
    cases al
    · have HR2 : Hid (R = errE T er 4) := HRk
      clear HRk
      go_wp2
      have hkk := (KeepsOthers.setCell W ⟨w.heap.size + 1, 0, none⟩ (.iface T (.pointer (some (er 4))))).same D _ HK.out rfl
      exact leave26v D (w.heap.size + 1) _ rfl rfl hkk ((HX.out _).grow (hput.out _) hN.1).res ⟨by rw [HR2.out], ((HX.out _).grow (hput.out _) hN.1).below⟩
    · have HR2 : Hid (R = .nilIface) := HRk
      clear HRk
      go_wp2
      have hkk := (KeepsOthers.setCell W ⟨w.heap.size + 1, 0, none⟩ .nilIface).same D _ HK.out rfl
      exact leave26v D (w.heap.size + 1) _ rfl rfl hkk ((HX.out _).grow (hput.out _) hN.1).res ⟨by rw [HR2.out], ((HX.out _).grow (hput.out _) hN.1).below⟩
  case hstop =>
    rintro D c pre W hD ⟨k, hk, rfl⟩ ⟨rfl, hn, hres⟩ hK
    have HRn : R = errE T er 1 := by
      have h := valsR_cut hn (PP.drop (k + 1))
      rw [atL_range PP _ (by omega), List.take_append_drop] at h
      rw [HR.out, h]; rfl
    gi_wp2
    have hput := belowK_b (n₀ := w.heap.size + 6) (w := w6) (by omega) W D _ (.deferred none) hD hK rfl rfl
    exact leave26v D (w.heap.size + 1) _ rfl rfl hK (hres.grow hput hN.1).res ⟨by rw [HRn], (hres.grow hput hN.1).below⟩
end Go.Proofs.YtgnpcbpbmalgiaaDoor
