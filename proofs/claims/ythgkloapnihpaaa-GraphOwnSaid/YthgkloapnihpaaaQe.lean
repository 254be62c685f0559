/- The document's Topo: a contract. -/
import Derived.Test.YthgkloapnihpaaaQd
namespace Go.Proofs.Ythgkloapnihpaaa
open Go.RowKit Go.Maps Go.WideMaps Go.WideElems Go.ChangeShapes Go.WideShapes

/-- Does no edge so far hold a node back? -/
def frB (E : List Ed) (O : List Int) (x : Int) (k : Nat) : Bool := (E.take k).all fun e => !(e.2.1 == x) || decide (e.1 ∈ O)
theorem frB_next {E : List Ed} {O : List Int} {x : Int} {k : Nat} (h : k < E.length) {a b c : Int} (he : E.getD k e0 = (a, b, c)) : frB E O x (k + 1) = (frB E O x k && (!(b == x) || decide (a ∈ O))) := by
  unfold frB
  rw [takeE_next h, List.all_append, he]
  simp
theorem frB_all {E : List Ed} {O : List Int} {x : Int} {m : Nat} (hm : E.length = m) : frB E O x m = true ↔ ∀ a, EdR E a x → a ∈ O := by
  unfold frB
  rw [List.take_of_length_le (by omega), List.all_eq_true]
  constructor
  · rintro h a ⟨k, hk⟩
    have := h _ hk
    simpa using this
  · rintro h ⟨a, b, c⟩ he
    by_cases e : b = x
    · subst e
      have := h a ⟨c, he⟩
      simp [this]
    · simp [e]
theorem free_iff {N : List Int} {E : List Ed} {O : List Int} {x : Int} {m : Nat} (hE : EndsIn N E) (hx : x ∈ N) (hm : E.length = m) : (!decide (x ∈ O) && frB E O x m) = true ↔ x ∈ freeN N E O := by
  rw [mem_freeN, Bool.and_eq_true, frB_all hm, holdN_zero hE]
  simp [hx]
theorem filter_first {p : Int → Bool} : ∀ {l : List Int} {q : Nat}, q < l.length → (∀ j, j < q → p (l.getD j 0) = false) → p (l.getD q 0) = true → ∃ r, l.filter p = l.getD q 0 :: r
  | [], q, h, _, _ => by simp at h
  | a :: l, 0, _, _, h => by
    have h1 : p a = true := h
    exact ⟨l.filter p, by rw [List.filter_cons, h1]; rfl⟩
  | a :: l, q + 1, h, h2, h3 => by
    have h1 : p a = false := h2 0 (by omega)
    obtain ⟨r, hr⟩ := filter_first (p := p) (l := l) (q := q) (by simpa using h) (fun j hj => by simpa using h2 (j + 1) (by omega)) (by simpa using h3)
    exact ⟨r, by rw [List.filter_cons, h1]; simpa using hr⟩
theorem free_first {N : List Int} {E : List Ed} {O : List Int} {q : Nat} (hq : q < N.length) (h : ∀ j, j < q → N.getD j 0 ∉ freeN N E O) (hx : N.getD q 0 ∈ freeN N E O) : ∃ r, freeN N E O = N.getD q 0 :: r := by
  refine filter_first hq (fun j hj => ?_) ?_
  · have h1 := h j hj
    unfold freeN at h1
    rw [List.mem_filter] at h1
    cases hb : (decide (N.getD j 0 ∉ O) && holdN N E O (N.getD j 0) == 0) with
    | false => rfl
    | true => exact absurd ⟨getD_in (by omega), hb⟩ h1
  · unfold freeN at hx
    exact (List.mem_filter.1 hx).2
theorem free_none {N : List Int} {E : List Ed} {O : List Int} (h : ∀ j, j < N.length → N.getD j 0 ∉ freeN N E O) : freeN N E O = [] := by
  refine List.eq_nil_iff_forall_not_mem.2 fun x hx => ?_
  obtain ⟨j, hj, rfl⟩ := List.mem_iff_getElem.1 (mem_freeN.1 hx).1
  refine h j hj ?_
  rw [List.getD_eq_getElem?_getD, List.getElem?_eq_getElem hj]
  exact hx
/-- While the order is made. -/
structure TpA (N : List Int) (E : List Ed) (W1 : World) (v : Value) (O : List Int) (W : World) : Prop where
  row : IntsO W W1.heap.size v O
  ok : TopoOk N E O
  same : topoZ N E (N.length - O.length) O = topoZ N E N.length []
  gro : Below W1.heap.size W1 W
structure TpB (N : List Int) (E : List Ed) (O : List Int) (W1 : World) (v : Value) (fd : Bool) (O2 : List Int) (q : Nat) (W : World) : Prop where
  row : IntsO W W1.heap.size v O2
  gro : Below W1.heap.size W1 W
  no : fd = false → O2 = O ∧ ∀ j, j < q → N.getD j 0 ∉ freeN N E O
  yes : fd = true → ∃ a l, freeN N E O = a :: l ∧ O2 = O ++ [a]
set_option maxHeartbeats 32000000 in
set_option maxRecDepth 100000 in
theorem dtopo_any (a a' : Option Addr) (k k' n m : Nat) (N : List Int) (E : List Ed) (hE : EndsIn N E) (hn : N.length = n) (hm : E.length = m) (hn5 : n ≤ 500) (hm5 : m ≤ 500) (w : World) (h : SlI w a N) (h' : SlE w a' E) :
    Calls Try.prog 29 #[gval a n k a' m k'] w fun e w' => ∃ v O ok, e = .returned (.tuple #[v, .bool ok]) ∧ Hid (IntsO w' w.heap.size v O ∧ topoIs (topoZ N E N.length []) O ok ∧ Below w.heap.size w w') := by
  obtain ⟨W1, hW1, Hb1, hs1, Hx1⟩ := two_any w (.slice a n k) (.slice a' m k') 29
  have HN := Lib.hid (h.gro Hb1.out (Nat.le_refl _))
  have HE := Lib.hid (h'.gro Hb1.out (Nat.le_refl _))
  have Hn := Lib.hid hn
  have Hm := Lib.hid hm
  have Hends := Lib.hid hE
  have HBox : Hid (∀ W, Below W1.heap.size W1 W → W.cell? ⟨w.heap.size, 0, none⟩ = some (.slice a n k) ∧ W.cell? ⟨w.heap.size, 1, none⟩ = some (.slice a' m k')) := fun W hb => two_at ((hb.block _ hs1.out).trans Hx1.out)
  have H0 : Hid (TpA N E W1 (.slice none 0 0) [] W1) := ⟨intsO_nil _ _, TopoOk.zero N E, by simp, Below.refl _ _⟩
  clear h h' hn hm hE
  go_enter Try.func29, Try.ntmps29
  go_wp2
  try go_frame
  go_loopw [4, 5, 6, 7, 8, 9] (fun v4 _ _ _ _ _ wr => ∃ O, Hid (TpA N E W1 v4 O wr)) (fun v4 _ _ _ _ _ _ => n - lenOf v4)
  case atStart => exact ⟨[], H0.out⟩
  case round =>
    obtain ⟨O, HA⟩ := hrel
    obtain ⟨wa, hwa⟩ : ∃ wa, wa = wr := ⟨_, rfl⟩
    subst hwa
    obtain ⟨p4, c4, rfl, -⟩ := HA.out.row.sl
    obtain ⟨x0, x1⟩ := HBox.out wa HA.out.gro
    obtain ⟨ol, hol⟩ : ∃ ol, O.length = ol := ⟨_, rfl⟩
    have Hol := Lib.hid hol
    have hol5 : ol ≤ 500 := by
      have := len_le HA.out.ok.once HA.out.ok.sub
      have := Hn.out
      omega
    by_cases hlt : ol < n
    · have hltI : (ol : Int) < (n : Int) := by omega
      have HB0 : Hid (TpB N E O W1 (.slice p4 O.length c4) false O 0 wa) := ⟨HA.out.row, HA.out.gro, fun _ => ⟨rfl, fun j hj => absurd hj (by omega)⟩, fun e => by cases e⟩
      have Hlt := Lib.hid hlt
      rw [hol] at HB0 ⊢
      clear hol hlt
      go_wp2
      try go_frame
      go_loopw [4, 5, 6, 7, 8, 9] (fun v4 v5 v6 _ _ _ wr => ∃ (q : Nat) (fd : Bool) (O2 : List Int), q ≤ n ∧ v6 = .int .i64 ((q : Nat) : Int) ∧ v5 = .bool fd ∧ Hid (TpB N E O W1 v4 fd O2 q wr)) (fun _ _ v6 _ _ _ _ => n - (intOf v6).toNat)
      case atStart => exact ⟨0, false, O, Nat.zero_le _, rfl, rfl, HB0.out⟩
      case round =>
        obtain ⟨q, fd, O2, hq, rfl, rfl, HB⟩ := hrel
        obtain ⟨wb, hwb⟩ : ∃ wb, wb = wr := ⟨_, rfl⟩
        subst hwb
        obtain ⟨y0, y1⟩ := HBox.out wb HB.out.gro
        cases fd with
        | true =>
          obtain ⟨b, l, hf, rfl⟩ := HB.out.yes rfl
          have hbf : b ∈ freeN N E O := by rw [hf]; simp
          have HA9 : Hid (TpA N E W1 u4 (O ++ [b]) wb) := ⟨HB.out.row, HA.out.ok.next Hends.out hbf, by rw [← topo_next HA.out.ok hf]; exact HA.out.same, HB.out.gro⟩
          obtain ⟨p5, c5, rfl, -⟩ := HB.out.row.sl
          have Hl9 : Hid ((O ++ [b]).length = ol + 1) := by show _ = _; rw [List.length_append, List.length_singleton, Hol.out]
          clear hf hbf
          by_cases hqn : q < n
          · have hqI : (q : Int) < (n : Int) := by omega
            go_wp2
            go_roundw
            case rel => exact ⟨O ++ [b], HA9.out⟩
            case measure =>
              have h1 := Hol.out
              have h2 := Hlt.out
              simp [lenOf]
              omega
          · have hqI : ¬ (q : Int) < (n : Int) := by omega
            go_wp2
            go_roundw
            case rel => exact ⟨O ++ [b], HA9.out⟩
            case measure =>
              have h1 := Hol.out
              have h2 := Hlt.out
              simp [lenOf]
              omega
        | false =>
          obtain ⟨rfl, hno⟩ := HB.out.no rfl
          have Hno := Lib.hid hno
          clear hno
          by_cases hqn : q < n
          · have hqo : q < N.length := by rw [Hn.out]; exact hqn
            obtain ⟨b7, o7, rfl, c0⟩ := (HN.out.gro HB.out.gro (Nat.le_refl _)).at hqo
            have hxN := getD_in (d := 0) hqo
            have Hfst : Hid (N.getD q 0 ∈ freeN N E O2 → ∃ r, freeN N E O2 = N.getD q 0 :: r) := free_first hqo Hno.out
            have Hnxt : Hid (N.getD q 0 ∉ freeN N E O2 → ∀ j, j < q + 1 → N.getD j 0 ∉ freeN N E O2) := fun ht j hj => by
              rcases Nat.lt_succ_iff_lt_or_eq.1 hj with h1 | h1
              · exact Hno.out j h1
              · rw [h1]; exact ht
            obtain ⟨x, hx⟩ : ∃ x, N.getD q 0 = x := ⟨_, rfl⟩
            rw [hx] at c0 hxN Hfst Hnxt
            have Hfr := Lib.hid (free_iff (O := O2) Hends.out hxN Hm.out)
            obtain ⟨p5, c5, rfl, hs5⟩ := HB.out.row.sl
            have HI := Lib.hid (in_n p5 c5 ol x Hol.out (by omega) wb hs5)
            rw [Hol.out]
            obtain ⟨b1, hb1⟩ : ∃ b1, decide (x ∈ O2) = b1 := ⟨_, rfl⟩
            rw [hb1] at HI Hfr
            have hqI : (q : Int) < (n : Int) := by omega
            have hq0 : (0 : Int) ≤ (q : Int) := by omega
            have Hqn := Lib.hid hqn
            clear hqo hx hs5 hb1 hxN
            go_wp2_with (first
              | (go_at_call 55; (with_reducible refine HI.out.mono ?_); rintro e wq ⟨rfl, KI⟩)
              | go_in)
            have HB5 : Hid (IntsO wq W1.heap.size (.slice p5 ol c5) O2 ∧ Below W1.heap.size W1 wq) := by
              have h1 := HB.out.row.below KI.out
              rw [Hol.out] at h1
              exact ⟨h1, HB.out.gro.trans (KI.out.mono HB.out.gro.size)⟩
            try go_frame
            go_loopw [8, 9] (fun v8 v9 wr => ∃ kk : Nat, kk ≤ m ∧ v9 = .int .i64 ((kk : Nat) : Int) ∧ v8 = .bool (!b1 && frB E O2 x kk) ∧ Hid (Below wq.heap.size wq wr)) (fun _ v9 _ => m - (intOf v9).toNat)
            case atStart => exact ⟨0, Nat.zero_le _, rfl, by simp [frB], Below.refl _ _⟩
            case round =>
              obtain ⟨kk, hkk, rfl, rfl, HR⟩ := hrel
              obtain ⟨wc, hwc⟩ : ∃ wc, wc = wr := ⟨_, rfl⟩
              subst hwc
              have hb1c := HB5.out.2.trans (HR.out.mono HB5.out.2.size)
              obtain ⟨z0, z1⟩ := HBox.out wc hb1c
              have HRow : Hid (IntsO wc W1.heap.size (.slice p5 ol c5) O2 ∧ Below W1.heap.size W1 wc) := ⟨HB5.out.1.below HR.out, hb1c⟩
              by_cases hltk : kk < m
              · have hko : kk < E.length := by rw [Hm.out]; exact hltk
                obtain ⟨e, he⟩ : ∃ e, E.getD kk e0 = e := ⟨_, rfl⟩
                obtain ⟨f1, f2, f3⟩ := e
                have hbE := HE.out.gro hb1c (Nat.le_refl _)
                obtain ⟨be, oe, rfl, -⟩ := hbE.at hko
                obtain ⟨d0, d1, d2⟩ := hbE.cells hko he
                have HSn := Lib.hid (frB_next (O := O2) (x := x) hko he)
                have hkI : (kk : Int) < (m : Int) := by omega
                have hk0 : (0 : Int) ≤ (kk : Int) := by omega
                have Hltk := Lib.hid hltk
                obtain ⟨fb, hfb⟩ : ∃ fb, frB E O2 x kk = fb := ⟨_, rfl⟩
                rw [hfb] at HSn ⊢
                have HI1 := Lib.hid (in_n p5 c5 ol f1 Hol.out (by omega) wc HRow.out.1.slw)
                clear hbE hko he hb1c hfb
                by_cases hfx : f2 = x
                · have e1 : (f2 == x) = true := by simpa using hfx
                  have HSn2 : Hid (frB E O2 x (kk + 1) = (fb && decide (f1 ∈ O2))) := by show _ = _; rw [HSn.out, e1]; rfl
                  clear hfx HSn
                  by_cases hf1 : f1 ∈ O2
                  · have HSn3 : Hid (frB E O2 x (kk + 1) = fb) := by show _ = _; rw [HSn2.out, decide_eq_true hf1, Bool.and_true]
                    rw [decide_eq_true hf1] at HI1
                    clear HSn2 hf1
                    go_wp2_with (first
                      | (go_at_call 55; (with_reducible refine HI1.out.mono ?_); rintro e w9 ⟨rfl, K9⟩)
                      | go_in)
                    go_roundw
                    case rel => exact ⟨kk + 1, Hltk.out, by go_num, by rw [HSn3.out], HR.out.trans (K9.out.mono HR.out.size)⟩
                    case measure => simp [intOf]; omega
                  · have HSn3 : Hid (frB E O2 x (kk + 1) = false) := by show _ = _; rw [HSn2.out, decide_eq_false hf1, Bool.and_false]
                    rw [decide_eq_false hf1] at HI1
                    clear HSn2 hf1
                    go_wp2_with (first
                      | (go_at_call 55; (with_reducible refine HI1.out.mono ?_); rintro e w9 ⟨rfl, K9⟩)
                      | go_in)
                    go_roundw
                    case rel => exact ⟨kk + 1, Hltk.out, by go_num, by rw [HSn3.out, Bool.and_false], HR.out.trans (K9.out.mono HR.out.size)⟩
                    case measure => simp [intOf]; omega
                · have e1 : (f2 == x) = false := by simpa using hfx
                  have HSn2 : Hid (frB E O2 x (kk + 1) = fb) := by show _ = _; rw [HSn.out, e1]; simp
                  clear hfx HSn
                  go_wp2
                  go_roundw
                  case rel => exact ⟨kk + 1, Hltk.out, by go_num, by rw [HSn2.out], HR.out⟩
                  case measure => simp [intOf]; omega
              · have hkm : m = kk := by omega
                subst hkm
                obtain ⟨fr, hfr⟩ : ∃ fr, (!b1 && frB E O2 x m) = fr := ⟨_, rfl⟩
                rw [hfr] at Hfr ⊢
                have hlo : O2.length ≤ 1000000 := by have := Hol.out; omega
                clear hb1c hfr
                cases fr with
                | true =>
                  have HF : Hid (∃ r, freeN N E O2 = x :: r) := Hfst.out (Hfr.out.1 rfl)
                  go_wp2_with (first
                    | (at_builtin; refine wpList_append_o rfl _ _ rfl W1.heap.size (.slice p5 ol c5) O2 x rfl (HRow.out.1.alloc _) ⟨wc.heap.size, 0, none⟩ 1 rfl (news_new wc #[iv x] 3) hlo (by have := HRow.out.2.size; simp; omega) ?_
                       intro v6 w6 hf6 hg6 hl6
                       have HB9 : Hid (TpB N E O2 W1 v6 true (O2 ++ [x]) (q + 1) w6) := ⟨hf6, (HRow.out.2.alloc HRow.out.2.size _).grown hg6 (by have := HRow.out.2.size; simp; omega) (fun r e => (HRow.out.1.lt e).1), fun e => by (cases e), fun _ => by
                         obtain ⟨r, hr⟩ := HF.out
                         exact ⟨x, r, hr, rfl⟩⟩
                       clear hf6 hg6 hl6)
                    | go_in)
                  go_roundw
                  case rel => exact ⟨q + 1, true, O2 ++ [x], Hqn.out, by go_num, rfl, HB9.out⟩
                  case measure => simp [intOf]; omega
                | false =>
                  have hxf : x ∉ freeN N E O2 := fun h => by
                    have := Hfr.out.2 h
                    cases this
                  have HB9 : Hid (TpB N E O2 W1 (.slice p5 ol c5) false O2 (q + 1) wc) := ⟨HRow.out.1, HRow.out.2, fun _ => ⟨rfl, Hnxt.out hxf⟩, fun e => by (cases e)⟩
                  clear hxf
                  go_wp2
                  go_roundw
                  case rel => exact ⟨q + 1, false, O2, Hqn.out, by go_num, rfl, HB9.out⟩
                  case measure => simp [intOf]; omega
          · have hqI : ¬ (q : Int) < (n : Int) := by omega
            have HZ : Hid (topoZ N E N.length [] = none) := by
              show _ = _
              rw [← HA.out.same]
              refine topo_none (free_none fun j hj => Hno.out j (by have := Hn.out; omega)) ?_
              rw [Hol.out, Hn.out]
              exact Hlt.out
            obtain ⟨p5, c5, rfl, -⟩ := HB.out.row.sl
            go_wp2
            go_ret2
            have HQ := Lib.hid (show IntsO wb w.heap.size (.slice none 0 0) [] ∧ topoIs (topoZ N E N.length []) [] false ∧ Below w.heap.size w wb from ⟨intsO_nil _ _, .inl ⟨HZ.out, rfl, rfl⟩, Hb1.out.trans (HB.out.gro.mono Hb1.out.size)⟩)
            exact ⟨.slice none 0 0, [], .inl ⟨rfl, HQ⟩⟩
    · have hltI : ¬ (ol : Int) < (n : Int) := by omega
      have HZ : Hid (topoZ N E N.length [] = some O) := by
        show _ = _
        rw [← HA.out.same]
        refine topo_some ?_
        rw [hol, Hn.out]
        exact hlt
      rw [hol]
      clear hlt
      go_wp2
      go_ret2
      have HQ := Lib.hid (show IntsO wa w.heap.size (.slice p4 ol c4) O ∧ topoIs (topoZ N E N.length []) O true ∧ Below w.heap.size w wa from ⟨by have h1 := HA.out.row.low Hb1.out.size; rw [Hol.out] at h1; exact h1, .inr ⟨HZ.out, rfl⟩, Hb1.out.trans (HA.out.gro.mono Hb1.out.size)⟩)
      exact ⟨.slice p4 ol c4, O, .inr ⟨rfl, HQ⟩⟩
end Go.Proofs.Ythgkloapnihpaaa
