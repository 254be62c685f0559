/- Closure, by a contract. -/
import Derived.Test.YtadlgkakjaecdaaCn
namespace Go.Proofs.Ytadlgkakjaecdaa
open Go.RowKit Go.Maps Go.WideMaps Go.WideElems Go.ChangeShapes Go.WideShapes

/-- Within the search from a: what lies where. -/
structure Cl1 (V : World) (ro bo base mb rg n : Nat) (L : List Pr) (done : List Int) (Dn : DU) (left : Lit → Bool) (cnt : Nat) (M : List Pr) (a : Int) (todo R : List Int) (M2 : List Pr) (DM : DU) (v : Value) (W : World) : Prop where
  own : W.ownsInts V.heap.size 3 .i64 v todo
  once : R.Nodup
  len : todo.length ≤ R.length + 1
  out : RelAt ro bo M2 DM W
  mem : ∀ p, p ∈ M2 ↔ p ∈ M ∨ (p.1 = a ∧ p.2 ∈ R)
  rngi : RngI base mb rg n V L done Dn left cnt W
  gro : V.grownBy W (some bo)
theorem nodup_pairs (a : Int) : ∀ {R : List Int}, R.Nodup → (R.map fun y => (a, y)).Nodup
  | [], _ => by simp
  | y :: R, h => by
    have h' := List.nodup_cons.1 h
    rw [List.map_cons]
    refine List.nodup_cons.2 ⟨fun hm => ?_, nodup_pairs a h'.2⟩
    obtain ⟨z, hz, e⟩ := List.mem_map.1 hm
    cases e
    exact h'.1 hz
theorem Cl1.lens {V : World} {ro bo base mb rg n : Nat} {L : List Pr} {done : List Int} {Dn : DU} {left : Lit → Bool} {cnt : Nat} {M : List Pr} {a : Int} {todo R : List Int} {M2 : List Pr} {DM : DU} {v : Value} {W : World} (h : Cl1 V ro bo base mb rg n L done Dn left cnt M a todo R M2 DM v W)
    (hM : ∀ p ∈ M, TC L p.1 p.2) (hR : ∀ b ∈ R, TC L a b) (hB : ∀ M : List Pr, M.Nodup → (∀ p ∈ M, TC L p.1 p.2) → M.length ≤ 10000) : M2.length ≤ 10000 ∧ R.length ≤ 10000 ∧ todo.length ≤ 10001 := by
  have h1 : M2.length ≤ 10000 := hB M2 h.out.prs.once (fun p hp => by
    rcases (h.mem p).1 hp with h1 | ⟨h1, h2⟩
    · exact hM p h1
    · rw [h1]; exact hR _ h2)
  have h2 := nodup_len (nodup_pairs a h.once) (G := M2) (fun p hp => by
    obtain ⟨y, hy, rfl⟩ := List.mem_map.1 hp
    exact (h.mem _).2 (.inr ⟨rfl, hy⟩))
  rw [List.length_map] at h2
  have := h.len
  omega
theorem tc_fit {L : List Pr} (h : ∀ p ∈ L, FitP p) {a b : Int} (ht : TC L a b) : FitP (a, b) := by
  obtain ⟨c, hc⟩ := ht.head
  obtain ⟨d, hd⟩ := ht.last
  exact ⟨(h _ hc).1, (h _ hd).2⟩

/-- Between two searches. -/
structure Cl0 (V : World) (ro bo base mb rg n : Nat) (L : List Pr) (done : List Int) (Dn : DU) (left : Lit → Bool) (cnt : Nat) (M : List Pr) (DM : DU) (W : World) : Prop where
  out : RelAt ro bo M DM W
  mem : ∀ p, p ∈ M ↔ p.1 ∈ done ∧ TC L p.1 p.2
  rngi : RngI base mb rg n V L done Dn left cnt W
  gro : V.grownBy W (some bo)
/-- What stands throughout. -/
structure ClC (V : World) (ro bo base mb n : Nat) (L : List Pr) (Dn : DU) : Prop where
  next : NextAt V base mb n L Dn V
  rlt : ro < V.heap.size
  blt : bo < V.heap.size
  mlt : mb < V.heap.size
  ne : mb ≠ bo
  obj : ∃ o, V.heap[bo]? = some o ∧ o.isCells = false
theorem rel_obj {r b : Nat} {L : List Pr} {D : DU} {W : World} (h : RelAt r b L D W) : ∃ o, W.heap[b]? = some o ∧ o.isCells = false := by
  obtain ⟨es, clock, hb, _⟩ := h.prs.own
  exact ⟨_, hb, rfl⟩
theorem rngI_start {base mb n : Nat} {V W : World} {L : List Pr} {Dn : DU} (h : NextAt V base mb n L Dn V) {rg : Nat} (hr : W.ranges Try.prog 3 (rowsOf V base) mb rg n Dn (Maps.has Dn) (Maps.size Dn)) : RngI base mb rg n V L [] Dn (Maps.has Dn) (Maps.size Dn) W :=
  ⟨hr, fun a ha => by rw [h.has a ha]; simp⟩

theorem own_len {W : World} {B : Nat} {v : Value} {zs : List Int} (h : W.ownsInts B 3 .i64 v zs) : lenOf v = zs.length := by
  obtain ⟨a, c, rfl, _⟩ := ints_sl h
  rfl
theorem own_lo {W : World} {B : Nat} {v : Value} {zs : List Int} (h : W.ownsInts B 3 .i64 v zs) {k : Nat} (hk : v.ownBlock = some k) : B ≤ k := by
  rcases h.1.2 with ⟨e1, _⟩ | ⟨g, cap, cur, e1, hb, _⟩
  · rw [e1] at hk; cases hk
  · rw [e1] at hk
    have e2 : g = k := by simpa [Value.ownBlock] using hk
    omega
theorem ints_cell {W : World} {B n c : Nat} {p : Option Addr} {zs : List Int} (h : W.ownsInts B 3 .i64 (.slice p n c) zs) {j : Nat} (hj : j < zs.length) : ∃ g, p = some ⟨g, 0, none⟩ ∧ W.cell? ⟨g, j, none⟩ = some (.int .i64 (zs.getD j 0)) := by
  obtain ⟨a, c', e, _, h2⟩ := ints_sl h
  obtain ⟨g, hg, _, _, hc⟩ := h2 (by intro e; subst e; simp at hj)
  cases e
  exact ⟨g, hg, hc j hj⟩
section
variable {V : World} {ro bo base mb n : Nat} {L : List Pr} {done : List Int} {Dn : DU} {left : Lit → Bool} {cnt : Nat} {M : List Pr} {a : Int} {todo R : List Int} {M2 : List Pr} {DM : DU} {v : Value} {W : World}
theorem Cl1.kept (h : Cl1 V ro bo base mb V.heap.size n L done Dn left cnt M a todo R M2 DM v W) {W' : World} (hg : W.grownBy W' none) : Cl1 V ro bo base mb V.heap.size n L done Dn left cnt M a todo R M2 DM v W' :=
  ⟨h.own.kept hg (by cases v.ownBlock <;> simp), h.once, h.len, h.out.kept hg (by simp) (by simp), h.mem, h.rngi.keep hg (by simp) (by simp), h.gro.trans (hg.but _)⟩
theorem Cl1.own5 (h : Cl1 V ro bo base mb V.heap.size n L done Dn left cnt M a todo R M2 DM v W) {W5 : World} (hg : W.grownBy W5 (some bo)) : W5.ownsInts V.heap.size 3 .i64 v todo := by
  obtain ⟨o, ho, hoc⟩ := rel_obj h.out
  exact h.own.kept hg (.inr (row_no h.own.1 ho hoc))
theorem Cl1.push (h : Cl1 V ro bo base mb V.heap.size n L done Dn left cnt M a todo R M2 DM v W) (C : ClC V ro bo base mb n L Dn) {y : Int} (hy : y ∉ R) {W5 W6 : World} {D5 : DU} {v6 : Value} {o : Obj} (hrel : RelAt ro bo (M2 ++ [(a, y)]) D5 W5) (hg : W.grownBy W5 (some bo))
    (hown : W6.ownsInts V.heap.size 3 .i64 v6 (todo ++ [y])) (hg6 : (W5.alloc o).grownBy W6 v.ownBlock) : Cl1 V ro bo base mb V.heap.size n L done Dn left cnt M a (todo ++ [y]) (R ++ [y]) (M2 ++ [(a, y)]) D5 v6 W6 := by
  have hg56 : W5.grownBy W6 v.ownBlock := (World.grownBy_alloc W5 o _).trans hg6
  have ho5 := h.own5 hg
  have hne : ∀ k, k < V.heap.size → some k ≠ v.ownBlock := fun k hk e => by have := own_lo ho5 e.symm; omega
  have hr5 := h.rngi.keep hg (fun e => C.ne (by simpa using e)) (fun e => by
    have h1 : V.heap.size = bo := by simpa using e
    have := C.blt
    omega)
  obtain ⟨-, ⟨og, hog, hogc⟩⟩ : True ∧ ∃ o, W5.heap[V.heap.size]? = some o ∧ o.isCells = false := by
    obtain ⟨es, clock, since, seen, c0, h1, _, _, _, h2, _⟩ := hr5.rng
    exact ⟨trivial, _, h2, rfl⟩
  refine ⟨hown, ?_, ?_, hrel.kept hg56 (hne _ C.rlt) (hne _ C.blt), fun p => ?_, hr5.keep hg56 (hne _ C.mlt) (fun e => row_no ho5.1 hog hogc e.symm), ?_⟩
  · exact List.nodup_append.2 ⟨h.once, by simp, fun x hx z hz => by simp at hz; subst hz; exact fun e => hy (e ▸ hx)⟩
  · have := h.len
    simp
    omega
  · rw [List.mem_append, h.mem p, List.mem_append, List.mem_singleton, List.mem_singleton]
    constructor
    · rintro ((h1 | ⟨h1, h2⟩) | h1)
      · exact .inl h1
      · exact .inr ⟨h1, .inl h2⟩
      · subst h1; exact .inr ⟨rfl, .inr rfl⟩
    · rintro (h1 | ⟨h1, h2 | h2⟩)
      · exact .inl (.inl h1)
      · exact .inl (.inr ⟨h1, h2⟩)
      · exact .inr (by rw [← h1, ← h2])
  · refine (h.gro.trans hg).andThen hg56 (fun k hk => .inl (own_lo ho5 hk))
end

theorem snoc_cases {α : Type} (l : List α) : l = [] ∨ ∃ t' t, l = t' ++ [t] := by
  rcases List.eq_nil_or_concat l with h | ⟨t', t, h⟩
  · exact .inl h
  · exact .inr ⟨t', t, by rw [h, List.concat_eq_append]⟩

set_option maxHeartbeats 4000000 in
set_option maxRecDepth 100000 in
theorem closure_any (r b : Nat) (L : List Pr) (D : DU) (hn : L.length ≤ 10000) (hB : ∀ M : List Pr, M.Nodup → (∀ p ∈ M, TC L p.1 p.2) → M.length ≤ 10000) (w : World) (h : RelAt r b L D w) :
    Calls Try.prog 22 #[.pointer (some ⟨r, 0, none⟩)] w fun e w' => ∃ r' b' M D', e = .returned (.pointer (some ⟨r', 0, none⟩)) ∧ Hid (RelAt r' b' M D' w' ∧ (∀ p, p ∈ M ↔ TC L p.1 p.2) ∧ Below w.heap.size w w' ∧ w.heap.size ≤ r' ∧ w.heap.size ≤ b') := by
  obtain ⟨i3, hi3, hy0, hy1, hy2⟩ := info_parts (P := Try.prog) (e := 3) (z := .int .i64 0) (size := 1) (bytes := 8) (by kernel_rfl)
  have H := Lib.hid h
  have HB := Lib.hid hB
  have Hn := Lib.hid hn
  have Hfit := Lib.hid h.prs.fit
  clear h hB hn
  go_enter Try.func22, Try.ntmps22
  go_wp2_with (first
    | (go_at_call 10; refine (new_any _).mono ?_; rintro e w1 ⟨ro, bo, rfl, h1⟩; have H1 := Lib.hid (H.out.below h1.out.2.1))
    | (go_at_call 40; refine (nexts_any r b L D (by have := Hn.out; omega) _ H1.out).mono ?_; rintro e V ⟨mb, done0, Dn, rfl, h2⟩
       have HC : Hid (ClC V ro bo (w1.heap.size + 1) mb done0.length L Dn) := by
         have hO := h1.out.1.below h2.out.2.2.2.1
         have hn0 := next_of h2.out.2.2.1 h2.out.1 h2.out.2.1
         exact ⟨hn0, hO.rlt, hO.blt, hn0.own.lt, fun e => by have h3 := h2.out.2.2.2.2; have h4 := h1.out.1.blt; omega, rel_obj hO⟩
       have HO := Lib.hid (h1.out.1.below h2.out.2.2.2.1)
       have HW : Hid (Below w.heap.size w V) := h1.out.2.1.trans (h2.out.2.2.2.1.mono h1.out.2.1.size)
       have Hlo : Hid (w.heap.size ≤ ro ∧ w.heap.size ≤ bo) := ⟨h1.out.2.2.1, h1.out.2.2.2⟩
       clear h2)
    | (at_range; refine wpList_range_own _ rfl _ 66 rfl 3 33 K3 Try.underlying66 (rowsOf V (w1.heap.size + 1)) mb done0.length Dn rfl HC.out.next.own ?_; intro w2 hrg2 hg2 hs2)
    | go_in)
  go_frame
  have H2 : Hid (Cl0 V ro bo (w1.heap.size + 1) mb V.heap.size done0.length L [] Dn (Maps.has Dn) (Maps.size Dn) [] (.map []) w2) :=
    ⟨HO.out.kept hg2 (by simp) (by simp), by simp, rngI_start HC.out.next hrg2, hg2.but _⟩
  obtain ⟨base, hbase⟩ : ∃ k, w1.heap.size + 1 = k := ⟨_, rfl⟩
  obtain ⟨n, hnn⟩ : ∃ k, done0.length = k := ⟨_, rfl⟩
  rw [hbase, hnn] at HC H2
  clear hrg2 hg2 hs2 hbase hnn h1 H1 HO H
  go_loopw [5] (fun _ wr => ∃ done left cnt M DM, Hid (Cl0 V ro bo base mb V.heap.size n L done Dn left cnt M DM wr)) (fun _ wr => wr.rangeLeft mb V.heap.size)
  case atStart => exact ⟨[], _, _, _, _, H2⟩
  case round =>
    obtain ⟨done, left, cnt, M, DM, HR⟩ := hrel
    go_wp2_with (first | (at_next; refine wpList_next_ranges _ rfl _ rfl 3 K3 (rowsOf V base) (Value.int .i64) (fun c : Value => c) invI invV mb V.heap.size n Dn left cnt rfl HR.out.rngi.rng ?_ ?_) | go_in)
    · intro hc0 hl0
      have Hall : Hid (∀ p, p ∈ M ↔ TC L p.1 p.2) := fun p => by
        rw [HR.out.mem p]
        refine ⟨fun h => h.2, fun h => ⟨?_, h⟩⟩
        obtain ⟨c, hc⟩ := h.head
        have h1 := HR.out.rngi.left_iff p.1 (Hfit.out _ hc).1
        rw [hl0] at h1
        have h2 : p.1 ∈ L.map (·.1) → p.1 ∈ done := by simpa using h1.symm
        exact h2 (List.mem_map.2 ⟨_, hc, rfl⟩)
      clear hc0 hl0
      go_wp2
      go_ret
      exact ⟨_, _, M, DM, rfl, HR.out.out, Hall.out, HW.out.grown HR.out.gro HW.out.size (fun k e => by cases e; exact Hlo.out.2), Hlo.out.1, Hlo.out.2⟩
    · intro a c kl y1 y2 w3 cnt3 hkx hlk hv hat hrg3 hlt3 hg3 hs3 hen
      obtain ⟨hfa, rfl⟩ := inv3 hkx
      obtain ⟨haL, han, hrng⟩ := rngI_more HR.out.rngi hfa hlk hrg3
      obtain ⟨left3, hrng⟩ : ∃ l, RngI base mb V.heap.size n V L (done ++ [a]) Dn l cnt3 w3 := ⟨_, hrng⟩
      have hV := HR.out.gro.size
      have hO3 := HR.out.out.kept hg3 (fun e => by have h1 := HC.out.rlt; have h2 : ro = V.heap.size := by simpa using e
                                                   omega) (fun e => by have h1 := HC.out.blt; have h2 : bo = V.heap.size := by simpa using e
                                                                       omega)
      have hgro3 : V.grownBy w3 (some bo) := HR.out.gro.andThen hg3 (fun j e => by cases e; exact .inl (Nat.le_refl _))
      obtain ⟨W4, hW4⟩ : ∃ W, w3.alloc (.cells #[.int .i64 a] 3) = W := ⟨_, rfl⟩
      have hg4 : w3.grownBy W4 none := hW4 ▸ World.grownBy_alloc w3 _ none
      have hown4 : W4.ownsInts V.heap.size 3 .i64 (.slice (some ⟨w3.heap.size, 0, none⟩) 1 1) [a] := hW4 ▸ ints_one w3 V.heap.size hgro3.size a hfa
      have HQ0 : Hid (Cl1 V ro bo base mb V.heap.size n L (done ++ [a]) Dn left3 cnt3 M a [a] [] M DM (.slice (some ⟨w3.heap.size, 0, none⟩) 1 1) W4 ∧ Srch L a [] [a]) :=
        ⟨⟨hown4, by simp, by simp, hO3.kept hg4 (by simp) (by simp), by simp, hrng.keep hg4 (by simp) (by simp), hgro3.trans (hg4.but _)⟩, Srch.start L a⟩
      have Hfa := Lib.hid hfa
      have Han := Lib.hid han
      have Hlt3 : Hid (cnt3 < wr.rangeLeft mb V.heap.size) := by show _ < _; rw [HR.out.rngi.rng.left_eq]; exact hlt3
      have HM : Hid (∀ p, p ∈ M ↔ p.1 ∈ done ∧ TC L p.1 p.2) := HR.out.mem
      clear hkx hlk hv hat hrg3 hlt3 hg3 hs3 haL han hrng hV hO3 hgro3 hg4 hown4 hfa
      go_wp2
      generalize Value.slice (some ⟨w3.heap.size, 0, none⟩) 1 1 = v4 at *
      go_loopw [6] (fun v wq => ∃ todo R M2 DM2, Hid (Cl1 V ro bo base mb V.heap.size n L (done ++ [a]) Dn left3 cnt3 M a todo R M2 DM2 v wq ∧ Srch L a R todo)) (fun v wq => 2 * (20000 - mapLen wq bo) + lenOf v)
      case atStart => exact ⟨_, _, _, _, HQ0⟩
      case round =>
        obtain ⟨todo, R, M2, DM2, HQ⟩ := hrel
        obtain ⟨p6, c6, rfl, hcap, hsl⟩ := ints_sl HQ.out.1.own
        rcases snoc_cases todo with rfl | ⟨t', t, rfl⟩
        · simp only [List.length_nil] at hcap ⊢
          have Hfull := Lib.hid HQ.out.2.full
          have Hmem : Hid (∀ p, p ∈ M2 ↔ p.1 ∈ done ++ [a] ∧ TC L p.1 p.2) := fun p => by
            rw [HQ.out.1.mem p, HM.out p, Hfull.out]
            simp only [List.mem_append, List.mem_singleton]
            constructor
            · rintro (⟨h1, h2⟩ | ⟨h1, h2⟩)
              · exact ⟨.inl h1, h2⟩
              · exact ⟨.inr h1, h1 ▸ h2⟩
            · rintro ⟨h1 | h1, h2⟩
              · exact .inl ⟨h1, h2⟩
              · exact .inr ⟨h1, h1 ▸ h2⟩
          clear hsl
          go_wp2
          go_roundw
          case rel => exact ⟨done ++ [a], _, _, M2, DM2, HQ.out.1.out, Hmem.out, HQ.out.1.rngi, HQ.out.1.gro⟩
          case measure =>
            show World.rangeLeft _ _ _ < _
            rw [HQ.out.1.rngi.rng.left_eq]
            exact Hlt3.out
        · obtain ⟨g6, rfl, hgb, hgl, hcell⟩ := hsl (by simp)
          obtain ⟨k, hk⟩ : ∃ k, t'.length = k := ⟨_, rfl⟩
          have hlen : (t' ++ [t]).length = k + 1 := by simp [hk]
          have ht : fit64 t := by
            rcases HQ.out.2.here t (by simp) with e | e
            · rw [e]; exact Hfa.out
            · exact (tc_fit Hfit.out (HQ.out.2.sound t e)).2
          have ct0 := hcell k (by rw [hlen]; exact Nat.lt_succ_self k)
          have e0 : (t' ++ [t]).getD k 0 = t := by subst hk; simp
          rw [e0] at ct0
          have hlens := HQ.out.1.lens (fun p hp => ((HM.out p).1 hp).2) HQ.out.2.sound HB.out
          have Hk : Hid (k ≤ 10000 ∧ M2.length ≤ 10000) := ⟨by have := hlens.2.2; omega, hlens.1⟩
          obtain ⟨v2, zs, hlook, hov, hzn, hzs⟩ := (HC.out.next.kept HQ.out.1.gro (fun e => HC.out.ne (by simpa using e))).look ht
          obtain ⟨ob, hob, hobc⟩ := HC.out.obj
          obtain ⟨p2, c2, rfl, -, -⟩ := ints_sl (ints_stay hov HQ.out.1.gro hob hobc)
          have Hzl : Hid (zs.length ≤ 10000) := by
            have h1 := nodup_len (nodup_pairs t hzn) (G := L) (fun p hp => by
              obtain ⟨y, hy, rfl⟩ := List.mem_map.1 hp
              exact (hzs y).1 hy)
            rw [List.length_map] at h1
            have h2 := Hn.out
            show _ ≤ _
            omega
          have Hov := Lib.hid hov
          have Hzs := Lib.hid hzs
          have Hown : Hid (wr.ownsInts V.heap.size 3 .i64 (.slice (some ⟨g6, 0, none⟩) k c6) t') := by
            have h1 := HQ.out.1.own
            rw [hlen] at h1
            have h2 := h1.1
            rw [hlen, List.map_append] at h2
            exact ⟨by rw [hk]; exact ownsRow_pop (by simp [hk]) h2, fun x hx => h1.2 x (List.mem_append.2 (.inl hx))⟩
          rw [hlen] at hcap ⊢
          have hk0 := Hk.out.1
          have hg0 : decide ((0 : Int) < (k : Int) + 1) = true := by simp
          have hwr : IntKind.i64.wrap (k : Int) = (k : Int) := by rw [IntKind.wrap_i64]; omega
          have hix1 : (k : Int) < (k : Int) + 1 := by omega
          have hix2 : (k : Int) < ((k + 1 : Nat) : Int) := by omega
          have hix3 : k < k + 1 := by omega
          have hix0 : (0 : Int) ≤ (k : Int) := by omega
          have Hlen := Lib.hid hlen
          clear hov hzs hlens hcell hob hlen e0 hzn
          go_wp2
          obtain ⟨m, hm⟩ : ∃ m, zs.length = m := ⟨_, rfl⟩
          rw [hm] at Hov Hzl ⊢
          have Hm := Lib.hid hm
          obtain ⟨v6, hv6⟩ : ∃ v, Value.slice (some ⟨g6, 0, none⟩) k c6 = v := ⟨_, rfl⟩
          have hlv6 : lenOf v6 = k := by rw [← hv6]; rfl
          rw [hv6] at Hown ⊢
          have Hk6 := Lib.hid hk
          have HL3 : Hid (Cl1 V ro bo base mb V.heap.size n L (done ++ [a]) Dn left3 cnt3 M a (t' ++ []) R M2 DM2 v6 wr) :=
            ⟨by rw [List.append_nil]; exact Hown.out, HQ.out.1.once, by have h1 := HQ.out.1.len; simp at h1 ⊢; omega, HQ.out.1.out, HQ.out.1.mem, HQ.out.1.rngi, HQ.out.1.gro⟩
          have HS := Lib.hid HQ.out.2
          have Hml : Hid (mapLen wr bo = M2.length) := map_len HQ.out.1.out
          clear hm hv6 hk hcap ct0 hlook hgb hgl hg0 hwr hix0 hix1 hix2 hix3 hk0
          go_loopw [6, 39] (fun v i wq => ∃ (j : Nat) (R3 new : List Int) (M3 : List Pr) (DM3 : DU), i = .int .i64 j ∧ j ≤ m ∧ Hid (Cl1 V ro bo base mb V.heap.size n L (done ++ [a]) Dn left3 cnt3 M a (t' ++ new) R3 M3 DM3 v wq ∧ M3.length = M2.length + new.length ∧ (∀ b, b ∈ R3 ↔ b ∈ R ∨ b ∈ new) ∧ (∀ b ∈ new, (t, b) ∈ L) ∧ (∀ b ∈ zs.take j, b ∈ R3))) (fun _ i _ => m - (intOf i).toNat)
          case atStart => exact ⟨0, R, [], M2, DM2, rfl, Nat.zero_le _, HL3.out, by simp, by simp, by simp, by simp⟩
          case round =>
            obtain ⟨j, R3, new, M3, DM3, rfl, hjm, HT⟩ := hrel
            have Hsound : Hid (∀ b ∈ R3, TC L a b) := fun y hy => by
              rcases (HT.out.2.2.1 y).1 hy with h1 | h1
              · exact HS.out.sound y h1
              · rcases HS.out.here t (by simp) with e | e
                · exact .one (e ▸ HT.out.2.2.2.1 y h1)
                · exact .more (HS.out.sound t e) (HT.out.2.2.2.1 y h1)
            have Hlens := Lib.hid (HT.out.1.lens (fun p hp => ((HM.out p).1 hp).2) Hsound.out HB.out)
            by_cases hj : j < m
            · obtain ⟨ob, hob, hobc⟩ := HC.out.obj
              have hjz : j < zs.length := by rw [Hm.out]; exact hj
              obtain ⟨g2, rfl, hc2⟩ := ints_cell (ints_stay Hov.out HT.out.1.gro hob hobc) hjz
              have hyz : zs.getD j 0 ∈ zs := by
                rw [List.getD_eq_getElem?_getD, List.getElem?_eq_getElem hjz]
                exact List.getElem_mem hjz
              have htk : zs.take (j + 1) = zs.take j ++ [zs.getD j 0] := by
                rw [List.take_add_one, List.getElem?_eq_getElem hjz, List.getD_eq_getElem?_getD, List.getElem?_eq_getElem hjz]
                rfl
              generalize zs.getD j 0 = y at *
              have Hty : Hid ((t, y) ∈ L) := (Hzs.out y).1 hyz
              have Htk := Lib.hid htk
              have hfy : FitP (a, y) := ⟨Hfa.out, (Hfit.out _ Hty.out).2⟩
              have Hfy := Lib.hid hfy
              have hm0 := Hzl.out
              clear hyz htk hob hjz hfy
              by_cases hy : y ∈ R3
              · have Hy := Lib.hid hy
                have Hin := Lib.hid (add_in ro bo M3 DM3 (a, y) Hfy.out ((HT.out.1.mem _).2 (.inr ⟨rfl, hy⟩)) wr HT.out.1.out)
                clear hy
                go_wp2_with (first | (go_at_call 13; refine Hin.out.mono ?_; rintro e w5 ⟨rfl, h5⟩) | go_in)
                go_roundw
                case rel =>
                  refine ⟨j + 1, R3, new, M3, DM3, rfl, by omega, HT.out.1.kept (grown_below h5.out), HT.out.2.1, HT.out.2.2.1, HT.out.2.2.2.1, fun b' hb' => ?_⟩
                  rw [Htk.out] at hb'
                  rcases List.mem_append.1 hb' with h1 | h1
                  · exact HT.out.2.2.2.2 b' h1
                  · simp at h1; subst h1; exact Hy.out
                case measure => simp [intOf]; omega
              · have Hy := Lib.hid hy
                have hnM : (a, y) ∉ M3 := fun h => by
                  rcases (HT.out.1.mem _).1 h with h1 | ⟨_, h1⟩
                  · exact Han.out ((HM.out _).1 h1).1
                  · exact hy h1
                have Hnew := Lib.hid (add_new ro bo M3 DM3 (a, y) Hfy.out hnM (by have := Hlens.out.1; omega) wr HT.out.1.out)
                clear hy hnM
                go_wp2_with (first
                  | (go_at_call 13; refine Hnew.out.mono ?_; rintro e w5 ⟨rfl, h5⟩
                     have H5 := Lib.hid (HT.out.1.own5 h5.out.2)
                     have HA : Hid (V.heap.size ≤ (w5.alloc (.cells #[.int .i64 y] 3)).heap.size) := by
                       have h1 := HT.out.1.gro.size
                       have h2 := h5.out.2.size
                       show _ ≤ (World.alloc _ _).heap.size
                       simp
                       omega)
                  | (at_builtin; refine wpList_append_own _ rfl _ _ 33 rfl V.heap.size 3 i3 (.int .i64 0) 1 8 Try.underlying33 hi3 hy0 hy1 hy2 rfl (by decide) u6 (t' ++ new).length ((t' ++ new).map (Value.int .i64)) rfl (H5.out.alloc _).1 ⟨w5.heap.size, 0, none⟩ 1 1 [.int .i64 y] rfl rfl (news_new w5 #[.int .i64 y] 3) (by intro u hu; simp at hu; subst hu; rfl) (by unfold maxLen; have := Hlens.out.2.2; omega) (by have := Hlens.out.2.2; omega) HA.out ?_)
                  | go_in)
                intro v7 w7 hown7 hgrow7 hnil7
                have Ho7 : Hid (w7.ownsInts V.heap.size 3 .i64 v7 (t' ++ (new ++ [y]))) := by
                  show World.ownsInts _ _ _ _ _ _
                  rw [← List.append_assoc]
                  exact (H5.out.alloc (.cells #[.int .i64 y] 3)).appended (by rw [List.length_append, List.map_append, List.append_assoc]; exact hown7) Hfy.out.2
                have HP : Hid (Cl1 V ro bo base mb V.heap.size n L (done ++ [a]) Dn left3 cnt3 M a (t' ++ (new ++ [y])) (R3 ++ [y]) (M3 ++ [(a, y)]) (DM3.put (pl (a, y)) (.agg [])) v7 w7) := by
                  have h1 := HT.out.1.push HC.out Hy.out h5.out.1 h5.out.2 (o := .cells #[.int .i64 y] 3) (v6 := v7) (by rw [List.append_assoc]; exact Ho7.out) hgrow7
                  rw [List.append_assoc] at h1
                  exact h1
                clear hown7 hgrow7 hnil7
                go_wp2
                go_roundw
                case rel =>
                  refine ⟨j + 1, R3 ++ [y], new ++ [y], _, _, rfl, by omega, HP.out, by have := HT.out.2.1; simp; omega, fun b' => ?_, fun b' hb' => ?_, fun b' hb' => ?_⟩
                  · rw [List.mem_append, HT.out.2.2.1 b', List.mem_append]
                    constructor
                    · rintro ((h1 | h1) | h1)
                      · exact .inl h1
                      · exact .inr (.inl h1)
                      · exact .inr (.inr h1)
                    · rintro (h1 | h1 | h1)
                      · exact .inl (.inl h1)
                      · exact .inl (.inr h1)
                      · exact .inr h1
                  · rcases List.mem_append.1 hb' with h1 | h1
                    · exact HT.out.2.2.2.1 b' h1
                    · simp at h1; subst h1; exact Hty.out
                  · rw [Htk.out] at hb'
                    rcases List.mem_append.1 hb' with h1 | h1
                    · exact List.mem_append.2 (.inl (HT.out.2.2.2.2 b' h1))
                    · exact List.mem_append.2 (.inr h1)
                case measure => simp [intOf]; omega
            · have hjm' : j = m := by omega
              subst hjm'
              clear hj hjm
              go_wp2
              go_roundw
              case rel =>
                refine ⟨t' ++ new, R3, M3, DM3, HT.out.1, HS.out.step HT.out.2.2.1 HT.out.2.2.2.1 (fun y hy => HT.out.2.2.2.2 y ?_)⟩
                rw [← Hm.out, List.take_length]
                exact (Hzs.out y).2 hy
              case measure =>
                have h1 := Hml.out
                have h2 := Hlens.out
                have h3 := HT.out.2.1
                have h4 := Hk6.out
                rw [h1, map_len HT.out.1.out, own_len HT.out.1.own, List.length_append]
                show _ < 2 * (20000 - M2.length) + (k + 1)
                omega
end Go.Proofs.Ytadlgkakjaecdaa
