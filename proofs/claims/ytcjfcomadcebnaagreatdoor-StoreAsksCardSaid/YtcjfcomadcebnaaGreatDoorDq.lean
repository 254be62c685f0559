/- States that tell the same are the same; Same of the document's states. -/
import Derived.Test.YtcjfcomadcebnaaGreatDoorM9
import Derived.Test.YtcjfcomadcebnaaGreatDoorM11
namespace Go.Proofs.YtcjfcomadcebnaaGreatDoor
open Go.RowKit Go.Maps Go.WideMaps Go.WideElems Go.ChangeShapes Go.WideShapes
variable {T : TypeId} {er : Nat → Addr}

theorem cut_at {c : UInt8} {x y a b : List UInt8} (hx : c ∉ x) (hy : c ∉ y) (ha : a = [] ∨ ∃ r, a = c :: r) (hb : b = [] ∨ ∃ r, b = c :: r) (h : x ++ a = y ++ b) : x = y ∧ a = b := by
  induction x generalizing y with
  | nil =>
    cases y with
    | nil => exact ⟨rfl, h⟩
    | cons d y =>
      rcases ha with rfl | ⟨r, rfl⟩
      · simp at h
      · simp at h; exact absurd (by rw [h.1]; simp) hy
  | cons d x ih =>
    cases y with
    | nil =>
      rcases hb with rfl | ⟨r, rfl⟩
      · simp at h
      · simp at h; exact absurd (by rw [h.1]; simp) hx
    | cons e y =>
      simp only [List.cons_append, List.cons.injEq] at h
      obtain ⟨h1, h2⟩ := ih (fun h => hx (by simp [h])) (fun h => hy (by simp [h])) h.2
      exact ⟨by rw [h.1, h1], h2⟩
theorem qtext_inj : ∀ {l m : List Int}, (∀ v ∈ l, fits64 v) → (∀ v ∈ m, fits64 v) → qtext l = qtext m → l = m
  | [], [], _, _, _ => rfl
  | [], _ :: _, _, _, h => by simp [qtext] at h
  | _ :: _, [], _, _, h => by simp [qtext] at h
  | v :: l, u :: m, h1, h2, h => by
    have e : ∀ z k, qtext (z :: k) = 32 :: (Lib.itoa z ++ qtext k) := fun z k => rfl
    rw [e, e] at h
    obtain ⟨g1, g2⟩ := cut_at (itoa_32 v) (itoa_32 u) (qtext_shape l) (qtext_shape m) (List.cons.inj h).2
    rw [itoa_inj (h1 v (by simp)) (h2 u (by simp)) g1, qtext_inj (fun z hz => h1 z (by simp [hz])) (fun z hz => h2 z (by simp [hz])) g2]
theorem item_inj {p q : Int × Int} (h1 : fits64 p.1 ∧ fits64 p.2) (h2 : fits64 q.1 ∧ fits64 q.2) (h : item p = item q) : p = q := by
  unfold item at h
  obtain ⟨g1, g2⟩ := cut_at (itoa_58 p.1) (itoa_58 q.1) (.inr ⟨_, rfl⟩) (.inr ⟨_, rfl⟩) h
  exact Prod.ext (itoa_inj h1.1 h2.1 g1) (itoa_inj h1.2 h2.2 (List.cons.inj g2).2)
theorem mtext_inj : ∀ {l m : List (Int × Int)}, (∀ p ∈ l, fits64 p.1 ∧ fits64 p.2) → (∀ p ∈ m, fits64 p.1 ∧ fits64 p.2) → mtext l = mtext m → l = m
  | [], [], _, _, _ => rfl
  | [], _ :: _, _, _, h => by simp [mtext] at h
  | _ :: _, [], _, _, h => by simp [mtext] at h
  | v :: l, u :: m, h1, h2, h => by
    have e : ∀ z k, mtext (z :: k) = 32 :: (item z ++ mtext k) := fun z k => rfl
    rw [e, e] at h
    obtain ⟨g1, g2⟩ := cut_at (item_32 v) (item_32 u) (mtext_shape l) (mtext_shape m) (List.cons.inj h).2
    rw [item_inj (h1 v (by simp)) (h2 u (by simp)) g1, mtext_inj (fun z hz => h1 z (by simp [hz])) (fun z hz => h2 z (by simp [hz])) g2]
theorem ok_fits {s : PS} {b : Nat} (h : s.Ok b) : (∀ v ∈ s.vals, fits64 v) ∧ ∀ p ∈ s.kvs, fits64 p.1 ∧ fits64 p.2 := by
  refine ⟨fun v hv => ?_, fun p hp => ?_⟩
  · have := h.vb v hv
    unfold near at this
    unfold fits64
    omega
  · have := h.kb p hp
    unfold near at this
    unfold fits64
    omega
/-- States that the program keeps alike are the same. -/
theorem stP_inj {s u : PS} {b b' : Nat} (hs : s.Ok b) (hu : u.Ok b') (h : stP s = stP u) : s = u := by
  have hk : s.kind = u.kind := congrArg (·.1) h
  have hn : s.n = u.n := congrArg (·.2.1) h
  have ht : s.text = u.text := congrArg (·.2.2) h
  unfold PS.text at ht
  obtain ⟨f1, f2⟩ := ok_fits hs
  obtain ⟨g1, g2⟩ := ok_fits hu
  obtain ⟨k, n, vs, ks⟩ := s
  obtain ⟨k', n', vs', ks'⟩ := u
  simp only at hk hn ht f1 f2 g1 g2
  subst hk hn
  by_cases e4 : k = 4
  · have v1 : vs = [] := hs.vs (by show k ≠ 3; omega)
    have v2 : vs' = [] := hu.vs (by show k ≠ 3; omega)
    subst v1 v2
    rw [mtext_inj f2 g2 (by simpa [qtext] using ht)]
  · have v1 : ks = [] := hs.ks e4
    have v2 : ks' = [] := hu.ks e4
    subst v1 v2
    rw [qtext_inj f1 g1 (by simpa [mtext] using ht)]
/-- What the document compares. -/
theorem same_parts {s u : PS} {b b' : Nat} (hs : s.Ok b) (hu : u.Ok b') : (s.kind = u.kind ∧ s.n = u.n ∧ s.kvs.map (·.1) = u.kvs.map (·.1) ∧ valsD s = valsD u) ↔ stP s = stP u := by
  constructor
  · rintro ⟨hk, hn, h1, h2⟩
    have e : s.text = u.text := by
      unfold PS.text
      unfold valsD at h2
      by_cases e4 : s.kind = 4
      · have v1 := hs.vs (by omega)
        have v2 := hu.vs (by omega)
        rw [v1, v2] at h2 ⊢
        simp only [List.nil_append] at h2
        have e3 : s.kvs = u.kvs := by
          apply List.ext_getElem?
          intro i
          have g1 := congrArg (fun l : List Int => l[i]?) h1
          have g2 := congrArg (fun l : List Int => l[i]?) h2
          simp only [List.getElem?_map] at g1 g2
          cases hx : s.kvs[i]? <;> cases hy : u.kvs[i]? <;> rw [hx, hy] at g1 g2 <;> simp at g1 g2 ⊢
          exact Prod.ext g1 g2
        rw [e3]
      · have v1 := hs.ks e4
        have v2 := hu.ks (by omega)
        rw [v1, v2] at h2 ⊢
        simp only [List.map_nil, List.append_nil] at h2
        rw [h2]
    unfold stP
    rw [hk, hn, e]
  · intro h
    rw [stP_inj hs hu h]
    exact ⟨rfl, rfl, rfl, rfl⟩

set_option maxHeartbeats 2000000 in
set_option maxRecDepth 100000 in
theorem rsame_any (s u : PS) (b b' : Nat) (hb : b ≤ 40000) (hb' : b' ≤ 40000) (hs : s.Ok b) (hu : u.Ok b') (v x : Value) (w : World) (hv : DAt w s v) (hx : DAt w u x) :
    Calls Tryz.prog 45 #[v, x] w fun e w' => e = .returned (.bool (decide (stP s = stP u))) ∧ Hid (Below w.heap.size w w') := by
  have ls := ok_valsD hs
  have lu := ok_valsD hu
  have lks := ok_kvs hs
  have lku := ok_kvs hu
  have hpar := same_parts hs hu
  obtain ⟨ka, kc, va, vc, rfl, iK, iV, -, -, lK, lV⟩ := hv
  obtain ⟨ka', kc', va', vc', rfl, iK', iV', -, -, lK', lV'⟩ := hx
  obtain ⟨W1, hW1, Hb1, hs1, p0, p1, p2, p3⟩ := four_new w (.int .i64 s.kind) (.int .i64 s.n) (.slice ka (s.kvs.map (·.1)).length kc) (.slice va (valsD s).length vc) 39
  obtain ⟨W, hW, Hb2, hs2, q0, q1, q2, q3⟩ := four_new W1 (.int .i64 u.kind) (.int .i64 u.n) (.slice ka' (u.kvs.map (·.1)).length kc') (.slice va' (valsD u).length vc') 39
  have Hb : Hid (Below w.heap.size w W) := stepB Hb1.out Hb2.out
  have HP : Hid (∀ V, Below W.heap.size W V → (V.cell? ⟨w.heap.size, 0, none⟩ = some (.int .i64 s.kind) ∧ V.cell? ⟨w.heap.size, 1, none⟩ = some (.int .i64 s.n) ∧ V.cell? ⟨w.heap.size, 2, none⟩ = some (.slice ka (s.kvs.map (·.1)).length kc) ∧ V.cell? ⟨w.heap.size, 3, none⟩ = some (.slice va (valsD s).length vc)) ∧ (V.cell? ⟨W1.heap.size, 0, none⟩ = some (.int .i64 u.kind) ∧ V.cell? ⟨W1.heap.size, 1, none⟩ = some (.int .i64 u.n) ∧ V.cell? ⟨W1.heap.size, 2, none⟩ = some (.slice ka' (u.kvs.map (·.1)).length kc') ∧ V.cell? ⟨W1.heap.size, 3, none⟩ = some (.slice va' (valsD u).length vc'))) := by
    intro V hV
    have h1 : ∀ o x, W1.cell? ⟨w.heap.size, o, none⟩ = some x → V.cell? ⟨w.heap.size, o, none⟩ = some x := fun o x h => cellB (stepB Hb2.out hV) hs1.out h
    have h2 : ∀ o x, W.cell? ⟨W1.heap.size, o, none⟩ = some x → V.cell? ⟨W1.heap.size, o, none⟩ = some x := fun o x h => cellB hV hs2.out h
    exact ⟨⟨h1 _ _ p0, h1 _ _ p1, h1 _ _ p2, h1 _ _ p3⟩, h2 _ _ q0, h2 _ _ q1, h2 _ _ q2, h2 _ _ q3⟩
  obtain ⟨B1, hB1⟩ : ∃ B1, (s.kind == u.kind) = B1 := ⟨_, rfl⟩
  obtain ⟨B2, hB2⟩ : ∃ B2, (s.n == u.n) = B2 := ⟨_, rfl⟩
  obtain ⟨B3, hB3⟩ : ∃ B3, decide (s.kvs.map (·.1) = u.kvs.map (·.1)) = B3 := ⟨_, rfl⟩
  obtain ⟨B4, hB4⟩ : ∃ B4, decide (valsD s = valsD u) = B4 := ⟨_, rfl⟩
  have eD : decide (stP s = stP u) = (B1 && (B2 && (B3 && B4))) := by
    by_cases h : stP s = stP u
    · obtain ⟨h1, h2, h3, h4⟩ := hpar.2 h
      rw [decide_eq_true h, ← hB1, ← hB2, ← hB3, ← hB4, decide_eq_true h3, decide_eq_true h4, h1, h2]
      simp
    · rw [decide_eq_false h]
      cases hh : (B1 && (B2 && (B3 && B4)))
      · rfl
      · exfalso
        simp only [Bool.and_eq_true] at hh
        obtain ⟨a1, a2, a3, a4⟩ := hh
        exact h (hpar.1 ⟨beq_iff_eq.1 (hB1.trans a1), beq_iff_eq.1 (hB2.trans a2), of_decide_eq_true (hB3.trans a3), of_decide_eq_true (hB4.trans a4)⟩)
  rw [eD]
  have HK : Hid (∀ V, Below w.heap.size w V → Calls Tryz.prog 16 #[.slice ka (s.kvs.map (·.1)).length kc, .slice ka' (u.kvs.map (·.1)).length kc'] V fun e w' => e = .returned (.bool B3) ∧ Hid (Below V.heap.size V w')) := fun V hV => by
    rw [← hB3]
    exact (sameInts_any ka ka' kc kc' _ _ V (iK.below hV) (iK'.below hV) (by simp; omega) (by simp; omega)).mono fun e w' ⟨e1, q, hq⟩ => ⟨e1, hq ▸ below_drewN (Below.refl _ _) q⟩
  have HV : Hid (∀ V, Below w.heap.size w V → Calls Tryz.prog 16 #[.slice va (valsD s).length vc, .slice va' (valsD u).length vc'] V fun e w' => e = .returned (.bool B4) ∧ Hid (Below V.heap.size V w')) := fun V hV => by
    rw [← hB4]
    exact (sameInts_any va va' vc vc' _ _ V (iV.below hV) (iV'.below hV) (by omega) (by omega)).mono fun e w' ⟨e1, q, hq⟩ => ⟨e1, hq ▸ below_drewN (Below.refl _ _) q⟩
  clear iK iV iK' iV' hpar hs hu eD hB3 hB4 p0 p1 p2 p3 q0 q1 q2 q3
  generalize (s.kvs.map (·.1)).length = nk at *
  generalize (u.kvs.map (·.1)).length = nk' at *
  generalize (valsD s).length = nv at *
  generalize (valsD u).length = nv' at *
  obtain ⟨⟨p0, p1, p2, p3⟩, q0, q1, q2, q3⟩ := HP.out W (Below.refl _ _)
  clear ls lu lks lku lK lV lK' lV'
  cases B1 <;> cases B2 <;> cases B3
  all_goals
    go_enter Tryz.func45, Tryz.ntmps45
    go_wp2_with (first
      | (go_at_call 16; first
        | ((with_reducible refine (HK.out _ Hb.out).mono ?_); rintro e w2 ⟨rfl, h2⟩
           obtain ⟨⟨u0, u1, u2, u3⟩, t0, t1, t2, t3⟩ := HP.out w2 h2.out)
        | ((with_reducible refine (HV.out _ (stepB Hb.out h2.out)).mono ?_); rintro e w4 ⟨rfl, h4⟩
           obtain ⟨⟨y0, y1, y2, y3⟩, z0, z1, z2, z3⟩ := HP.out w4 (stepB h2.out h4.out))))
    go_ret
    exact ⟨rfl, stepB (stepB Hb.out h2.out) h4.out⟩
end Go.Proofs.YtcjfcomadcebnaaGreatDoor
