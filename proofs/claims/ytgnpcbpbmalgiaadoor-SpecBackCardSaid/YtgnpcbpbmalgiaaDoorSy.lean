/- From at any text, by a contract; what a state's key tells. -/
import Derived.Test.YtgnpcbpbmalgiaaDoorSx
namespace Go.Proofs.YtgnpcbpbmalgiaaDoor
open Go.RowKit

variable {T : TypeId} {er : Nat → Addr}

theorem text_q {key : List UInt8} {l : List Int} (h : valsR (itemsOf (key.drop (headL key).length)) = some l) : key.drop (headL key).length = qtext l := by
  rw [← valsR_text h, items_blanks (head_split key).1]
theorem text_m {key : List UInt8} {l : List (Int × Int)} (h : kvsR none (itemsOf (key.drop (headL key).length)) = some l) : key.drop (headL key).length = mtext l := by
  rw [← kvsR_text h, items_blanks (head_split key).1]
theorem drop_len (key : List UInt8) : (key.drop (headL key).length).length ≤ key.length := by simp
theorem fromK_1 {key : List UInt8} (h : codeL 1 (headL key) = some 1) : fromK key = match prn ((key.drop (headL key).length).drop 1) with | none => .error 0 | some n => if nearB n 1000000000 then .ok ⟨1, n, [], []⟩ else .error 1 := by
  unfold fromK
  rw [h]
  rfl
theorem fromK_2 {key : List UInt8} (h : codeL 1 (headL key) = some 2) : fromK key = match prn ((key.drop (headL key).length).drop 1) with | none => .error 0 | some n => if nearB n 1000000000000000 then .ok ⟨2, n, [], []⟩ else .error 1 := by
  unfold fromK
  rw [h]
  rfl
theorem fromK_3 {key : List UInt8} (h : codeL 1 (headL key) = some 3) : fromK key = match valsR (itemsOf (key.drop (headL key).length)) with | none => .error 0 | some l => if l.all nearV then .ok ⟨3, 0, l, []⟩ else .error 1 := by
  unfold fromK
  rw [h]
  rfl
theorem fromK_4 {key : List UInt8} (h : codeL 1 (headL key) = some 4) : fromK key = match kvsR none (itemsOf (key.drop (headL key).length)) with | none => .error 0 | some l => if l.all inKv then .ok ⟨4, 0, [], l⟩ else .error 1 := by
  unfold fromK
  rw [h]
  rfl

theorem from_any (key : List UInt8) (hl : key.length ≤ 1000000000) (w : World) (hG : Glob T er w) : Calls Tryd.prog 13 #[tv key] w fun e w' => e = .returned (fromV T er (fromK key)) ∧ Hid (Below w.heap.size w w') := by
  have hd := drop_len key
  cases hc : codeL 1 (headL key) with
  | none =>
    have e : fromK key = .error 0 := by unfold fromK; rw [hc]
    rw [e]
    exact from_none key hl hc w hG
  | some kd =>
    have hk := code_kind hc
    have : kd = 1 ∨ kd = 2 ∨ kd = 3 ∨ kd = 4 := by omega
    rcases this with rfl | rfl | rfl | rfl
    · rw [fromK_1 hc]
      have ha := fun W (h : Glob T er W) => alone_all (key.drop (headL key).length) (head_split key).1 (by omega) 1000000000 (by decide) (by decide) W h
      cases hp : prn ((key.drop (headL key).length).drop 1) with
      | none =>
        rw [hp] at ha
        exact from_1 key hl hc 0 (errE T er 1) (.inr ⟨1, rfl⟩) ha w hG
      | some n =>
        rw [hp] at ha
        unfold aloneV at ha
        simp only at ha ⊢
        cases hn : nearB n 1000000000 with
        | false =>
          rw [hn] at ha
          exact from_1 key hl hc 0 (errE T er 4) (.inr ⟨4, rfl⟩) ha w hG
        | true =>
          rw [hn] at ha
          exact from_1 key hl hc n .nilIface (.inl rfl) ha w hG
    · rw [fromK_2 hc]
      have ha := fun W (h : Glob T er W) => alone_all (key.drop (headL key).length) (head_split key).1 (by omega) 1000000000000000 (by decide) (by decide) W h
      cases hp : prn ((key.drop (headL key).length).drop 1) with
      | none =>
        rw [hp] at ha
        exact from_2 key hl hc 0 (errE T er 1) (.inr ⟨1, rfl⟩) ha w hG
      | some n =>
        rw [hp] at ha
        unfold aloneV at ha
        simp only at ha ⊢
        cases hn : nearB n 1000000000000000 with
        | false =>
          rw [hn] at ha
          exact from_2 key hl hc 0 (errE T er 4) (.inr ⟨4, rfl⟩) ha w hG
        | true =>
          rw [hn] at ha
          exact from_2 key hl hc n .nilIface (.inl rfl) ha w hG
    · rw [fromK_3 hc]
      have ha := fun W (h : Glob T er W) => judgeItems_queue (key.drop (headL key).length) (head_split key).1 (by omega) W.heap.size W (Nat.le_refl _) h.size h
      cases hp : valsR (itemsOf (key.drop (headL key).length)) with
      | none =>
        rw [hp] at ha
        exact from_3 key hl hc (errE T er 1) (.inr ⟨1, rfl⟩) ha w hG
      | some l =>
        rw [hp] at ha
        unfold itemsV at ha
        simp only at ha ⊢
        cases hn : l.all nearV with
        | false =>
          simp only [hn, Bool.false_eq_true, if_false] at ha
          exact from_3 key hl hc (errE T er 4) (.inr ⟨4, rfl⟩) ha w hG
        | true =>
          simp only [hn, if_true] at ha
          have := from_3 key hl hc .nilIface (.inl rfl) ha w hG
          have e : ({ kind := 3, n := 0, vals := l, kvs := [] } : PS).text = key.drop (headL key).length := by rw [text_q hp]; simp [PS.text, mtext]
          show Calls Tryd.prog 13 #[tv key] w fun e w' => e = .returned (.tuple #[stv 3 0 ({ kind := 3, n := 0, vals := l, kvs := [] } : PS).text, .nilIface]) ∧ _
          rw [e]
          exact this
    · rw [fromK_4 hc]
      have ha := fun W B (hJ : JudgeAt W B true 0) (h15 : 15 ≤ B) (h : Glob T er W) => judgeItems_map (key.drop (headL key).length) (head_split key).1 (by omega) B B W hJ (Nat.le_refl _) h15 h
      cases hp : kvsR none (itemsOf (key.drop (headL key).length)) with
      | none =>
        rw [hp] at ha
        exact from_4 key hl hc (errE T er 1) (.inr ⟨1, rfl⟩) ha w hG
      | some l =>
        rw [hp] at ha
        unfold itemsV at ha
        simp only at ha ⊢
        cases hn : l.all inKv with
        | false =>
          simp only [hn, Bool.false_eq_true, if_false] at ha
          exact from_4 key hl hc (errE T er 4) (.inr ⟨4, rfl⟩) ha w hG
        | true =>
          simp only [hn, if_true] at ha
          have := from_4 key hl hc .nilIface (.inl rfl) ha w hG
          have e : ({ kind := 4, n := 0, vals := [], kvs := l } : PS).text = key.drop (headL key).length := by rw [text_m hp]; simp [PS.text, qtext]
          show Calls Tryd.prog 13 #[tv key] w fun e w' => e = .returned (.tuple #[stv 4 0 ({ kind := 4, n := 0, vals := [], kvs := l } : PS).text, .nilIface]) ∧ _
          rw [e]
          exact this

/-- The words of objects have no blank, and are there. -/
theorem obj_words : ∀ kd : Nat, kd < 5 → 1 ≤ kd → (32 : UInt8) ∉ (wrow 1).getD kd [] ∧ (wrow 1).getD kd [] ≠ [] := by decide
theorem head_at {h r : List UInt8} (hh : (32 : UInt8) ∉ h) (hr : r = [] ∨ ∃ x, r = 32 :: x) : headL (h ++ r) = h := by
  unfold headL
  rcases hr with rfl | ⟨x, rfl⟩
  · rw [List.append_nil, ib_miss 32 h hh, if_neg (by decide)]
  · rw [ib_hit 32 x h hh, if_pos (by omega)]
    simp
theorem items_cons (s : List UInt8) : itemsOf (32 :: s) = cutsL s := by unfold itemsOf; rw [if_neg (by simp)]; rfl
theorem cuts_q : ∀ (l : List Int), itemsOf (qtext l) = l.map Lib.itoa
  | [] => rfl
  | [v] => by
    show itemsOf (32 :: (Lib.itoa v ++ [])) = _
    rw [items_cons, List.append_nil, cuts_last _ (itoa_32 v)]; rfl
  | v :: u :: t => by
    have ih : itemsOf (32 :: (Lib.itoa u ++ qtext t)) = _ := cuts_q (u :: t)
    show itemsOf (32 :: (Lib.itoa v ++ 32 :: (Lib.itoa u ++ qtext t))) = _
    rw [items_cons] at ih ⊢
    rw [cuts_more _ _ (itoa_32 v), ih]; rfl
theorem cuts_m : ∀ (l : List (Int × Int)), itemsOf (mtext l) = l.map item
  | [] => rfl
  | [v] => by
    show itemsOf (32 :: (item v ++ [])) = _
    rw [items_cons, List.append_nil, cuts_last _ (item_32 v)]; rfl
  | v :: u :: t => by
    have ih : itemsOf (32 :: (item u ++ mtext t)) = _ := cuts_m (u :: t)
    show itemsOf (32 :: (item v ++ 32 :: (item u ++ mtext t))) = _
    rw [items_cons] at ih ⊢
    rw [cuts_more _ _ (item_32 v), ih]; rfl
theorem valsR_map : ∀ {l : List Int}, (∀ v ∈ l, fits64 v) → valsR (l.map Lib.itoa) = some l
  | [], _ => rfl
  | v :: t, h => by
    rw [List.map_cons, valsR_cons, prn_itoa (h v (by simp))]
    simp only
    rw [valsR_map (fun u hu => h u (by simp [hu]))]; rfl
theorem kvsR_map : ∀ {l : List (Int × Int)} {p : Option Int}, KvFit l → Rises l → (∀ q, p = some q → ∀ x ∈ l, q < x.1) → kvsR p (l.map item) = some l
  | [], _, _, _, _ => by rw [List.map_nil, kvsR]
  | x :: t, p, h, hr, hp => by
    have hx := h x (by simp)
    have hr' := List.pairwise_cons.1 hr
    rw [List.map_cons, kvsR_cons, pairR_item hx.1 hx.2]
    obtain ⟨k, v⟩ := x
    simp only
    have ha : above p k = true := by
      unfold above
      cases p with
      | none => rfl
      | some q => exact decide_eq_true (hp q rfl (k, v) (by simp))
    rw [if_pos ha, kvsR_map (fun y hy => h y (by simp [hy])) hr'.2 (fun q e y hy => by cases e; exact hr'.1 y hy)]; rfl

/-- A state's key tells the state. -/
theorem fromK_of {s : PS} {b : Nat} (h : s.Ok b) : fromK (keyL s) = .ok s := by
  have hk := h.kind
  have hwl : ∀ kd : Nat, kd < 5 → 1 ≤ kd → ∀ r : List UInt8, (r = [] ∨ ∃ x, r = 32 :: x) → headL (wordL 1 kd ++ r) = wordL 1 kd ∧ codeL 1 (headL (wordL 1 kd ++ r)) = some kd ∧ (wordL 1 kd ++ r).drop (headL (wordL 1 kd ++ r)).length = r := fun kd h5 h1 r hr => by
    have e : wordL 1 (kd : Int) = (wrow 1).getD kd [] := wordL_in (t := 1) (by decide) (by omega)
    have ho := obj_words kd h5 h1
    have hh : headL (wordL 1 kd ++ r) = wordL 1 kd := head_at (by rw [e]; exact ho.1) hr
    refine ⟨hh, ?_, ?_⟩
    · rw [hh]
      obtain ⟨k, hk1, hk2⟩ := wordL_code (t := 1) (c := kd) (by rw [e]; exact ho.2)
      have : kd = k := by omega
      rw [this] at hk2 ⊢
      exact hk2
    · rw [hh]; simp
  obtain ⟨kind, n, vals, kvs⟩ := s
  simp only at hk
  have : kind = 1 ∨ kind = 2 ∨ kind = 3 ∨ kind = 4 := by omega
  rcases this with rfl | rfl | rfl | rfl
  · have hv : vals = [] := h.vs (by show ¬ _ = _; simp)
    have hks : kvs = [] := h.ks (by show ¬ _ = _; simp)
    subst hv; subst hks
    have hn := h.reg rfl
    obtain ⟨h1, h2, h3⟩ := hwl 1 (by decide) (by decide) (32 :: Lib.itoa n) (.inr ⟨_, rfl⟩)
    have e : keyL ⟨1, n, [], []⟩ = wordL 1 (1 : Nat) ++ 32 :: Lib.itoa n := rfl
    rw [e, fromK_1 h2, h3]
    show (match prn (Lib.itoa n) with | none => _ | some n => _) = _
    rw [prn_itoa (near_fits hn (by decide))]
    simp only
    rw [if_pos (show nearB n 1000000000 = true from decide_eq_true hn)]
  · have hv : vals = [] := h.vs (by show ¬ _ = _; simp)
    have hks : kvs = [] := h.ks (by show ¬ _ = _; simp)
    subst hv; subst hks
    have hn := h.cnt rfl
    obtain ⟨h1, h2, h3⟩ := hwl 2 (by decide) (by decide) (32 :: Lib.itoa n) (.inr ⟨_, rfl⟩)
    have e : keyL ⟨2, n, [], []⟩ = wordL 1 (2 : Nat) ++ 32 :: Lib.itoa n := rfl
    rw [e, fromK_2 h2, h3]
    show (match prn (Lib.itoa n) with | none => _ | some n => _) = _
    rw [prn_itoa (near_fits hn (by decide))]
    simp only
    rw [if_pos (show nearB n 1000000000000000 = true from decide_eq_true hn)]
  · have hks : kvs = [] := h.ks (by show ¬ _ = _; simp)
    have hn : n = 0 := h.num (.inl rfl)
    subst hks; subst hn
    obtain ⟨h1, h2, h3⟩ := hwl 3 (by decide) (by decide) (qtext vals) (qtext_shape vals)
    have e : keyL ⟨3, 0, vals, []⟩ = wordL 1 (3 : Nat) ++ qtext vals := by
      unfold keyL PS.text
      rw [if_neg (by simp)]
      simp [mtext]
    rw [e, fromK_3 h2, h3, cuts_q, valsR_map (fun v hv => near_fits (h.vb v hv) (by decide))]
    simp only
    rw [if_pos (show vals.all nearV = true from List.all_eq_true.2 fun v hv => decide_eq_true (h.vb v hv))]
  · have hvs : vals = [] := h.vs (by show ¬ _ = _; simp)
    have hn : n = 0 := h.num (.inr rfl)
    subst hvs; subst hn
    obtain ⟨h1, h2, h3⟩ := hwl 4 (by decide) (by decide) (mtext kvs) (mtext_shape kvs)
    have e : keyL ⟨4, 0, [], kvs⟩ = wordL 1 (4 : Nat) ++ mtext kvs := by
      unfold keyL PS.text
      rw [if_neg (by simp)]
      simp [qtext]
    rw [e, fromK_4 h2, h3, cuts_m, kvsR_map (ok_kv h) h.rises (fun q e => by cases e)]
    simp only
    rw [if_pos (show kvs.all inKv = true from List.all_eq_true.2 fun p hp => by
      have := h.kb p hp
      show (decide (0 ≤ p.1) && decide (p.1 ≤ 1000) && nearB p.2 1000000000) = true
      rw [decide_eq_true this.1.1, decide_eq_true this.1.2, show nearB p.2 1000000000 = true from decide_eq_true this.2]; rfl)]
end Go.Proofs.YtgnpcbpbmalgiaaDoor
