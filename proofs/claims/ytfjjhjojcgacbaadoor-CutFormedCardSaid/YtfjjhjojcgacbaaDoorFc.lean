/- Plain: runs, but for places; runs of some transactions alone. -/
import Derived.Test.YtfjjhjojcgacbaaDoorFb
namespace Go.Proofs.YtfjjhjojcgacbaaDoor

/-- What an event makes of views. -/
def absStep (vs : List Vw) (e : Ev) : Option (List Vw) := match vs.find? (fun v => v.id == e.tx) with
  | none => if e.kind = 1 ∧ (∀ v ∈ vs, v.phase ≠ 16 → v.thread.toNat ≠ e.thread.toNat) then some (vs ++ [⟨e.tx, e.thread, 1, 1, []⟩]) else none
  | some v => if e.kind = 1 then none else (effV e v).map fun u => vs.map fun q => if q.id = e.tx then u else q
def absRun (vs : List Vw) : List Ev → Option (List Vw)
  | [] => some vs
  | e :: es => (absStep vs e).bind fun vs => absRun vs es
def views (s : St) : List Vw := s.recs.map Rec.vw
theorem views_look (x : Int) (rs : List Rec) : (rs.map Rec.vw).find? (fun v => v.id == x) = (lookR x rs).map Rec.vw := by
  rw [List.find?_map]
  rfl
theorem lookR_id {x : Int} {rs : List Rec} {r : Rec} (h : lookR x rs = some r) : r.id = x := by
  have := List.find?_some h
  simpa using this
theorem evOk_iff {os : List (Int × Int)} {e : Ev} : evOk os e = true ↔ validN e = 0 ∧ calledOk os e = true := by
  show (validN e == 0 && calledOk os e) = true ↔ _
  rw [Bool.and_eq_true, beq_iff_eq]
/-- A step, taken apart. -/
theorem stepZ_inv {os : List (Int × Int)} {s s' : St} {e : Ev} (h : stepZ os s e = some s') : (s.taken < 400 ∧ evOk os e = true) ∧
    ((e.kind = 1 ∧ lookR e.tx s.recs = none ∧ s.busy.getD e.thread.toNat none = none ∧ (0 ≤ e.thread ∧ e.thread < 8) ∧ s' = ⟨s.recs ++ [⟨e.tx, e.thread, 1, (s.taken : Int), -1, -1, [], 1⟩], s.busy.set e.thread.toNat (some s.recs.length), s.taken + 1⟩) ∨
    (e.kind ≠ 1 ∧ ∃ i r r', s.recs[i]? = some r ∧ r.id = e.tx ∧ lookR e.tx s.recs = some r ∧ RecStep e s.taken r r' ∧ s' = ⟨s.recs.set i r', if e.kind = 5 ∨ e.kind = 6 then s.busy.set r.thread.toNat none else s.busy, s.taken + 1⟩)) := by
  unfold stepZ at h
  split at h
  · rename_i hc
    refine ⟨⟨hc.1, evOk_iff.2 hc.2⟩, ?_⟩
    obtain ⟨s1, h1, rfl⟩ := Option.map_eq_some_iff.1 h
    unfold effZ at h1
    split at h1
    · rename_i hk
      split at h1
      · cases h1
      · rename_i hf
        split at h1
        · rename_i hb
          injection h1 with h1
          subst h1
          rcases findR_look e.tx s.recs 0 with ⟨-, h2⟩ | ⟨k, r, h2, -⟩
          · exact .inl ⟨hk, h2, hb, validN_thread hc.2.1 hk, rfl⟩
          · rw [h2] at hf; cases hf
        · cases h1
    · rename_i hk
      refine .inr ⟨hk, ?_⟩
      split at h1
      · cases h1
      · rename_i i hf
        split at h1
        · cases h1
        · rename_i r hr
          obtain ⟨r', rfl, hs⟩ := effR_vw h1
          rcases findR_look e.tx s.recs 0 with ⟨h2, -⟩ | ⟨k, q, h2, h3, h4, h5⟩
          · rw [h2] at hf; cases hf
          · rw [h2] at hf
            injection hf with hf
            rw [Nat.zero_add] at hf
            subst hf
            rw [hr] at h3
            injection h3 with h3
            subst h3
            exact ⟨k, r, r', hr, h4, h5, hs, rfl⟩
  · cases h
theorem stepZ_bz {os : List (Int × Int)} {s s' : St} {e : Ev} (ho : s.Ok) (hb : s.Bz) (h : stepZ os s e = some s') : s'.Bz := by
  obtain ⟨-, ⟨-, -, h1, h2, rfl⟩ | ⟨-, i, r, r', h1, -, -, h2, rfl⟩⟩ := stepZ_inv h
  · exact hb.begin ho (r := ⟨e.tx, e.thread, 1, (s.taken : Int), -1, -1, [], 1⟩) (by show e.thread.toNat < 8; omega) h1 (by show (1 : Int) ≠ 16; decide)
  · exact hb.next ho h1 h2
theorem stepZ_taken {os : List (Int × Int)} {s s' : St} {e : Ev} (h : stepZ os s e = some s') : s'.taken = s.taken + 1 := by
  obtain ⟨-, ⟨-, -, h1, h2, rfl⟩ | ⟨-, i, r, r', h1, -, -, h2, rfl⟩⟩ := stepZ_inv h <;> rfl
theorem views_set {rs : List Rec} (hn : (rs.map (·.id)).Nodup) {i : Nat} {r r' : Rec} (hi : rs[i]? = some r) : (rs.set i r').map Rec.vw = (rs.map Rec.vw).map fun q => if q.id = r.id then r'.vw else q := by
  rw [set_upd hn r' hi, List.map_map, List.map_map]
  apply List.map_congr_left
  intro q _
  show (if q.id = r.id then r' else q).vw = if q.id = r.id then r'.vw else q.vw
  split <;> rfl
theorem step_abs {os : List (Int × Int)} {s : St} {e : Ev} (ho : s.Ok) (hb : s.Bz) (hc : s.taken < 400 ∧ evOk os e = true) : (stepZ os s e).map views = absStep (views s) e := by
  cases hs : stepZ os s e with
  | some s' =>
    show some (views s') = _
    obtain ⟨-, ⟨hk, h0, h1, h2, rfl⟩ | ⟨hk, i, r, r', h1, hid, h0, h2, rfl⟩⟩ := stepZ_inv hs
    · unfold absStep views
      rw [views_look, h0]
      show _ = if _ then _ else _
      rw [if_pos]
      · rw [List.map_append]; rfl
      · refine ⟨hk, fun v hv => ?_⟩
        obtain ⟨r, hr, rfl⟩ := List.mem_map.1 hv
        exact (hb.free _).1 h1 r hr
    · unfold absStep views
      rw [views_look, h0]
      show _ = if e.kind = 1 then none else (effV e r.vw).map _
      rw [if_neg hk, h2.vw, views_set ho.ids h1, hid]
      rfl
  | none =>
    cases hA : absStep (views s) e with
    | none => rfl
    | some vs =>
      exfalso
      have hz : stepZ os s e = (effZ s e).map fun s => { s with taken := s.taken + 1 } := by unfold stepZ; rw [if_pos ⟨hc.1, evOk_iff.1 hc.2⟩]
      rw [hz, Option.map_eq_none_iff] at hs
      unfold absStep views at hA
      rw [views_look] at hA
      rcases findR_look e.tx s.recs 0 with ⟨h1, h2⟩ | ⟨k, r, h1, h2, h3, h4⟩
      · rw [h2] at hA
        replace hA : (if e.kind = 1 ∧ (∀ v ∈ s.recs.map Rec.vw, v.phase ≠ 16 → v.thread.toNat ≠ e.thread.toNat) then some (s.recs.map Rec.vw ++ [⟨e.tx, e.thread, 1, 1, []⟩]) else none) = some vs := hA
        split at hA
        · rename_i hq
          have hf : s.busy.getD e.thread.toNat none = none := (hb.free _).2 fun r hr hp => hq.2 r.vw (List.mem_map.2 ⟨r, hr, rfl⟩) hp
          unfold effZ at hs
          rw [if_pos hq.1, h1] at hs
          simp only [hf, if_true] at hs
          cases hs
        · cases hA
      · rw [h4] at hA
        replace hA : (if e.kind = 1 then none else (effV e r.vw).map fun u => (s.recs.map Rec.vw).map fun q => if q.id = e.tx then u else q) = some vs := hA
        split at hA
        · cases hA
        · rename_i hk
          obtain ⟨u, hu, -⟩ := Option.map_eq_some_iff.1 hA
          obtain ⟨s', hs'⟩ := effR_of (s := s) (i := k) hu
          unfold effZ at hs
          rw [if_neg hk, h1, Nat.zero_add] at hs
          simp only [h2, hs'] at hs
          cases hs
theorem run_abs {os : List (Int × Int)} : ∀ (es : List Ev) (s : St), s.Ok → s.Bz → s.taken + es.length ≤ 400 → (∀ e ∈ es, evOk os e = true) → (runZ os s es).map views = absRun (views s) es
  | [], s, _, _, _, _ => rfl
  | e :: es, s, ho, hb, ht, hv => by
    rw [List.length_cons] at ht
    have h := step_abs ho hb ⟨by omega, hv e (List.mem_cons_self ..)⟩
    show ((stepZ os s e).bind fun s => runZ os s es).map views = (absStep (views s) e).bind fun vs => absRun vs es
    rw [← h]
    cases hs : stepZ os s e with
    | none => rfl
    | some s' =>
      exact run_abs es s' (stepZ_ok ho hs) (stepZ_bz ho hb hs) (by rw [stepZ_taken hs]; omega) fun x hx => hv x (List.mem_cons_of_mem _ hx)
theorem hisOk_ev {os : List (Int × Int)} {es : List Ev} (h : hisOk os es = true) : ∀ e ∈ es, evOk os e = true := by
  unfold hisOk at h
  simp only [Bool.and_eq_true, decide_eq_true_eq] at h
  exact List.all_eq_true.1 h.2.2.2
theorem tab_abs {os : List (Int × Int)} {es : List Ev} (h : hisOk os es = true) : (tabZ os es).map views = absRun [] es := by
  unfold tabZ
  rw [if_pos h]
  exact run_abs es St.zero St.zero_ok St.zero_bz (by show 0 + es.length ≤ 400; have := (hisOk_len h).2; omega) (hisOk_ev h)
theorem tab_of {os : List (Int × Int)} {es : List Ev} {vs : List Vw} (h : hisOk os es = true) (hr : absRun [] es = some vs) : ∃ s, tabZ os es = some s ∧ views s = vs := by
  rw [← tab_abs h] at hr
  exact Option.map_eq_some_iff.1 hr
theorem tab_run {os : List (Int × Int)} {es : List Ev} {s : St} (h : tabZ os es = some s) : absRun [] es = some (views s) := by
  rw [← tab_abs (tabZ_his h), h]
  rfl
theorem absRun_append : ∀ (l l' : List Ev) (vs : List Vw), absRun vs (l ++ l') = (absRun vs l).bind fun vs => absRun vs l'
  | [], _, _ => rfl
  | e :: l, l', vs => by
    show (absStep vs e).bind (fun vs => absRun vs (l ++ l')) = ((absStep vs e).bind fun vs => absRun vs l).bind _
    cases absStep vs e with
    | none => rfl
    | some s1 => exact absRun_append l l' s1
theorem hisOk_sub {os : List (Int × Int)} {es es' : List Ev} (h : hisOk os es = true) (hm : ∀ e ∈ es', e ∈ es) (hl : es'.length ≤ es.length) : hisOk os es' = true := by
  have he := hisOk_ev h
  have hn := hisOk_len h
  unfold hisOk at h ⊢
  simp only [Bool.and_eq_true, decide_eq_true_eq] at h ⊢
  exact ⟨hn.1, by omega, h.2.2.1, List.all_eq_true.2 fun e h => he e (hm e h)⟩
/-- A prefix is well-formed. -/
theorem form_prefix {os : List (Int × Int)} {es : List Ev} {s : St} (h : tabZ os es = some s) (k : Nat) : (tabZ os (es.take k)).isSome = true := by
  have hh := hisOk_sub (es' := es.take k) (tabZ_his h) (fun e he => List.mem_of_mem_take he) (List.length_take_le' ..)
  have hr := tab_run h
  rw [← List.take_append_drop k es, absRun_append] at hr
  cases hk : absRun [] (es.take k) with
  | none => rw [hk] at hr; cases hr
  | some vs =>
    obtain ⟨s', h1, -⟩ := tab_of hh hk
    rw [h1]
    rfl
theorem map_upd_filter (p : Int → Bool) (x : Int) {u : Vw} (hu : u.id = x) (vs : List Vw) : (vs.map fun q => if q.id = x then u else q).filter (fun v => p v.id) = (vs.filter fun v => p v.id).map fun q => if q.id = x then u else q := by
  rw [List.filter_map]
  congr 1
  apply List.filter_congr
  intro q _
  show p (if q.id = x then u else q).id = p q.id
  split
  · rename_i h; rw [hu, h]
  · rfl
/-- Some transactions alone. -/
theorem abs_filter (p : Int → Bool) {vs vs' : List Vw} {e : Ev} (h : absStep vs e = some vs') :
    (p e.tx = true → absStep (vs.filter fun v => p v.id) e = some (vs'.filter fun v => p v.id)) ∧ (p e.tx = false → vs'.filter (fun v => p v.id) = vs.filter fun v => p v.id) := by
  unfold absStep at h
  cases hf : vs.find? (fun v => v.id == e.tx) with
  | none =>
    rw [hf] at h
    replace h : (if e.kind = 1 ∧ (∀ v ∈ vs, v.phase ≠ 16 → v.thread.toNat ≠ e.thread.toNat) then some (vs ++ [⟨e.tx, e.thread, 1, 1, []⟩]) else none) = some vs' := h
    split at h
    · rename_i hc
      injection h with h
      subst h
      constructor
      · intro hp
        have hf2 : (vs.filter fun v => p v.id).find? (fun v => v.id == e.tx) = none := by
          rw [List.find?_eq_none] at hf ⊢
          intro v hv
          exact hf v (List.mem_filter.1 hv).1
        unfold absStep
        rw [hf2]
        show (if _ then _ else _) = _
        rw [if_pos ⟨hc.1, fun v hv => hc.2 v (List.mem_filter.1 hv).1⟩, List.filter_append]
        simp [hp]
      · intro hp
        rw [List.filter_append]
        simp [hp]
    · cases h
  | some v =>
    rw [hf] at h
    replace h : (if e.kind = 1 then none else (effV e v).map fun u => vs.map fun q => if q.id = e.tx then u else q) = some vs' := h
    have hv : v.id = e.tx := by simpa using List.find?_some hf
    split at h
    · cases h
    · rename_i hk
      obtain ⟨u, hu, rfl⟩ := Option.map_eq_some_iff.1 h
      have hui : u.id = e.tx := (effV_id hu).trans hv
      rw [map_upd_filter p e.tx hui]
      constructor
      · intro hp
        have hf2 : (vs.filter fun v => p v.id).find? (fun v => v.id == e.tx) = some v := by
          rw [List.find?_filter, ← hf]
          congr 1
          funext q
          by_cases hq : q.id = e.tx
          · rw [hq, hp]; simp
          · have : (q.id == e.tx) = false := by simp [hq]
            rw [this]; simp
        unfold absStep
        rw [hf2]
        show (if e.kind = 1 then none else (effV e v).map _) = _
        rw [if_neg hk, hu]
        rfl
      · intro hp
        conv => rhs; rw [← List.map_id (vs.filter fun v => p v.id)]
        apply List.map_congr_left
        intro q hq
        have hq2 : p q.id = true := by simpa using (List.mem_filter.1 hq).2
        rw [if_neg (fun e => by rw [e, hp] at hq2; cases hq2)]
        rfl
theorem run_filter (p : Int → Bool) : ∀ (es : List Ev) (vs vs' : List Vw), absRun vs es = some vs' → absRun (vs.filter fun v => p v.id) (es.filter fun e => p e.tx) = some (vs'.filter fun v => p v.id)
  | [], vs, vs', h => by
    injection h with h
    subst h
    rfl
  | e :: es, vs, vs', h => by
    obtain ⟨v1, h1, h2⟩ := Option.bind_eq_some_iff.1 (show (absStep vs e).bind (fun vs => absRun vs es) = some vs' from h)
    have ih := run_filter p es v1 vs' h2
    obtain ⟨g1, g2⟩ := abs_filter p h1
    rw [List.filter_cons]
    cases hp : p e.tx with
    | true =>
      rw [if_pos rfl]
      show (absStep _ e).bind _ = _
      rw [g1 hp]
      exact ih
    | false =>
      rw [if_neg (by simp), ← g2 hp]
      exact ih
/-- Some transactions alone are well-formed, and stand as they stood. -/
theorem form_only {os : List (Int × Int)} {es : List Ev} {s : St} (h : tabZ os es = some s) (p : Int → Bool) : ∃ s', tabZ os (es.filter fun e => p e.tx) = some s' ∧ views s' = (views s).filter fun v => p v.id := by
  refine tab_of (hisOk_sub (tabZ_his h) (fun e he => (List.mem_filter.1 he).1) (List.length_filter_le ..)) ?_
  exact run_filter p es [] _ (tab_run h)
theorem named_mono : ∀ (es : List Ev) (N : Nat), N ≤ es.foldl namedS N
  | [], N => Nat.le_refl _
  | e :: es, N => by
    rw [List.foldl_cons]
    refine Nat.le_trans ?_ (named_mono es _)
    unfold namedS
    split <;> omega
theorem named_has : ∀ (es : List Ev) (N : Nat) (e : Ev), e ∈ es → e.kind = 2 → e.obj.toNat + 1 ≤ es.foldl namedS N
  | x :: es, N, e, he, hk => by
    rw [List.foldl_cons]
    rcases List.mem_cons.1 he with rfl | he
    · refine Nat.le_trans ?_ (named_mono es _)
      unfold namedS
      rw [if_pos hk]
      omega
    · exact named_has es _ e he hk
/-- Without the objects that no call names it is well-formed. -/
theorem form_spare {os : List (Int × Int)} {es : List Ev} {s : St} (h : tabZ os es = some s) : (tabZ (os.take (namedZ es)) es).isSome = true := by
  have hh := tabZ_his h
  have ho := hisOk_obj hh
  have he := hisOk_ev hh
  have hn := hisOk_len hh
  have h2 : hisOk (os.take (namedZ es)) es = true := by
    have hh2 := hh
    unfold hisOk at hh2 ⊢
    simp only [Bool.and_eq_true, decide_eq_true_eq] at hh2 ⊢
    refine ⟨by rw [List.length_take]; omega, hn.2, List.all_eq_true.2 fun o h => List.all_eq_true.1 hh2.2.2.1 o (List.mem_of_mem_take h), List.all_eq_true.2 fun e h => ?_⟩
    have h1 := he e h
    rw [evOk_iff] at h1 ⊢
    refine ⟨h1.1, ?_⟩
    have hc := h1.2
    unfold calledOk at hc ⊢
    by_cases hk : e.kind = 2
    · have h3 := ho e h hk
      have h4 := named_has es 0 e h hk
      have e1 : (os.take (namedZ es)).getD e.obj.toNat (0, 0) = os.getD e.obj.toNat (0, 0) := by
        rw [List.getD_eq_getElem?_getD, List.getD_eq_getElem?_getD, List.getElem?_take, if_pos (by show e.obj.toNat < namedZ es; unfold namedZ; omega)]
      have e2 : decide (e.obj < ((os.take (namedZ es)).length : Int)) = true := by
        rw [decide_eq_true_eq, List.length_take]
        unfold namedZ
        omega
      have e3 : decide (e.obj < (os.length : Int)) = true := by rw [decide_eq_true_eq]; exact h3.2
      rw [e1, e2]
      rw [e3] at hc
      exact hc
    · have : (e.kind == 2) = false := by simp [hk]
      rw [this]
      rfl
  obtain ⟨s', h1, -⟩ := tab_of h2 (tab_run h)
  rw [h1]
  rfl
end Go.Proofs.YtfjjhjojcgacbaaDoor
