/- Plain: the automaton's step, but for places. -/
import Derived.Test.YtfjjhjojcgacbaaDoorM8
namespace Go.Proofs.YtfjjhjojcgacbaaDoor

/-- What a record looks like, but for places. -/
structure Vw where
  id : Int
  thread : Int
  status : Int
  phase : Int
  ops : List Int
def Rec.vw (r : Rec) : Vw := ⟨r.id, r.thread, r.status, r.phase, r.ds.map (·.op)⟩
/-- What an event makes of it. -/
def effV (e : Ev) (v : Vw) : Option Vw :=
  if e.kind = 2 then if v.phase = 1 then some { v with phase := 2, ops := v.ops ++ [e.op] } else none
  else if e.kind = 3 then if v.phase = 2 then (match v.ops.getLast? with
    | some o => if fitsZ o e.ret then some { v with phase := 1 } else none
    | none => none) else none
  else if e.kind = 4 then if v.phase = 1 then some { v with phase := 4, status := 2 } else none
  else if e.kind = 5 then if v.phase = 4 then some { v with phase := 16, status := 3 } else none
  else if e.kind = 6 then if v.phase = 16 then none else some { v with phase := 16, status := 4 }
  else if v.phase = 1 then some { v with phase := 8 } else none
theorem effV_id {e : Ev} {v u : Vw} (h : effV e v = some u) : u.id = v.id := by
  unfold effV at h
  repeat' split at h
  all_goals first
    | (injection h with h; subst h; rfl)
    | cases h
/-- What an event does to a record's deeds. -/
def DeedStep (e : Ev) (t : Nat) (r r' : Rec) : Prop :=
  (e.kind = 2 ∧ r.phase = 1 ∧ r'.phase = 2 ∧ r'.ds = r.ds ++ [⟨e.obj, e.op, e.key, e.val, 0, 0, (t : Int), -1⟩]) ∨
  (e.kind = 3 ∧ r.phase = 2 ∧ r'.phase = 1 ∧ ∃ d, r.ds.getLast? = some d ∧ r'.ds = r.ds.dropLast ++ [{ d with ret := e.ret, got := e.val, back := (t : Int) }]) ∨
  (e.kind ≠ 2 ∧ e.kind ≠ 3 ∧ r'.ds = r.ds ∧ r'.phase ≠ 2)
/-- What holds of a record before and behind an event. -/
structure RecStep (e : Ev) (t : Nat) (r r' : Rec) : Prop where
  vw : effV e r.vw = some r'.vw
  id : r'.id = r.id
  thread : r'.thread = r.thread
  was : r.phase ≠ 16
  ends : r'.phase = 16 ↔ (e.kind = 5 ∨ e.kind = 6)
  deeds : DeedStep e t r r'
theorem last_ops {ds : List Deed} {d d' : Deed} (h : ds.getLast? = some d) (ho : d'.op = d.op) : (ds.dropLast ++ [d']).map (·.op) = ds.map (·.op) := by
  obtain ⟨l, rfl⟩ := List.getLast?_eq_some_iff.1 h
  simp [ho]
theorem effR_vw {s s' : St} {e : Ev} {i : Nat} {r : Rec} (h : effR s e i r = some s') :
    ∃ r', s' = ⟨s.recs.set i r', if e.kind = 5 ∨ e.kind = 6 then s.busy.set r.thread.toNat none else s.busy, s.taken⟩ ∧ RecStep e s.taken r r' := by
  unfold effR at h
  split at h
  · rename_i hk
    split at h
    · rename_i hp
      injection h with h
      subst h
      refine ⟨{ r with phase := 2, ds := r.ds ++ [⟨e.obj, e.op, e.key, e.val, 0, 0, (s.taken : Int), -1⟩] }, by rw [if_neg (by omega)], ?_, rfl, rfl, by omega, ⟨fun h => by simp at h, fun h => by omega⟩, .inl ⟨hk, hp, rfl, rfl⟩⟩
      simp [effV, hk, Rec.vw, hp]
    · cases h
  · rename_i hk2
    split at h
    · rename_i hk
      split at h
      · rename_i hp
        split at h
        · rename_i d hd
          split at h
          · rename_i hf
            injection h with h
            subst h
            refine ⟨{ r with phase := 1, ds := r.ds.dropLast ++ [{ d with ret := e.ret, got := e.val, back := (s.taken : Int) }] }, by rw [if_neg (by omega)], ?_, rfl, rfl, by omega, ⟨fun h => by simp at h, fun h => by omega⟩, .inr (.inl ⟨hk, hp, rfl, d, hd, rfl⟩)⟩
            have e2 : (r.ds.dropLast ++ [{ d with ret := e.ret, got := e.val, back := (s.taken : Int) }]).map Deed.op = r.ds.map Deed.op := last_ops hd rfl
            show effV e r.vw = some ⟨r.id, r.thread, r.status, 1, (r.ds.dropLast ++ [{ d with ret := e.ret, got := e.val, back := (s.taken : Int) }]).map Deed.op⟩
            rw [e2]
            simp [effV, hk, Rec.vw, hp, hd, hf]
          · cases h
        · cases h
      · cases h
    · rename_i hk3
      split at h
      · rename_i hk
        split at h
        · rename_i hp
          injection h with h
          subst h
          refine ⟨{ r with phase := 4, status := 2, tri := (s.taken : Int) }, by rw [if_neg (by omega)], ?_, rfl, rfl, by omega, ⟨fun h => by simp at h, fun h => by omega⟩, .inr (.inr ⟨hk2, hk3, rfl, by simp⟩)⟩
          simp [effV, hk, Rec.vw, hp]
        · cases h
      · rename_i hk4
        split at h
        · rename_i hk
          split at h
          · rename_i hp
            injection h with h
            subst h
            refine ⟨{ r with phase := 16, status := 3, fin := (s.taken : Int) }, by rw [if_pos (.inl hk)], ?_, rfl, rfl, by omega, ⟨fun _ => .inl hk, fun _ => rfl⟩, .inr (.inr ⟨hk2, hk3, rfl, by simp⟩)⟩
            simp [effV, hk, Rec.vw, hp]
          · cases h
        · rename_i hk5
          split at h
          · rename_i hk
            split at h
            · cases h
            · rename_i hp
              injection h with h
              subst h
              refine ⟨{ r with phase := 16, status := 4, fin := (s.taken : Int) }, by rw [if_pos (.inr hk)], ?_, rfl, rfl, hp, ⟨fun _ => .inr hk, fun _ => rfl⟩, .inr (.inr ⟨hk2, hk3, rfl, by simp⟩)⟩
              simp [effV, hk, Rec.vw, hp]
          · rename_i hk6
            split at h
            · rename_i hp
              injection h with h
              subst h
              refine ⟨{ r with phase := 8 }, by rw [if_neg (by omega)], ?_, rfl, rfl, by omega, ⟨fun h => by simp at h, fun h => by omega⟩, .inr (.inr ⟨hk2, hk3, rfl, by simp⟩)⟩
              simp [effV, hk2, hk3, hk4, hk5, hk6, Rec.vw, hp]
            · cases h
theorem effR_of {s : St} {e : Ev} {i : Nat} {r : Rec} {u : Vw} (h : effV e r.vw = some u) : ∃ s', effR s e i r = some s' := by
  have e0 : r.vw.ops.getLast? = r.ds.getLast?.map (·.op) := List.getLast?_map
  unfold effV at h
  unfold effR
  by_cases h2 : e.kind = 2
  · rw [if_pos h2] at h ⊢
    by_cases hp : r.phase = 1
    · exact ⟨_, if_pos hp⟩
    · rw [if_neg (show ¬ r.vw.phase = 1 from hp)] at h; cases h
  rw [if_neg h2] at h ⊢
  by_cases h3 : e.kind = 3
  · rw [if_pos h3] at h ⊢
    by_cases hp : r.phase = 2
    · rw [if_pos (show r.vw.phase = 2 from hp)] at h
      rw [if_pos hp]
      cases hd : r.ds.getLast? with
      | none => rw [e0, hd] at h; cases h
      | some d =>
        rw [e0, hd] at h
        by_cases hf : fitsZ d.op e.ret = true
        · exact ⟨_, if_pos hf⟩
        · exact absurd (show (if fitsZ d.op e.ret = true then _ else none) = some u from h) (by rw [if_neg hf]; intro h; cases h)
    · rw [if_neg (show ¬ r.vw.phase = 2 from hp)] at h; cases h
  rw [if_neg h3] at h ⊢
  by_cases h4 : e.kind = 4
  · rw [if_pos h4] at h ⊢
    by_cases hp : r.phase = 1
    · exact ⟨_, if_pos hp⟩
    · rw [if_neg (show ¬ r.vw.phase = 1 from hp)] at h; cases h
  rw [if_neg h4] at h ⊢
  by_cases h5 : e.kind = 5
  · rw [if_pos h5] at h ⊢
    by_cases hp : r.phase = 4
    · exact ⟨_, if_pos hp⟩
    · rw [if_neg (show ¬ r.vw.phase = 4 from hp)] at h; cases h
  rw [if_neg h5] at h ⊢
  by_cases h6 : e.kind = 6
  · rw [if_pos h6] at h ⊢
    by_cases hp : r.phase = 16
    · rw [if_pos (show r.vw.phase = 16 from hp)] at h; cases h
    · exact ⟨_, if_neg hp⟩
  rw [if_neg h6] at h ⊢
  by_cases hp : r.phase = 1
  · exact ⟨_, if_pos hp⟩
  · rw [if_neg (show ¬ r.vw.phase = 1 from hp)] at h; cases h

/-- The first record of that number. -/
def lookR (x : Int) (rs : List Rec) : Option Rec := rs.find? fun r => r.id == x
theorem findR_look (x : Int) : ∀ (rs : List Rec) (i : Nat), (findR x rs i = none ∧ lookR x rs = none) ∨ ∃ k r, findR x rs i = some (i + k) ∧ rs[k]? = some r ∧ r.id = x ∧ lookR x rs = some r
  | [], i => .inl ⟨rfl, rfl⟩
  | r :: rs, i => by
    by_cases h : r.id = x
    · refine .inr ⟨0, r, ?_, rfl, h, ?_⟩
      · unfold findR; rw [if_pos h]; rfl
      · unfold lookR; rw [List.find?_cons, show (r.id == x) = true from by simp [h]]
    · have e1 : findR x (r :: rs) i = findR x rs (i + 1) := by conv => lhs; unfold findR; rw [if_neg h]
      have e2 : lookR x (r :: rs) = lookR x rs := by unfold lookR; rw [List.find?_cons, show (r.id == x) = false from by simp [h]]
      rw [e1, e2]
      rcases findR_look x rs (i + 1) with h | ⟨k, q, h1, h2, h3⟩
      · exact .inl h
      · exact .inr ⟨k + 1, q, by rw [h1]; congr 1; omega, by simpa using h2, h3⟩
/-- A record set where it stands, by its number. -/
theorem set_upd {rs : List Rec} (hn : (rs.map (·.id)).Nodup) {i : Nat} {r : Rec} (r' : Rec) (hi : rs[i]? = some r) : rs.set i r' = rs.map fun q => if q.id = r.id then r' else q := by
  apply List.ext_getElem?
  intro j
  rw [List.getElem?_set, List.getElem?_map]
  have hil := (List.getElem?_eq_some_iff.1 hi).1
  by_cases hj : i = j
  · subst hj
    rw [if_pos rfl, if_pos hil, hi]
    simp
  · rw [if_neg hj]
    cases hq : rs[j]? with
    | none => rfl
    | some q =>
      have hne : q.id ≠ r.id := by
        intro e
        have h1 : (rs.map (·.id))[i]? = some r.id := by rw [List.getElem?_map, hi]; rfl
        have h2 : (rs.map (·.id))[j]? = some r.id := by rw [List.getElem?_map, hq, ← e]; rfl
        exact hj ((List.getElem?_inj (by simpa using hil) hn).1 (h1.trans h2.symm))
      simp [hne]

/-- Who is at work: each record that has not ended, and no other, is its thread's. -/
structure St.Bz (s : St) : Prop where
  on : ∀ i r, s.recs[i]? = some r → r.phase ≠ 16 → s.busy.getD r.thread.toNat none = some i
  of : ∀ j i, s.busy.getD j none = some i → ∃ r, s.recs[i]? = some r ∧ r.phase ≠ 16 ∧ r.thread.toNat = j
theorem St.zero_bz : St.zero.Bz := by
  refine ⟨fun i r h => by simp [St.zero] at h, fun j i h => ?_⟩
  exfalso
  revert h
  simp only [St.zero]
  rcases j with _ | _ | _ | _ | _ | _ | _ | _ | j <;> simp
theorem getD_set (l : List (Option Nat)) (k j : Nat) (x : Option Nat) (hk : k < l.length) : (l.set k x).getD j none = if k = j then x else l.getD j none := by
  rw [List.getD_eq_getElem?_getD, List.getElem?_set, List.getD_eq_getElem?_getD]
  by_cases h : k = j
  · rw [if_pos h, if_pos hk, if_pos h]; rfl
  · rw [if_neg h, if_neg h]
theorem St.Bz.begin {s : St} (h : s.Bz) (ho : s.Ok) {r : Rec} {n : Nat} (hj : r.thread.toNat < 8) (hf : s.busy.getD r.thread.toNat none = none) (hr : r.phase ≠ 16) : St.Bz ⟨s.recs ++ [r], s.busy.set r.thread.toNat (some s.recs.length), n⟩ := by
  have hl : r.thread.toNat < s.busy.length := by rw [ho.busyL]; exact hj
  refine ⟨fun i q hi hq => ?_, fun j i hi => ?_⟩
  · show (s.busy.set _ _).getD _ _ = _
    rw [getD_set _ _ _ _ hl]
    by_cases hlt : i < s.recs.length
    · rw [List.getElem?_append_left hlt] at hi
      have h1 := h.on i q hi hq
      rw [if_neg (fun e => by rw [e, h1] at hf; cases hf), h1]
    · rw [List.getElem?_append_right (by omega)] at hi
      have : i = s.recs.length := by
        have := (List.getElem?_eq_some_iff.1 hi).1
        simp at this
        omega
      subst this
      simp at hi
      rw [if_pos (by rw [hi])]
  · replace hi : (s.busy.set _ _).getD _ _ = _ := hi
    rw [getD_set _ _ _ _ hl] at hi
    by_cases e : r.thread.toNat = j
    · rw [if_pos e] at hi
      injection hi with hi
      subst hi
      exact ⟨r, by simp, hr, e⟩
    · rw [if_neg e] at hi
      obtain ⟨q, h1, h2⟩ := h.of j i hi
      exact ⟨q, by show (s.recs ++ [r])[i]? = _; rw [List.getElem?_append_left (List.getElem?_eq_some_iff.1 h1).1]; exact h1, h2⟩
theorem St.Bz.next {s : St} (h : s.Bz) (ho : s.Ok) {i : Nat} {r r' : Rec} {e : Ev} {t n : Nat} (hi : s.recs[i]? = some r) (hs : RecStep e t r r') : St.Bz ⟨s.recs.set i r', if e.kind = 5 ∨ e.kind = 6 then s.busy.set r.thread.toNat none else s.busy, n⟩ := by
  have hil := (List.getElem?_eq_some_iff.1 hi).1
  have hth := (ho.recs r (List.mem_of_getElem? hi)).thread
  have hl : r.thread.toNat < s.busy.length := by rw [ho.busyL]; omega
  have hon := h.on i r hi hs.was
  by_cases hk : e.kind = 5 ∨ e.kind = 6
  · rw [if_pos hk]
    refine ⟨fun j q hj hq => ?_, fun j k hj => ?_⟩
    · replace hj : (s.recs.set i r')[j]? = _ := hj
      show (s.busy.set _ _).getD _ _ = _
      rw [List.getElem?_set] at hj
      by_cases e1 : i = j
      · rw [if_pos e1, if_pos hil] at hj
        injection hj with hj
        subst hj
        exact absurd (hs.ends.2 hk) hq
      · rw [if_neg e1] at hj
        have h1 := h.on j q hj hq
        rw [getD_set _ _ _ _ hl, if_neg (fun e2 => by rw [e2, h1] at hon; injection hon with hon; exact e1 hon.symm), h1]
    · replace hj : (s.busy.set _ _).getD _ _ = _ := hj
      rw [getD_set _ _ _ _ hl] at hj
      split at hj
      · cases hj
      · rename_i e1
        obtain ⟨q, h1, h2, h3⟩ := h.of j k hj
        refine ⟨q, ?_, h2, h3⟩
        show (s.recs.set i r')[k]? = _
        rw [List.getElem?_set, if_neg (fun e2 => by subst e2; rw [hi] at h1; injection h1 with h1; subst h1; exact e1 h3)]
        exact h1
  · rw [if_neg hk]
    refine ⟨fun j q hj hq => ?_, fun j k hj => ?_⟩
    · replace hj : (s.recs.set i r')[j]? = _ := hj
      show s.busy.getD _ _ = _
      rw [List.getElem?_set] at hj
      by_cases e1 : i = j
      · rw [if_pos e1, if_pos hil] at hj
        injection hj with hj
        subst hj
        subst e1
        rw [hs.thread]
        exact hon
      · rw [if_neg e1] at hj
        exact h.on j q hj hq
    · obtain ⟨q, h1, h2, h3⟩ := h.of j k hj
      by_cases e1 : i = k
      · subst e1
        rw [hi] at h1
        injection h1 with h1
        subst h1
        refine ⟨r', ?_, fun e2 => hk (hs.ends.1 e2), by rw [hs.thread]; exact h3⟩
        show (s.recs.set i r')[i]? = _
        rw [List.getElem?_set, if_pos rfl, if_pos hil]
      · refine ⟨q, ?_, h2, h3⟩
        show (s.recs.set i r')[k]? = _
        rw [List.getElem?_set, if_neg e1]
        exact h1
theorem St.Bz.free {s : St} (h : s.Bz) (j : Nat) : s.busy.getD j none = none ↔ ∀ r ∈ s.recs, r.phase ≠ 16 → r.thread.toNat ≠ j := by
  constructor
  · intro hf r hr hp e
    obtain ⟨i, hi⟩ := List.getElem?_of_mem hr
    have := h.on i r hi hp
    rw [e, hf] at this
    cases this
  · intro hf
    cases hb : s.busy.getD j none with
    | none => rfl
    | some i =>
      obtain ⟨r, h1, h2, h3⟩ := h.of j i hb
      exact absurd h3 (hf r (List.mem_of_getElem? h1) h2)
end Go.Proofs.YtfjjhjojcgacbaaDoor
