/- Plain: a run without a deed. -/
import Derived.Test.YtfjjhjojcgacbaaDoorFc
namespace Go.Proofs.YtfjjhjojcgacbaaDoor

/-- A transaction's view without its k-th deed. -/
def dropG (tx : Int) (k : Nat) (v : Vw) : Vw := if v.id = tx then { v with phase := if v.phase = 2 ∧ v.ops.length = k + 1 then 1 else v.phase, ops := v.ops.eraseIdx k } else v
theorem dropG_id (tx : Int) (k : Nat) (v : Vw) : (dropG tx k v).id = v.id := by unfold dropG; split <;> rfl
theorem dropG_thread (tx : Int) (k : Nat) (v : Vw) : (dropG tx k v).thread = v.thread := by unfold dropG; split <;> rfl
theorem dropG_ended (tx : Int) (k : Nat) (v : Vw) : (dropG tx k v).phase ≠ 16 → v.phase ≠ 16 := by
  unfold dropG
  split
  · intro h e
    apply h
    show (if v.phase = 2 ∧ v.ops.length = k + 1 then (1 : Int) else v.phase) = 16
    rw [if_neg (by omega)]
    exact e
  · exact id
theorem dropG_no {tx : Int} {v : Vw} (k : Nat) (h : v.id ≠ tx) : dropG tx k v = v := if_neg h
theorem dropG_yes {tx : Int} {v : Vw} (k : Nat) (h : v.id = tx) : dropG tx k v = { v with phase := if v.phase = 2 ∧ v.ops.length = k + 1 then 1 else v.phase, ops := v.ops.eraseIdx k } := if_pos h
/-- An event is one of the two that are left out. -/
def Cut (k : Nat) (e : Ev) (v : Vw) : Prop := (e.kind = 2 ∧ v.ops.length = k) ∨ (e.kind = 3 ∧ v.ops.length = k + 1)
theorem effV_cut {tx : Int} {k : Nat} {e : Ev} {v u : Vw} (hv : v.id = tx) (h : effV e v = some u) (hc : Cut k e v) : dropG tx k u = dropG tx k v := by
  have hu := effV_id h
  rw [dropG_yes k hv, dropG_yes k (hu.trans hv)]
  unfold effV at h
  rcases hc with ⟨hk, hl⟩ | ⟨hk, hl⟩
  · rw [if_pos hk] at h
    split at h
    · rename_i hp
      injection h with h
      subst h
      simp [hp, hl, List.eraseIdx_append_of_length_le, List.eraseIdx_of_length_le]
    · cases h
  · rw [if_neg (by omega), if_pos hk] at h
    split at h
    · rename_i hp
      split at h
      · split at h
        · injection h with h
          subst h
          simp [hp, hl]
        · cases h
      · cases h
    · cases h
theorem erase_snoc {l : List Int} {k : Nat} (x : Int) (h : l.length ≠ k) : (l ++ [x]).eraseIdx k = l.eraseIdx k ++ [x] := by
  by_cases hk : k < l.length
  · exact List.eraseIdx_append_of_lt_length hk _
  · rw [List.eraseIdx_of_length_le (by simp; omega), List.eraseIdx_of_length_le (by omega)]
theorem erase_last {l : List Int} {k : Nat} {x : Int} (hl : l.getLast? = some x) (h : l.length ≠ k + 1) : (l.eraseIdx k).getLast? = some x := by
  obtain ⟨l', rfl⟩ := List.getLast?_eq_some_iff.1 hl
  rw [erase_snoc x (by simp at h; exact h)]
  simp
theorem effV_keep {tx : Int} {k : Nat} {e : Ev} {v u : Vw} (hv : v.id = tx) (h : effV e v = some u) (hc : ¬ Cut k e v) : effV e (dropG tx k v) = some (dropG tx k u) := by
  have hu := effV_id h
  rw [dropG_yes k hv, dropG_yes k (hu.trans hv)]
  unfold Cut at hc
  rw [not_or] at hc
  unfold effV at h ⊢
  by_cases h2 : e.kind = 2
  · rw [if_pos h2] at h ⊢
    split at h
    · rename_i hp
      injection h with h
      subst h
      have hl : v.ops.length ≠ k := fun e => hc.1 ⟨h2, e⟩
      simp [hp, hl, erase_snoc]
    · cases h
  rw [if_neg h2] at h ⊢
  by_cases h3 : e.kind = 3
  · rw [if_pos h3] at h ⊢
    have hl : v.ops.length ≠ k + 1 := fun e => hc.2 ⟨h3, e⟩
    split at h
    · rename_i hp
      split at h
      · rename_i o ho
        split at h
        · rename_i hf
          injection h with h
          subst h
          have e1 := erase_last (k := k) ho hl
          simp [hp, hl, e1, hf]
        · cases h
      · cases h
    · cases h
  rw [if_neg h3] at h ⊢
  by_cases h4 : e.kind = 4
  · rw [if_pos h4] at h ⊢
    split at h
    · rename_i hp
      injection h with h
      subst h
      simp [hp]
    · cases h
  rw [if_neg h4] at h ⊢
  by_cases h5 : e.kind = 5
  · rw [if_pos h5] at h ⊢
    split at h
    · rename_i hp
      injection h with h
      subst h
      simp [hp]
    · cases h
  rw [if_neg h5] at h ⊢
  by_cases h6 : e.kind = 6
  · rw [if_pos h6] at h ⊢
    split at h
    · cases h
    · rename_i hp
      injection h with h
      subst h
      have e1 : ¬ (if v.phase = 2 ∧ v.ops.length = k + 1 then (1 : Int) else v.phase) = 16 := by
        split
        · decide
        · exact hp
      simp [e1]
  rw [if_neg h6] at h ⊢
  split at h
  · rename_i hp
    injection h with h
    subst h
    simp [hp]
  · cases h
theorem find_G (tx : Int) (k : Nat) (x : Int) (vs : List Vw) : (vs.map (dropG tx k)).find? (fun v => v.id == x) = (vs.find? fun v => v.id == x).map (dropG tx k) := by
  rw [List.find?_map]
  congr 1
  congr 1
  funext v
  show ((dropG tx k v).id == x) = _
  rw [dropG_id]
/-- A step of the views without a deed. -/
theorem abs_keep {tx : Int} {k : Nat} {vs vs' : List Vw} {e : Ev} (h : absStep vs e = some vs') (hc : ∀ v, vs.find? (fun v => v.id == e.tx) = some v → e.tx = tx → ¬ Cut k e v) :
    absStep (vs.map (dropG tx k)) e = some (vs'.map (dropG tx k)) := by
  unfold absStep at h ⊢
  rw [find_G]
  cases hf : vs.find? (fun v => v.id == e.tx) with
  | none =>
    rw [hf] at h
    replace h : (if e.kind = 1 ∧ (∀ v ∈ vs, v.phase ≠ 16 → v.thread.toNat ≠ e.thread.toNat) then some (vs ++ [⟨e.tx, e.thread, 1, 1, []⟩]) else none) = some vs' := h
    split at h
    · rename_i hq
      injection h with h
      subst h
      show (if _ then _ else _) = _
      rw [if_pos]
      · rw [List.map_append]
        congr 2
        show [_] = [dropG tx k _]
        congr 1
        unfold dropG
        split <;> simp
      · refine ⟨hq.1, fun v hv hp => ?_⟩
        obtain ⟨v0, h0, rfl⟩ := List.mem_map.1 hv
        rw [dropG_thread]
        exact hq.2 v0 h0 (dropG_ended tx k v0 hp)
    · cases h
  | some v =>
    have hc2 := hc v hf
    rw [hf] at h
    replace h : (if e.kind = 1 then none else (effV e v).map fun u => vs.map fun q => if q.id = e.tx then u else q) = some vs' := h
    have hv : v.id = e.tx := by simpa using List.find?_some hf
    split at h
    · cases h
    · rename_i hk
      obtain ⟨u, hu, rfl⟩ := Option.map_eq_some_iff.1 h
      have hui : u.id = e.tx := (effV_id hu).trans hv
      have he : effV e (dropG tx k v) = some (dropG tx k u) := by
        by_cases ht : e.tx = tx
        · exact effV_keep (hv.trans ht) hu (hc2 ht)
        · rw [dropG_no k (by rw [hv]; exact ht), dropG_no k (by rw [hui]; exact ht)]
          exact hu
      show (if e.kind = 1 then none else (effV e (dropG tx k v)).map _) = _
      rw [if_neg hk, he]
      show some ((vs.map (dropG tx k)).map fun q => if q.id = e.tx then dropG tx k u else q) = _
      rw [List.map_map, List.map_map]
      congr 1
      apply List.map_congr_left
      intro q _
      show (if (dropG tx k q).id = e.tx then dropG tx k u else dropG tx k q) = dropG tx k (if q.id = e.tx then u else q)
      rw [dropG_id]
      split <;> rfl
theorem abs_cut {tx : Int} {k : Nat} {vs vs' : List Vw} {e : Ev} (hn : (vs.map (·.id)).Nodup) (h : absStep vs e = some vs') {v : Vw} (hf : vs.find? (fun v => v.id == e.tx) = some v) (ht : e.tx = tx) (hc : Cut k e v) :
    vs'.map (dropG tx k) = vs.map (dropG tx k) := by
  unfold absStep at h
  rw [hf] at h
  replace h : (if e.kind = 1 then none else (effV e v).map fun u => vs.map fun q => if q.id = e.tx then u else q) = some vs' := h
  have hv : v.id = e.tx := by simpa using List.find?_some hf
  have hvm : v ∈ vs := List.mem_of_find?_eq_some hf
  split at h
  · cases h
  · obtain ⟨u, hu, rfl⟩ := Option.map_eq_some_iff.1 h
    rw [List.map_map]
    apply List.map_congr_left
    intro q hq
    show dropG tx k (if q.id = e.tx then u else q) = _
    split
    · rename_i hqi
      have : q = v := by
        obtain ⟨i, hi⟩ := List.getElem?_of_mem hq
        obtain ⟨j, hj⟩ := List.getElem?_of_mem hvm
        have h1 : (vs.map (·.id))[i]? = some e.tx := by rw [List.getElem?_map, hi, ← hqi]; rfl
        have h2 : (vs.map (·.id))[j]? = some e.tx := by rw [List.getElem?_map, hj, ← hv]; rfl
        have hij := (List.getElem?_inj (by simpa using (List.getElem?_eq_some_iff.1 hi).1) hn).1 (h1.trans h2.symm)
        subst hij
        rw [hi] at hj
        injection hj
      subst this
      exact effV_cut (hv.trans ht) hu hc
    · rfl

/-- The k-th deed of a transaction. -/
def look (tx : Int) (k : Nat) (s : St) : Option Deed := (lookR tx s.recs).bind fun r => r.ds[k]?
/-- Where deeds stand. -/
def DInv (s : St) : Prop := ∀ r ∈ s.recs, (∀ d ∈ r.ds, d.pos < s.taken ∧ -1 ≤ d.back ∧ d.back < s.taken) ∧ (r.phase = 2 → ∀ d, r.ds.getLast? = some d → d.back = -1)
theorem stepZ_dinv {os : List (Int × Int)} {s s' : St} {e : Ev} (hd : DInv s) (h : stepZ os s e = some s') : DInv s' := by
  have up : ∀ r ∈ s.recs, (∀ d ∈ r.ds, d.pos < ((s.taken + 1 : Nat) : Int) ∧ -1 ≤ d.back ∧ d.back < ((s.taken + 1 : Nat) : Int)) ∧ (r.phase = 2 → ∀ d, r.ds.getLast? = some d → d.back = -1) := fun r hr => ⟨fun d h => by have := (hd r hr).1 d h; omega, (hd r hr).2⟩
  obtain ⟨-, ⟨-, -, h1, h2, rfl⟩ | ⟨-, i, r, r', h1, -, -, h2, rfl⟩⟩ := stepZ_inv h
  · intro q hq
    rcases List.mem_append.1 hq with hq | hq
    · exact up q hq
    · simp at hq
      subst hq
      exact ⟨fun d h => by simp at h, fun h => by simp at h⟩
  · intro q hq
    rcases List.mem_or_eq_of_mem_set hq with hq | rfl
    · exact up q hq
    · have hr := up r (List.mem_of_getElem? h1)
      rcases h2.deeds with ⟨-, -, -, hds⟩ | ⟨-, -, hp, d0, hl, hds⟩ | ⟨-, -, hds, hp⟩
      · refine ⟨fun d hm => ?_, fun _ d hm => ?_⟩
        · rw [hds] at hm
          rcases List.mem_append.1 hm with hm | hm
          · exact hr.1 d hm
          · simp at hm
            subst hm
            show ((s.taken : Nat) : Int) < ((s.taken + 1 : Nat) : Int) ∧ -1 ≤ (-1 : Int) ∧ (-1 : Int) < ((s.taken + 1 : Nat) : Int)
            omega
        · rw [hds] at hm
          simp at hm
          rw [← hm]
      · obtain ⟨l, hl2⟩ := List.getLast?_eq_some_iff.1 hl
        refine ⟨fun d hm => ?_, fun h => by omega⟩
        rw [hds] at hm
        rcases List.mem_append.1 hm with hm | hm
        · exact hr.1 d (by rw [hl2] at hm ⊢; rw [List.dropLast_concat] at hm; exact List.mem_append_left _ hm)
        · simp at hm
          have h0 := hr.1 d0 (by rw [hl2]; simp)
          subst hm
          show d0.pos < ((s.taken + 1 : Nat) : Int) ∧ -1 ≤ ((s.taken : Nat) : Int) ∧ ((s.taken : Nat) : Int) < ((s.taken + 1 : Nat) : Int)
          omega
      · refine ⟨fun d hm => hr.1 d (by rw [← hds]; exact hm), fun h => absurd h hp⟩
theorem lookR_set {rs : List Rec} (hn : (rs.map (·.id)).Nodup) {i : Nat} {r r' : Rec} (hi : rs[i]? = some r) (hid : r'.id = r.id) (tx : Int) : lookR tx (rs.set i r') = if r.id = tx then some r' else lookR tx rs := by
  rw [set_upd hn r' hi]
  unfold lookR
  rw [List.find?_map]
  have e1 : ((fun q : Rec => q.id == tx) ∘ fun q => if q.id = r.id then r' else q) = fun q => q.id == tx := by
    funext q
    show ((if q.id = r.id then r' else q).id == tx) = _
    split
    · rename_i h; rw [hid, h]
    · rfl
  rw [e1]
  by_cases h : r.id = tx
  · rw [if_pos h]
    have hm : (rs.find? fun q => q.id == tx).isSome = true := by
      rw [List.find?_isSome]
      exact ⟨r, List.mem_of_getElem? hi, by simp [h]⟩
    obtain ⟨q, hq⟩ := Option.isSome_iff_exists.1 hm
    have hqi : q.id = tx := by simpa using List.find?_some hq
    rw [hq]
    show some (if q.id = r.id then r' else q) = _
    rw [if_pos (hqi.trans h.symm)]
  · rw [if_neg h]
    cases hq : rs.find? fun q => q.id == tx with
    | none => rfl
    | some q =>
      have hqi : q.id = tx := by simpa using List.find?_some hq
      show some (if q.id = r.id then r' else q) = _
      rw [if_neg (fun e => h (e.symm.trans hqi))]
/-- What the last state says of the deed, seen from an earlier one. -/
def Fin (tx : Int) (k : Nat) (s : St) (d : Deed) : Prop := (look tx k s = none ∧ (s.taken : Int) ≤ d.pos ∧ (d.back = -1 ∨ (s.taken : Int) ≤ d.back)) ∨
  ∃ d0, look tx k s = some d0 ∧ d.pos = d0.pos ∧ (0 ≤ d0.back → d.back = d0.back) ∧ (d0.back < 0 → d.back = -1 ∨ (s.taken : Int) ≤ d.back)
theorem look_mem {tx : Int} {k : Nat} {s : St} {d : Deed} (h : look tx k s = some d) : ∃ r ∈ s.recs, d ∈ r.ds := by
  obtain ⟨r, h1, h2⟩ := Option.bind_eq_some_iff.1 h
  exact ⟨r, List.mem_of_find?_eq_some h1, List.mem_of_getElem? h2⟩
theorem Fin.same {tx : Int} {k : Nat} {s s1 : St} {d : Deed} (hd : DInv s) (ht : s1.taken = s.taken + 1) (h : Fin tx k s1 d) (hl : look tx k s1 = look tx k s) : Fin tx k s d ∧ ¬ ((s.taken : Int) = d.pos ∨ (s.taken : Int) = d.back) := by
  unfold Fin at h ⊢
  rw [ht, hl] at h
  rcases h with ⟨h1, h2, h3⟩ | ⟨d0, h1, h2, h3, h4⟩
  · exact ⟨.inl ⟨h1, by omega, by omega⟩, by omega⟩
  · obtain ⟨r, hr, hm⟩ := look_mem h1
    have h5 := (hd r hr).1 d0 hm
    refine ⟨.inr ⟨d0, h1, h2, h3, fun h => by have := h4 h; omega⟩, ?_⟩
    by_cases h6 : 0 ≤ d0.back
    · have := h3 h6; omega
    · have := h4 (by omega); omega
theorem run_drop {os : List (Int × Int)} {tx : Int} {k : Nat} {sm : St} {d : Deed} (hl : look tx k sm = some d) : ∀ (es : List Ev) (s : St), s.Ok → s.Bz → DInv s → runZ os s es = some sm →
    absRun ((views s).map (dropG tx k)) (skipZ d.pos d.back es s.taken) = some ((views sm).map (dropG tx k)) ∧ Fin tx k s d
  | [], s, ho, hb, hd, h => by
    injection h with h
    subst h
    refine ⟨rfl, .inr ⟨d, hl, rfl, fun _ => rfl, fun h => .inl ?_⟩⟩
    obtain ⟨r, hr, hm⟩ := look_mem hl
    have := (hd r hr).1 d hm
    omega
  | e :: es, s, ho, hb, hd, h => by
    obtain ⟨s1, h1, h2⟩ := Option.bind_eq_some_iff.1 (show (stepZ os s e).bind (fun s => runZ os s es) = some sm from h)
    have ht := stepZ_taken h1
    obtain ⟨ih, hF⟩ := run_drop hl es s1 (stepZ_ok ho h1) (stepZ_bz ho hb h1) (stepZ_dinv hd h1) h2
    rw [ht] at ih
    obtain ⟨hc, hinv⟩ := stepZ_inv h1
    have hA : absStep (views s) e = some (views s1) := by rw [← step_abs ho hb hc, h1]; rfl
    have hids : ((views s).map (·.id)).Nodup := by
      have : (views s).map (·.id) = s.recs.map (·.id) := by unfold views; rw [List.map_map]; rfl
      rw [this]
      exact ho.ids
    -- the event is kept
    have keep : (∀ v, (views s).find? (fun v => v.id == e.tx) = some v → e.tx = tx → ¬ Cut k e v) → look tx k s1 = look tx k s → absRun ((views s).map (dropG tx k)) (skipZ d.pos d.back (e :: es) s.taken) = some ((views sm).map (dropG tx k)) ∧ Fin tx k s d := by
      intro hq hlk
      obtain ⟨hF2, hno⟩ := hF.same hd ht hlk
      refine ⟨?_, hF2⟩
      unfold skipZ
      rw [if_neg hno]
      show (absStep _ e).bind _ = _
      rw [abs_keep hA hq]
      exact ih
    -- the event is left out
    have gone : ∀ v, (views s).find? (fun v => v.id == e.tx) = some v → e.tx = tx → Cut k e v → ((s.taken : Int) = d.pos ∨ (s.taken : Int) = d.back) → absRun ((views s).map (dropG tx k)) (skipZ d.pos d.back (e :: es) s.taken) = some ((views sm).map (dropG tx k)) := by
      intro v hv htx hq hyes
      unfold skipZ
      rw [if_pos hyes, ← abs_cut hids hA hv htx hq]
      exact ih
    rcases hinv with ⟨hk, h3, h4, h5, rfl⟩ | ⟨hk, i, r, r', hr, hid, hlr, hs, rfl⟩
    · refine keep (fun v hv => ?_) ?_
      · unfold views at hv
        rw [views_look, h3] at hv
        cases hv
      · unfold look lookR
        show ((s.recs ++ [_]).find? _).bind _ = _
        rw [List.find?_append]
        cases hq : s.recs.find? (fun r => r.id == tx) with
        | some q => rfl
        | none =>
          rw [Option.none_or, List.find?_cons]
          split <;> simp
    · have hv0 : (views s).find? (fun v => v.id == e.tx) = some r.vw := by unfold views; rw [views_look, hlr]; rfl
      have hlk1 : look tx k ⟨s.recs.set i r', if e.kind = 5 ∨ e.kind = 6 then s.busy.set r.thread.toNat none else s.busy, s.taken + 1⟩ = if r.id = tx then r'.ds[k]? else look tx k s := by
        unfold look
        show (lookR tx (s.recs.set i r')).bind _ = _
        rw [lookR_set ho.ids hr hs.id]
        split <;> rfl
      have hlen : r.vw.ops.length = r.ds.length := List.length_map ..
      by_cases htx : e.tx = tx
      · have hrt : r.id = tx := hid.trans htx
        rw [if_pos hrt] at hlk1
        have hlk0 : look tx k s = r.ds[k]? := by unfold look; rw [← htx, hlr]; rfl
        have kp : (¬ Cut k e r.vw) → r'.ds[k]? = r.ds[k]? → absRun ((views s).map (dropG tx k)) (skipZ d.pos d.back (e :: es) s.taken) = some ((views sm).map (dropG tx k)) ∧ Fin tx k s d := by
          intro hq he
          refine keep (fun v hv _ => ?_) (by rw [hlk1, hlk0, he])
          rw [hv0] at hv
          injection hv with hv
          rw [← hv]
          exact hq
        have hmem := List.mem_of_getElem? hr
        rcases hs.deeds with ⟨h3, h4, h5, h6⟩ | ⟨h3, h4, h5, dl, h6, h7⟩ | ⟨h3, h4, h5, h6⟩
        · by_cases hkl : r.ds.length = k
          · have hc1 : Cut k e r.vw := .inl ⟨h3, by rw [hlen]; exact hkl⟩
            have hn0 : r.ds[k]? = none := List.getElem?_eq_none (by omega)
            rw [h6, ← hkl, List.getElem?_append_right (Nat.le_refl _), Nat.sub_self] at hlk1
            rw [hkl] at hlk1
            rcases hF with ⟨g1, -⟩ | ⟨d0, g1, g2, g3, g4⟩
            · rw [hlk1] at g1; cases g1
            · rw [hlk1] at g1
              injection g1 with g1
              subst g1
              replace g2 : d.pos = (s.taken : Int) := g2
              have g5 := g4 (by show (-1 : Int) < 0; decide)
              replace g5 : d.back = -1 ∨ ((s.taken + 1 : Nat) : Int) ≤ d.back := g5
              exact ⟨gone r.vw hv0 htx hc1 (.inl g2.symm), .inl ⟨by rw [hlk0, hn0], by omega, by omega⟩⟩
          · refine kp ?_ ?_
            · rintro (⟨-, g⟩ | ⟨g, -⟩)
              · rw [hlen] at g; exact hkl g
              · omega
            · rw [h6]
              by_cases g : k < r.ds.length
              · rw [List.getElem?_append_left g]
              · rw [List.getElem?_eq_none (by simp; omega), List.getElem?_eq_none (by omega)]
        · obtain ⟨l, hl2⟩ := List.getLast?_eq_some_iff.1 h6
          rw [hl2, List.dropLast_concat] at h7
          by_cases hkl : l.length = k
          · have hc1 : Cut k e r.vw := .inr ⟨h3, by rw [hlen, hl2]; simp; exact hkl⟩
            have hn0 : r.ds[k]? = some dl := by rw [hl2, ← hkl]; simp
            have hb1 := (hd r hmem).2 h4 dl h6
            have hn1 : r'.ds[k]? = some { dl with ret := e.ret, got := e.val, back := (s.taken : Int) } := by rw [h7, ← hkl]; simp
            rw [hn1] at hlk1
            rcases hF with ⟨g1, -⟩ | ⟨d0, g1, g2, g3, g4⟩
            · rw [hlk1] at g1; cases g1
            · rw [hlk1] at g1
              injection g1 with g1
              subst g1
              replace g2 : d.pos = dl.pos := g2
              replace g3 : d.back = (s.taken : Int) := g3 (by show (0 : Int) ≤ (s.taken : Int); omega)
              refine ⟨gone r.vw hv0 htx hc1 (.inr g3.symm), .inr ⟨dl, by rw [hlk0, hn0], g2, fun h => by omega, fun _ => .inr (by omega)⟩⟩
          · refine kp ?_ ?_
            · rintro (⟨g, -⟩ | ⟨-, g⟩)
              · omega
              · rw [hlen, hl2] at g; simp at g; exact hkl g
            · rw [h7, hl2]
              by_cases g : k < l.length
              · rw [List.getElem?_append_left g, List.getElem?_append_left g]
              · rw [List.getElem?_eq_none (by simp; omega), List.getElem?_eq_none (by simp; omega)]
        · refine kp ?_ (by rw [h5])
          rintro (⟨g, -⟩ | ⟨g, -⟩)
          · exact h3 g
          · exact h4 g
      · rw [if_neg (fun g => htx (hid.symm.trans g))] at hlk1
        exact keep (fun v _ g => absurd g htx) hlk1
theorem skipZ_mem (p q : Int) : ∀ (es : List Ev) (i : Nat), ∀ e ∈ skipZ p q es i, e ∈ es
  | [], i, e, h => by simp [skipZ] at h
  | x :: es, i, e, h => by
    unfold skipZ at h
    split at h
    · exact List.mem_cons_of_mem _ (skipZ_mem p q es (i + 1) e h)
    · rcases List.mem_cons.1 h with rfl | h
      · exact List.mem_cons_self ..
      · exact List.mem_cons_of_mem _ (skipZ_mem p q es (i + 1) e h)
/-- Without a deed it is well-formed. -/
theorem form_drop {os : List (Int × Int)} {es l : List Ev} {tx k : Int} (h : dropZ os es tx k = .out l) : (tabZ os l).isSome = true := by
  unfold dropZ at h
  split at h
  · cases h
  · rename_i s hz
    split at h
    · cases h
    · rename_i i hf
      rcases findR_look tx s.recs 0 with ⟨h1, -⟩ | ⟨j, r, h1, h2, h3, h4⟩
      · rw [h1] at hf; cases hf
      · rw [h1] at hf
        injection hf with hf
        rw [Nat.zero_add] at hf
        subst hf
        rw [h2] at h
        replace h : (if k < 0 then Drop3.index else match r.ds[k.toNat]? with | none => .index | some d => .out (skipZ d.pos d.back es 0)) = .out l := h
        split at h
        · cases h
        · split at h
          · cases h
          · rename_i d hd
            injection h with h
            subst h
            have hl : look tx k.toNat s = some d := by unfold look; rw [h4]; exact hd
            have hr : runZ os St.zero es = some s := by
              have := hz
              unfold tabZ at this
              rw [if_pos (tabZ_his hz)] at this
              exact this
            have hg := (run_drop hl es St.zero St.zero_ok St.zero_bz (fun r hr => by simp [St.zero] at hr) hr).1
            obtain ⟨s', h5, -⟩ := tab_of (hisOk_sub (es' := skipZ d.pos d.back es 0) (tabZ_his hz) (skipZ_mem _ _ es 0) (skipZ_len _ _ es 0)) hg
            rw [h5]
            rfl
end Go.Proofs.YtfjjhjojcgacbaaDoor
