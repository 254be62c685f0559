/- Contracts by histories: Committed, Check, Table; two tables one beside the other. -/
import Derived.Test.YtfjjhjojcgacbaaDoorFa
import Derived.Test.YtfjjhjojcgacbaaDoorFd
namespace Go.Proofs.YtfjjhjojcgacbaaDoor
open Go.RowKit Go.Maps Go.WideMaps Go.WideElems Go.ChangeShapes Go.WideShapes
variable {T : TypeId} {er : Nat → Addr}

section
variable {V : World} {a b : Option Addr} {n c m d : Nat} {os : List (Int × Int)} {es : List Ev} (h : InH V a n c b m d os es)
include h
theorem com_h (hG : Glob T er V) {s : St} (hr : tabZ os es = some s) {es' : List Ev} {m' : Nat} (he : (es.filter fun e => comZ s.recs e.tx) = es') (hm' : es'.length = m') : Calls Tryd.prog 26 #[hv a n c b m d] V (OutE V n m' os es') := by
  have hl := hisOk_len (tabZ_his hr)
  have hc := com_any (T := T) (er := er) a b n c m d os es h.hn h.hm V h.so (EvsAt.of h.se h.hm) hG ⟨by have := h.hn; omega, by have := h.hm; omega⟩
  rw [hr] at hc
  refine hc.mono ?_
  rintro e w' ⟨v1, v2, h1, H⟩
  rw [he, hm'] at H
  exact outE h.hn hm' (filter_few h _ he hm') h1 H.out.1 H.out.2.1 H.out.2.2
theorem check_h (hG : Glob T er V) (hr : (tabZ os es).isSome = true) : Calls Tryd.prog 28 #[hv a n c b m d] V fun e w' => e = .returned .nilIface ∧ Hid (Below V.heap.size V w') := by
  have hc := check_any (T := T) (er := er) a b n c m d os es h.hn h.hm V h.so (EvsAt.of h.se h.hm) hG
  rw [hr] at hc
  exact hc
theorem tab_h (hG : Glob T er V) {s : St} (hr : tabZ os es = some s) {N : Nat} (hN : s.recs.length = N) : Calls Tryd.prog 24 #[hv a n c b m d] V fun e w' => ∃ a3 c3, e = .returned (.tuple #[.slice a3 N c3, .nilIface]) ∧ Hid (TxIn w' a3 s.recs ∧ Below V.heap.size V w') := by
  have hc := tab_any (T := T) (er := er) a b n c m d os es h.hn h.hm V h.so (EvsAt.of h.se h.hm) hG
  rw [hr] at hc
  refine hc.mono ?_
  rintro e w' ⟨dvs, a3, c3, h1, H⟩
  rw [hN] at h1
  exact ⟨a3, c3, h1, H.out.2.1.inn rfl, H.out.2.2⟩
theorem tabErr_h (hG : Glob T er V) (hr : tabZ os es = none) : Calls Tryd.prog 24 #[hv a n c b m d] V fun e w' => ∃ t p, e = .returned (.tuple #[.slice none 0 0, .iface t (.pointer (some p))]) ∧ Hid (Below V.heap.size V w') := by
  have hc := tab_any (T := T) (er := er) a b n c m d os es h.hn h.hm V h.so (EvsAt.of h.se h.hm) hG
  rw [hr] at hc
  exact hc
end
theorem fil_get {α : Type} (p : α → Bool) {l : List α} {k : Nat} {x : α} (h : l[k]? = some x) (hp : p x = true) : (l.filter p)[((l.take k).filter p).length]? = some x := by
  have hk := (List.getElem?_eq_some_iff.1 h).1
  have e1 : l.filter p = (l.take k).filter p ++ (l.drop k).filter p := by rw [← List.filter_append, List.take_append_drop]
  have e2 : l.drop k = x :: l.drop (k + 1) := by
    rw [List.drop_eq_getElem_cons hk]
    congr 1
    exact (List.getElem?_eq_some_iff.1 h).2
  rw [e1, List.getElem?_append_right (Nat.le_refl _), Nat.sub_self, e2, List.filter_cons, if_pos hp]
  rfl
/-- The transactions but one. -/
def others (x : Int) (l : List Rec) : List Rec := l.filter fun r => !(r.id == x)
theorem views_others {s s' : St} {x : Int} (h : views s' = (views s).filter fun v => !(v.id == x)) : s'.recs.map Rec.vw = (others x s.recs).map Rec.vw := by
  have e : (views s).filter (fun v => !(v.id == x)) = (others x s.recs).map Rec.vw := by
    unfold views others
    rw [List.filter_map]
    rfl
  rw [← e, ← h]
  rfl
theorem others_get {L M : List Rec} {x : Int} (h : M.map Rec.vw = (others x L).map Rec.vw) {j : Nat} {r : Rec} (hr : L[j]? = some r) (hx : r.id ≠ x) : ∃ r2, M[(others x (L.take j)).length]? = some r2 ∧ r2.id = r.id ∧ r2.status = r.status ∧ r2.ds.length = r.ds.length ∧ r2.thread = r.thread := by
  have h1 := fil_get (fun r : Rec => !(r.id == x)) hr (by simp [hx])
  have h2 : (M.map Rec.vw)[(others x (L.take j)).length]? = some r.vw := by
    rw [h, List.getElem?_map]
    unfold others
    rw [h1]
    rfl
  rw [List.getElem?_map, Option.map_eq_some_iff] at h2
  obtain ⟨r2, h3, h4⟩ := h2
  have f := congrArg Vw.ops h4
  have hl : r2.ds.length = r.ds.length := by
    have := congrArg List.length f
    simpa [Rec.vw] using this
  exact ⟨r2, h3, congrArg Vw.id h4, congrArg Vw.status h4, hl, congrArg Vw.thread h4⟩
theorem others_next {L : List Rec} (x : Int) {j : Nat} {r : Rec} (hr : L[j]? = some r) : (others x (L.take (j + 1))).length = (others x (L.take j)).length + (if r.id = x then 0 else 1) := by
  unfold others
  rw [filter_next _ hr, List.length_append]
  by_cases h : r.id = x
  · rw [if_pos h]; simp [h]
  · rw [if_neg h]; simp [h]
theorem others_len {L M : List Rec} {x : Int} (h : M.map Rec.vw = (others x L).map Rec.vw) : M.length = (others x L).length := by
  have := congrArg List.length h
  simpa using this
end Go.Proofs.YtfjjhjojcgacbaaDoor
