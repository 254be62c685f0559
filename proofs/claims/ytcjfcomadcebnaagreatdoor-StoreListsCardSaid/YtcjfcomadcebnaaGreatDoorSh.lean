/- Do at any state, by a contract. -/
import Derived.Test.YtcjfcomadcebnaaGreatDoorSg
namespace Go.Proofs.YtcjfcomadcebnaaGreatDoor
open Go.RowKit

variable {T : TypeId} {er : Nat → Addr}

theorem opFn_none {k op : Int} (hk : 1 ≤ k ∧ k ≤ 4) (h : ofZ op ≠ k) : opFn k op = none := by
  have : k = 1 ∨ k = 2 ∨ k = 3 ∨ k = 4 := by omega
  rcases ten op with e | e | e | e | e | e | e | e | e | e
  iterate 9
    · subst e
      rcases this with rfl | rfl | rfl | rfl
      all_goals first | rfl | exact absurd rfl h
  · obtain ⟨h1, h2, h3, h4, h5, h6, h7, h8, h9⟩ := e
    unfold opFn
    simp [h1, h2, h3, h4, h5, h6, h7, h8, h9]

/-- What Do answers at a state. -/
def doV (T : TypeId) (er : Nat → Addr) : Except Nat (PS × Int × Int) → Value
  | .error 0 => .tuple #[stv 0 0 [], .int .i64 0, .int .i64 0, errE T er 0]
  | .error _ => .tuple #[stv 0 0 [], .int .i64 0, .int .i64 0, errE T er 2]
  | .ok (t, r, g) => .tuple #[stv t.kind t.n t.text, .int .i64 r, .int .i64 g, .nilIface]

theorem near_fits {n b : Int} (h : near n b) (hb : b ≤ 1000000000000000000) : fits64 n := by unfold near at h; unfold fits64; omega
theorem ok_kv {s : PS} {b : Nat} (h : s.Ok b) : KvFit s.kvs := fun p hp => by
  have := h.kb p hp
  exact ⟨by unfold fits64; omega, near_fits this.2 (by decide)⟩
theorem ok_mlen {s : PS} {b : Nat} (h : s.Ok b) : (mtext s.kvs).length ≤ 50000 := by
  have h1 := mtext_len (l := s.kvs) (fun p hp => ⟨(ok_kv h p hp).1, (ok_kv h p hp).2⟩)
  have h2 := rises_len (b := 0) h.rises (fun p hp => (h.kb p hp).1) (by decide) (by decide)
  omega
theorem ok_qlen {s : PS} {b : Nat} (h : s.Ok b) : (qtext s.vals).length ≤ 22 * b := by
  have h1 := qtext_len (l := s.vals) (fun p hp => near_fits (h.vb p hp) (by decide))
  have := h.len
  omega
theorem text_reg {s : PS} {b : Nat} (h : s.Ok b) (hk : s.kind = 1 ∨ s.kind = 2) : s.text = [] := by
  unfold PS.text
  rw [h.vs (by omega), h.ks (by omega)]
  rfl
theorem text_queue {s : PS} {b : Nat} (h : s.Ok b) (hk : s.kind = 3) : s.text = qtext s.vals := by
  unfold PS.text
  rw [h.ks (by omega)]
  simp [mtext]
theorem text_map {s : PS} {b : Nat} (h : s.Ok b) (hk : s.kind = 4) : s.text = mtext s.kvs := by
  unfold PS.text
  rw [h.vs (by omega)]
  simp [qtext]

theorem do_any (s : PS) (b : Nat) (hb : b ≤ 1000000) (h : s.Ok b) (op key val : Int) (hkey : fits64 key) (hval : fits64 val) (w : World) (hG : Glob T er w) : DoIs s.kind s.n s.text op key val (doV T er (doR s op key val)) w := by
  have hk := h.kind
  by_cases hof : ofZ op = s.kind
  rotate_left
  · unfold doR
    rw [if_pos hof]
    exact do_noop s.kind s.n hk s.text op key val (opFn_none hk hof) w hG
  have hof' : ¬ ofZ op ≠ s.kind := fun e => e hof
  cases hf : fitsB op key val
  · have hg : ∃ g, opFn s.kind op = some g := by
      rw [← hof]
      have hk' : 1 ≤ ofZ op ∧ ofZ op ≤ 4 := by rw [hof]; exact hk
      rcases ten op with e | e | e | e | e | e | e | e | e | e
      iterate 9
        · subst e; exact ⟨_, rfl⟩
      · rw [ofZ_no (noOp e)] at hk'; omega
    obtain ⟨g, hg⟩ := hg
    unfold doR
    rw [if_neg hof', if_pos hf]
    exact do_unfit s.kind s.n hk s.text op key val g hg hf w hG
  have hf' : ¬ fitsB op key val = false := by rw [hf]; decide
  have hnv : near val 1000000000 := by
    have := hf
    simp only [fitsB, Bool.and_eq_true, decide_eq_true_eq] at this
    exact this.1.1.2
  unfold near at hnv
  obtain ⟨k1, k2, k3, k4⟩ := of_kinds op
  have hkk : s.kind = 1 ∨ s.kind = 2 ∨ s.kind = 3 ∨ s.kind = 4 := by omega
  rcases hkk with hs | hs | hs | hs
  · -- a register
    have ho := k1 (by rw [hof]; exact hs)
    have hn2 : ¬ (s.kind = 2 ∧ ¬ near (s.n + val) 1000000000000000) := fun e => by rw [hs] at e; exact absurd e.1 (by decide)
    have hc : s.kind = 2 → (-9223372036854775808 ≤ s.n + val ∧ s.n + val ≤ 9223372036854775807) ∧ nearB (s.n + val) 1000000000000000 = true := fun e => by rw [hs] at e; exact absurd e (by decide)
    unfold doR
    rw [if_neg hof', if_neg hf', if_neg hn2]
    rcases ho with e | e
    · rw [if_pos (.inl e)]
      exact do_goes s.kind s.n hk s.text op key val 81 (by rw [hs, e]; rfl) hf hc _ _ _ _ _ w hG (fun W _ => number_op _ _ _ _ _ W)
    · rw [if_neg (by omega), if_pos e]
      exact do_goes s.kind s.n hk s.text op key val 82 (by rw [hs, e]; rfl) hf hc _ _ _ _ _ w hG (fun W _ => write_op _ _ _ _ _ W)
  · -- a counter
    have ho := k2 (by rw [hof]; exact hs)
    have hnn := h.cnt hs
    unfold near at hnn
    have h0 : -9223372036854775808 ≤ s.n + val ∧ s.n + val ≤ 9223372036854775807 := by omega
    by_cases hn : near (s.n + val) 1000000000000000
    · have hn2 : ¬ (s.kind = 2 ∧ ¬ near (s.n + val) 1000000000000000) := fun e => e.2 hn
      have hc : s.kind = 2 → (-9223372036854775808 ≤ s.n + val ∧ s.n + val ≤ 9223372036854775807) ∧ nearB (s.n + val) 1000000000000000 = true := fun _ => ⟨h0, decide_eq_true hn⟩
      unfold doR
      rw [if_neg hof', if_neg hf', if_neg hn2]
      rcases ho with e | e
      · rw [if_neg (by omega), if_neg (by omega), if_pos e]
        exact do_goes s.kind s.n hk s.text op key val 83 (by rw [hs, e]; rfl) hf hc _ _ _ _ _ w hG (fun W _ => add_op _ _ _ _ _ h0.1 h0.2 W)
      · rw [if_pos (.inr e)]
        exact do_goes s.kind s.n hk s.text op key val 81 (by rw [hs, e]; rfl) hf hc _ _ _ _ _ w hG (fun W _ => number_op _ _ _ _ _ W)
    · have hg : ∃ g, opFn 2 op = some g := by rcases ho with e | e <;> (rw [e]; exact ⟨_, rfl⟩)
      obtain ⟨g, hg⟩ := hg
      unfold doR
      rw [if_neg hof', if_neg hf', if_pos ⟨hs, hn⟩, hs]
      exact do_over s.n s.text op key val g hg hf h0.1 h0.2 (decide_eq_false hn) w hG
  · -- a queue
    have ho := k3 (by rw [hof]; exact hs)
    have hn2 : ¬ (s.kind = 2 ∧ ¬ near (s.n + val) 1000000000000000) := fun e => by rw [hs] at e; exact absurd e.1 (by decide)
    have hc : s.kind = 2 → (-9223372036854775808 ≤ s.n + val ∧ s.n + val ≤ 9223372036854775807) ∧ nearB (s.n + val) 1000000000000000 = true := fun e => by rw [hs] at e; exact absurd e (by decide)
    have hql := ok_qlen h
    have ht := text_queue h hs
    have hks := h.ks (by omega)
    unfold doR
    rw [if_neg hof', if_neg hf', if_neg hn2]
    rcases ho with e | e
    · rw [if_neg (by omega), if_neg (by omega), if_neg (by omega), if_pos e]
      have e2 : ({ s with vals := s.vals ++ [val] } : PS).text = s.text ++ 32 :: Lib.itoa val := by
        show qtext (s.vals ++ [val]) ++ mtext s.kvs = _
        rw [ht, hks, qtext_app]
        simp [qtext, mtext]
      show DoIs _ _ _ _ _ _ (.tuple #[stv s.kind s.n ({ s with vals := s.vals ++ [val] } : PS).text, .int .i64 1, .int .i64 0, .nilIface]) w
      rw [e2]
      exact do_goes s.kind s.n hk s.text op key val 85 (by rw [hs, e]; rfl) hf hc _ _ _ _ _ w hG (fun W hW => enq_op _ _ _ _ _ hval W hW (by rw [ht]; omega))
    · rw [if_neg (by omega), if_neg (by omega), if_neg (by omega), if_neg (by omega), if_pos e]
      cases hv : s.vals with
      | nil =>
        have e2 : s.text = [] := by rw [ht, hv]; rfl
        show DoIs _ _ _ _ _ _ (.tuple #[stv s.kind s.n s.text, .int .i64 2, .int .i64 0, .nilIface]) w
        rw [e2]
        exact do_goes s.kind s.n hk [] op key val 84 (by rw [hs, e]; rfl) hf hc _ _ _ _ _ w hG (fun W hW => deq_none _ _ _ _ W hW)
      | cons v t =>
        have e2 : s.text = 32 :: (Lib.itoa v ++ qtext t) := by rw [ht, hv]; rfl
        have e3 : ({ s with vals := t } : PS).text = qtext t := by
          show qtext t ++ mtext s.kvs = _
          rw [hks]; simp [mtext]
        show DoIs _ _ _ _ _ _ (.tuple #[stv s.kind s.n ({ s with vals := t } : PS).text, .int .i64 3, .int .i64 v, .nilIface]) w
        rw [e2, e3]
        have hvv := near_fits (h.vb v (by rw [hv]; simp)) (by decide)
        exact do_goes s.kind s.n hk _ op key val 84 (by rw [hs, e]; rfl) hf hc _ _ _ _ _ w hG (fun W hW => deq_some _ _ _ _ hvv (qtext_shape t) (by rw [hv] at hql; simp [qtext] at hql; omega) _ _ W hW)
  · -- a map
    have ho := k4 (by rw [hof]; exact hs)
    have hn2 : ¬ (s.kind = 2 ∧ ¬ near (s.n + val) 1000000000000000) := fun e => by rw [hs] at e; exact absurd e.1 (by decide)
    have hc : s.kind = 2 → (-9223372036854775808 ≤ s.n + val ∧ s.n + val ≤ 9223372036854775807) ∧ nearB (s.n + val) 1000000000000000 = true := fun e => by rw [hs] at e; exact absurd e (by decide)
    have hml := ok_mlen h
    have ht := text_map h hs
    have hvs := h.vs (by omega)
    have hkv := ok_kv h
    have eT : ∀ l, ({ s with kvs := l } : PS).text = mtext l := fun l => by
      show qtext s.vals ++ mtext l = _
      rw [hvs]; simp [qtext]
    unfold doR
    rw [if_neg hof', if_neg hf', if_neg hn2]
    rcases ho with e | e | e
    · rw [if_neg (by omega), if_neg (by omega), if_neg (by omega), if_neg (by omega), if_neg (by omega), if_pos e]
      show DoIs _ _ _ _ _ _ (.tuple #[stv s.kind s.n ({ s with kvs := mput key val s.kvs } : PS).text, .int .i64 1, .int .i64 0, .nilIface]) w
      rw [eT (mput key val s.kvs), ht]
      exact do_goes s.kind s.n hk _ op key val 86 (by rw [hs, e]; rfl) hf hc _ _ _ _ _ w hG (fun W hW => put_op _ _ _ hkv (by omega) _ _ hkey hval W hW)
    · rw [if_neg (by omega), if_neg (by omega), if_neg (by omega), if_neg (by omega), if_neg (by omega), if_neg (by omega), if_pos e]
      cases hg : mget key s.kvs with
      | none =>
        have hl : lookR key s.kvs = (2, 0) := by unfold lookR; rw [hg]
        show DoIs _ _ _ _ _ _ (.tuple #[stv s.kind s.n s.text, .int .i64 2, .int .i64 0, .nilIface]) w
        rw [ht]
        exact do_goes s.kind s.n hk _ op key val 87 (by rw [hs, e]; rfl) hf hc _ _ _ _ _ w hG (fun W hW => by have := look_op s.kind s.n _ hkv (by omega) key val W hW; rw [hl] at this; exact this)
      | some v =>
        have hl : lookR key s.kvs = (3, v) := by unfold lookR; rw [hg]
        show DoIs _ _ _ _ _ _ (.tuple #[stv s.kind s.n s.text, .int .i64 3, .int .i64 v, .nilIface]) w
        rw [ht]
        exact do_goes s.kind s.n hk _ op key val 87 (by rw [hs, e]; rfl) hf hc _ _ _ _ _ w hG (fun W hW => by have := look_op s.kind s.n _ hkv (by omega) key val W hW; rw [hl] at this; exact this)
    · rw [if_neg (by omega), if_neg (by omega), if_neg (by omega), if_neg (by omega), if_neg (by omega), if_neg (by omega), if_neg (by omega)]
      cases hg : mget key s.kvs with
      | none =>
        have hl : lookR key s.kvs = (2, 0) := by unfold lookR; rw [hg]
        show DoIs _ _ _ _ _ _ (.tuple #[stv s.kind s.n s.text, .int .i64 2, .int .i64 0, .nilIface]) w
        rw [ht]
        exact do_goes s.kind s.n hk _ op key val 88 (by rw [hs, e]; rfl) hf hc _ _ _ _ _ w hG (fun W hW => by have := del_op s.kind s.n _ hkv (by omega) key val W hW; rw [hl, mdel_none hg] at this; exact this)
      | some v =>
        have hl : lookR key s.kvs = (3, v) := by unfold lookR; rw [hg]
        show DoIs _ _ _ _ _ _ (.tuple #[stv s.kind s.n ({ s with kvs := mdel key s.kvs } : PS).text, .int .i64 3, .int .i64 v, .nilIface]) w
        rw [eT (mdel key s.kvs), ht]
        exact do_goes s.kind s.n hk _ op key val 88 (by rw [hs, e]; rfl) hf hc _ _ _ _ _ w hG (fun W hW => by have := del_op s.kind s.n _ hkv (by omega) key val W hW; rw [hl] at this; exact this)
end Go.Proofs.YtcjfcomadcebnaaGreatDoor
