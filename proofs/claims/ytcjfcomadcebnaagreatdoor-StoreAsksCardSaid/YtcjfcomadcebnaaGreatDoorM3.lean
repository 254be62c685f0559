/- Helpers, joined: Sh, Si, Sj, Li, Lk, Ln, Lo, Lp, Lq, Lr. -/
import Derived.Test.YtcjfcomadcebnaaGreatDoorM2
import Derived.Laws.AppendOwn
import Derived.Laws.AppendOwnNone
import Derived.Lib.SliceRun
import Derived.OwnWalk
import Derived.Deep.LoopGhost
import Derived.RangeFuncBox
import Derived.Laws.OwnMore
import Derived.Laws.Rows
import Derived.Maps.AppendAt
import Derived.Shelf.Strconv.Itoa3

/- Do at any state, by a contract. -/
namespace Go.Proofs.YtcjfcomadcebnaaGreatDoor
open Go.RowKit

variable {T : TypeId} {er : Nat → Addr}

theorem opFn_none {k op : Int} (hk : 1 ≤ k ∧ k ≤ 4) (h : ofZ op ≠ k) : opFn k op = none := by
  have : k = 1 ∨ k = 2 ∨ k = 3 ∨ k = 4 := by omega
  rcases ten op with e | e | e | e | e | e | e | e | e | e
  iterate 9
    · subst e
      rcases this with rfl | rfl | rfl | rfl
      all_goals first | rfl | exact absurd rfl h
  · obtain ⟨h1, h2, h3, h4, h5, h6, h7, h8, h9⟩ := e
    unfold opFn
    simp [h1, h2, h3, h4, h5, h6, h7, h8, h9]

/-- What Do answers at a state. -/
def doV (T : TypeId) (er : Nat → Addr) : Except Nat (PS × Int × Int) → Value
  | .error 0 => .tuple #[stv 0 0 [], .int .i64 0, .int .i64 0, errE T er 0]
  | .error _ => .tuple #[stv 0 0 [], .int .i64 0, .int .i64 0, errE T er 2]
  | .ok (t, r, g) => .tuple #[stv t.kind t.n t.text, .int .i64 r, .int .i64 g, .nilIface]

theorem near_fits {n b : Int} (h : near n b) (hb : b ≤ 1000000000000000000) : fits64 n := by unfold near at h; unfold fits64; omega
theorem ok_kv {s : PS} {b : Nat} (h : s.Ok b) : KvFit s.kvs := fun p hp => by
  have := h.kb p hp
  exact ⟨by unfold fits64; omega, near_fits this.2 (by decide)⟩
theorem ok_mlen {s : PS} {b : Nat} (h : s.Ok b) : (mtext s.kvs).length ≤ 50000 := by
  have h1 := mtext_len (l := s.kvs) (fun p hp => ⟨(ok_kv h p hp).1, (ok_kv h p hp).2⟩)
  have h2 := rises_len (b := 0) h.rises (fun p hp => (h.kb p hp).1) (by decide) (by decide)
  omega
theorem ok_qlen {s : PS} {b : Nat} (h : s.Ok b) : (qtext s.vals).length ≤ 22 * b := by
  have h1 := qtext_len (l := s.vals) (fun p hp => near_fits (h.vb p hp) (by decide))
  have := h.len
  omega
theorem text_reg {s : PS} {b : Nat} (h : s.Ok b) (hk : s.kind = 1 ∨ s.kind = 2) : s.text = [] := by
  unfold PS.text
  rw [h.vs (by omega), h.ks (by omega)]
  rfl
theorem text_queue {s : PS} {b : Nat} (h : s.Ok b) (hk : s.kind = 3) : s.text = qtext s.vals := by
  unfold PS.text
  rw [h.ks (by omega)]
  simp [mtext]
theorem text_map {s : PS} {b : Nat} (h : s.Ok b) (hk : s.kind = 4) : s.text = mtext s.kvs := by
  unfold PS.text
  rw [h.vs (by omega)]
  simp [qtext]

theorem do_any (s : PS) (b : Nat) (hb : b ≤ 1000000) (h : s.Ok b) (op key val : Int) (hkey : fits64 key) (hval : fits64 val) (w : World) (hG : Glob T er w) : DoIs s.kind s.n s.text op key val (doV T er (doR s op key val)) w := by
  have hk := h.kind
  by_cases hof : ofZ op = s.kind
  rotate_left
  · unfold doR
    rw [if_pos hof]
    exact do_noop s.kind s.n hk s.text op key val (opFn_none hk hof) w hG
  have hof' : ¬ ofZ op ≠ s.kind := fun e => e hof
  cases hf : fitsB op key val
  · have hg : ∃ g, opFn s.kind op = some g := by
      rw [← hof]
      have hk' : 1 ≤ ofZ op ∧ ofZ op ≤ 4 := by rw [hof]; exact hk
      rcases ten op with e | e | e | e | e | e | e | e | e | e
      iterate 9
        · subst e; exact ⟨_, rfl⟩
      · rw [ofZ_no (noOp e)] at hk'; omega
    obtain ⟨g, hg⟩ := hg
    unfold doR
    rw [if_neg hof', if_pos hf]
    exact do_unfit s.kind s.n hk s.text op key val g hg hf w hG
  have hf' : ¬ fitsB op key val = false := by rw [hf]; decide
  have hnv : near val 1000000000 := by
    have := hf
    simp only [fitsB, Bool.and_eq_true, decide_eq_true_eq] at this
    exact this.1.1.2
  unfold near at hnv
  obtain ⟨k1, k2, k3, k4⟩ := of_kinds op
  have hkk : s.kind = 1 ∨ s.kind = 2 ∨ s.kind = 3 ∨ s.kind = 4 := by omega
  rcases hkk with hs | hs | hs | hs
  · -- a register
    have ho := k1 (by rw [hof]; exact hs)
    have hn2 : ¬ (s.kind = 2 ∧ ¬ near (s.n + val) 1000000000000000) := fun e => by rw [hs] at e; exact absurd e.1 (by decide)
    have hc : s.kind = 2 → (-9223372036854775808 ≤ s.n + val ∧ s.n + val ≤ 9223372036854775807) ∧ nearB (s.n + val) 1000000000000000 = true := fun e => by rw [hs] at e; exact absurd e (by decide)
    unfold doR
    rw [if_neg hof', if_neg hf', if_neg hn2]
    rcases ho with e | e
    · rw [if_pos (.inl e)]
      exact do_goes s.kind s.n hk s.text op key val 81 (by rw [hs, e]; rfl) hf hc _ _ _ _ _ w hG (fun W _ => number_op _ _ _ _ _ W)
    · rw [if_neg (by omega), if_pos e]
      exact do_goes s.kind s.n hk s.text op key val 82 (by rw [hs, e]; rfl) hf hc _ _ _ _ _ w hG (fun W _ => write_op _ _ _ _ _ W)
  · -- a counter
    have ho := k2 (by rw [hof]; exact hs)
    have hnn := h.cnt hs
    unfold near at hnn
    have h0 : -9223372036854775808 ≤ s.n + val ∧ s.n + val ≤ 9223372036854775807 := by omega
    by_cases hn : near (s.n + val) 1000000000000000
    · have hn2 : ¬ (s.kind = 2 ∧ ¬ near (s.n + val) 1000000000000000) := fun e => e.2 hn
      have hc : s.kind = 2 → (-9223372036854775808 ≤ s.n + val ∧ s.n + val ≤ 9223372036854775807) ∧ nearB (s.n + val) 1000000000000000 = true := fun _ => ⟨h0, decide_eq_true hn⟩
      unfold doR
      rw [if_neg hof', if_neg hf', if_neg hn2]
      rcases ho with e | e
      · rw [if_neg (by omega), if_neg (by omega), if_pos e]
        exact do_goes s.kind s.n hk s.text op key val 83 (by rw [hs, e]; rfl) hf hc _ _ _ _ _ w hG (fun W _ => add_op _ _ _ _ _ h0.1 h0.2 W)
      · rw [if_pos (.inr e)]
        exact do_goes s.kind s.n hk s.text op key val 81 (by rw [hs, e]; rfl) hf hc _ _ _ _ _ w hG (fun W _ => number_op _ _ _ _ _ W)
    · have hg : ∃ g, opFn 2 op = some g := by rcases ho with e | e <;> (rw [e]; exact ⟨_, rfl⟩)
      obtain ⟨g, hg⟩ := hg
      unfold doR
      rw [if_neg hof', if_neg hf', if_pos ⟨hs, hn⟩, hs]
      exact do_over s.n s.text op key val g hg hf h0.1 h0.2 (decide_eq_false hn) w hG
  · -- a queue
    have ho := k3 (by rw [hof]; exact hs)
    have hn2 : ¬ (s.kind = 2 ∧ ¬ near (s.n + val) 1000000000000000) := fun e => by rw [hs] at e; exact absurd e.1 (by decide)
    have hc : s.kind = 2 → (-9223372036854775808 ≤ s.n + val ∧ s.n + val ≤ 9223372036854775807) ∧ nearB (s.n + val) 1000000000000000 = true := fun e => by rw [hs] at e; exact absurd e (by decide)
    have hql := ok_qlen h
    have ht := text_queue h hs
    have hks := h.ks (by omega)
    unfold doR
    rw [if_neg hof', if_neg hf', if_neg hn2]
    rcases ho with e | e
    · rw [if_neg (by omega), if_neg (by omega), if_neg (by omega), if_pos e]
      have e2 : ({ s with vals := s.vals ++ [val] } : PS).text = s.text ++ 32 :: Lib.itoa val := by
        show qtext (s.vals ++ [val]) ++ mtext s.kvs = _
        rw [ht, hks, qtext_app]
        simp [qtext, mtext]
      show DoIs _ _ _ _ _ _ (.tuple #[stv s.kind s.n ({ s with vals := s.vals ++ [val] } : PS).text, .int .i64 1, .int .i64 0, .nilIface]) w
      rw [e2]
      exact do_goes s.kind s.n hk s.text op key val 85 (by rw [hs, e]; rfl) hf hc _ _ _ _ _ w hG (fun W hW => enq_op _ _ _ _ _ hval W hW (by rw [ht]; omega))
    · rw [if_neg (by omega), if_neg (by omega), if_neg (by omega), if_neg (by omega), if_pos e]
      cases hv : s.vals with
      | nil =>
        have e2 : s.text = [] := by rw [ht, hv]; rfl
        show DoIs _ _ _ _ _ _ (.tuple #[stv s.kind s.n s.text, .int .i64 2, .int .i64 0, .nilIface]) w
        rw [e2]
        exact do_goes s.kind s.n hk [] op key val 84 (by rw [hs, e]; rfl) hf hc _ _ _ _ _ w hG (fun W hW => deq_none _ _ _ _ W hW)
      | cons v t =>
        have e2 : s.text = 32 :: (Lib.itoa v ++ qtext t) := by rw [ht, hv]; rfl
        have e3 : ({ s with vals := t } : PS).text = qtext t := by
          show qtext t ++ mtext s.kvs = _
          rw [hks]; simp [mtext]
        show DoIs _ _ _ _ _ _ (.tuple #[stv s.kind s.n ({ s with vals := t } : PS).text, .int .i64 3, .int .i64 v, .nilIface]) w
        rw [e2, e3]
        have hvv := near_fits (h.vb v (by rw [hv]; simp)) (by decide)
        exact do_goes s.kind s.n hk _ op key val 84 (by rw [hs, e]; rfl) hf hc _ _ _ _ _ w hG (fun W hW => deq_some _ _ _ _ hvv (qtext_shape t) (by rw [hv] at hql; simp [qtext] at hql; omega) _ _ W hW)
  · -- a map
    have ho := k4 (by rw [hof]; exact hs)
    have hn2 : ¬ (s.kind = 2 ∧ ¬ near (s.n + val) 1000000000000000) := fun e => by rw [hs] at e; exact absurd e.1 (by decide)
    have hc : s.kind = 2 → (-9223372036854775808 ≤ s.n + val ∧ s.n + val ≤ 9223372036854775807) ∧ nearB (s.n + val) 1000000000000000 = true := fun e => by rw [hs] at e; exact absurd e (by decide)
    have hml := ok_mlen h
    have ht := text_map h hs
    have hvs := h.vs (by omega)
    have hkv := ok_kv h
    have eT : ∀ l, ({ s with kvs := l } : PS).text = mtext l := fun l => by
      show qtext s.vals ++ mtext l = _
      rw [hvs]; simp [qtext]
    unfold doR
    rw [if_neg hof', if_neg hf', if_neg hn2]
    rcases ho with e | e | e
    · rw [if_neg (by omega), if_neg (by omega), if_neg (by omega), if_neg (by omega), if_neg (by omega), if_pos e]
      show DoIs _ _ _ _ _ _ (.tuple #[stv s.kind s.n ({ s with kvs := mput key val s.kvs } : PS).text, .int .i64 1, .int .i64 0, .nilIface]) w
      rw [eT (mput key val s.kvs), ht]
      exact do_goes s.kind s.n hk _ op key val 86 (by rw [hs, e]; rfl) hf hc _ _ _ _ _ w hG (fun W hW => put_op _ _ _ hkv (by omega) _ _ hkey hval W hW)
    · rw [if_neg (by omega), if_neg (by omega), if_neg (by omega), if_neg (by omega), if_neg (by omega), if_neg (by omega), if_pos e]
      cases hg : mget key s.kvs with
      | none =>
        have hl : lookR key s.kvs = (2, 0) := by unfold lookR; rw [hg]
        show DoIs _ _ _ _ _ _ (.tuple #[stv s.kind s.n s.text, .int .i64 2, .int .i64 0, .nilIface]) w
        rw [ht]
        exact do_goes s.kind s.n hk _ op key val 87 (by rw [hs, e]; rfl) hf hc _ _ _ _ _ w hG (fun W hW => by have := look_op s.kind s.n _ hkv (by omega) key val W hW; rw [hl] at this; exact this)
      | some v =>
        have hl : lookR key s.kvs = (3, v) := by unfold lookR; rw [hg]
        show DoIs _ _ _ _ _ _ (.tuple #[stv s.kind s.n s.text, .int .i64 3, .int .i64 v, .nilIface]) w
        rw [ht]
        exact do_goes s.kind s.n hk _ op key val 87 (by rw [hs, e]; rfl) hf hc _ _ _ _ _ w hG (fun W hW => by have := look_op s.kind s.n _ hkv (by omega) key val W hW; rw [hl] at this; exact this)
    · rw [if_neg (by omega), if_neg (by omega), if_neg (by omega), if_neg (by omega), if_neg (by omega), if_neg (by omega), if_neg (by omega)]
      cases hg : mget key s.kvs with
      | none =>
        have hl : lookR key s.kvs = (2, 0) := by unfold lookR; rw [hg]
        show DoIs _ _ _ _ _ _ (.tuple #[stv s.kind s.n s.text, .int .i64 2, .int .i64 0, .nilIface]) w
        rw [ht]
        exact do_goes s.kind s.n hk _ op key val 88 (by rw [hs, e]; rfl) hf hc _ _ _ _ _ w hG (fun W hW => by have := del_op s.kind s.n _ hkv (by omega) key val W hW; rw [hl, mdel_none hg] at this; exact this)
      | some v =>
        have hl : lookR key s.kvs = (3, v) := by unfold lookR; rw [hg]
        show DoIs _ _ _ _ _ _ (.tuple #[stv s.kind s.n ({ s with kvs := mdel key s.kvs } : PS).text, .int .i64 3, .int .i64 v, .nilIface]) w
        rw [eT (mdel key s.kvs), ht]
        exact do_goes s.kind s.n hk _ op key val 88 (by rw [hs, e]; rfl) hf hc _ _ _ _ _ w hG (fun W hW => by have := del_op s.kind s.n _ hkv (by omega) key val W hW; rw [hl] at this; exact this)
end Go.Proofs.YtcjfcomadcebnaaGreatDoor

/- ValidObject, New, Kind, Key, Len, Same, by contracts. -/
namespace Go.Proofs.YtcjfcomadcebnaaGreatDoor
open Go.RowKit Go.Maps Go.WideMaps Go.WideElems Go.ChangeShapes Go.WideShapes

variable {T : TypeId} {er : Nat → Addr}

set_option maxRecDepth 100000 in
theorem inside_val (n : Int) (w : World) (hW : BoundsAt w) : Calls Tryz.prog 94 #[.int .i64 6, .int .i64 n] w fun e w' => e = .returned (.bool (nearB n 1000000000)) ∧ w = w' := by
  have c0 : w.cell? ⟨5, 12, none⟩ = some (.int .i64 (-1000000000)) := hW 12 (by decide)
  have c1 : w.cell? ⟨5, 13, none⟩ = some (.int .i64 1000000000) := hW 13 (by decide)
  obtain ⟨R, hR⟩ : ∃ R, R = nearB n 1000000000 := ⟨_, rfl⟩
  rw [← hR]
  have HR := Lib.hid hR
  clear hR hW
  by_cases h1 : -1000000000 ≤ n
  · by_cases h2 : n ≤ 1000000000
    · have HR' : Hid (R = true) := by show _ = _; rw [HR.out]; exact decide_eq_true ⟨h1, h2⟩
      go_enter Tryz.func94, Tryz.ntmps94
      go_wp2
      go_ret
      exact ⟨by rw [HR'.out]; simp, rfl⟩
    · have HR' : Hid (R = false) := by show _ = _; rw [HR.out]; exact decide_eq_false (fun h => h2 h.2)
      go_enter Tryz.func94, Tryz.ntmps94
      go_wp2
      go_ret
      exact ⟨by rw [HR'.out]; simp, rfl⟩
  · have HR' : Hid (R = false) := by show _ = _; rw [HR.out]; exact decide_eq_false (fun h => h1 h.1)
    go_enter Tryz.func94, Tryz.ntmps94
    go_wp2
    go_ret
    exact ⟨by rw [HR'.out]; first | rfl | simp [h1], rfl⟩
theorem begins_any (k : Int) (w : World) : Calls Tryz.prog 95 #[.int .i64 k] w fun e w' => e = .returned (.bool (k == 1 || k == 2)) ∧ w = w' := by
  by_cases h1 : k = 1
  · subst h1
    go_enter Tryz.func95, Tryz.ntmps95
    go_wp2
    go_ret
    exact ⟨rfl, rfl⟩
  by_cases h2 : k = 2
  · subst h2
    go_enter Tryz.func95, Tryz.ntmps95
    go_wp2
    go_ret
    exact ⟨rfl, rfl⟩
  · have e1 : (k == 1) = false := by simpa using h1
    have e2 : (k == 2) = false := by simpa using h2
    go_enter Tryz.func95, Tryz.ntmps95
    go_wp2
    go_ret
    exact ⟨by rw [e1, e2]; rfl, rfl⟩

/-- Whether an object may be. -/
def validO (k i : Int) : Bool := !(wordL 1 k).isEmpty && nearB i 1000000000 && (i == 0 || (k == 1 || k == 2))
/-- What is told of an object. -/
def validOV (T : TypeId) (er : Nat → Addr) (k i : Int) : Value := if validO k i then .nilIface else errE T er 3

theorem obox (w : World) (k i : Int) : (w.alloc (.cells #[.int .i64 k, .int .i64 i] 83)).cell? ⟨w.heap.size, 0, none⟩ = some (.int .i64 k) ∧ (w.alloc (.cells #[.int .i64 k, .int .i64 i] 83)).cell? ⟨w.heap.size, 1, none⟩ = some (.int .i64 i) := by
  rw [World.cell?_alloc_new, World.cell?_alloc_new]
  exact ⟨rfl, rfl⟩

set_option maxRecDepth 100000 in
theorem validObject_any (k i : Int) (w : World) (hG : Glob T er w) : Calls Tryz.prog 71 #[.agg #[.int .i64 k, .int .i64 i]] w fun e w' => e = .returned (validOV T er k i) ∧ Hid (Below w.heap.size w w') := by
  obtain ⟨W, hW⟩ : ∃ W, w.alloc (.cells #[.int .i64 k, .int .i64 i] 83) = W := ⟨_, rfl⟩
  have hal : Below w.heap.size w W := by rw [← hW]; exact (Below.refl _ _).alloc (Nat.le_refl _) _
  obtain ⟨c0, c1⟩ := obox w k i
  rw [hW] at c0 c1
  have hGW := hG.below' hal
  have e3 := hGW.eObject
  have Hw := Lib.hid (word_any 1 k W hGW.words)
  have Hi := Lib.hid (inside_val i W hGW.bounds)
  have Hb := Lib.hid (begins_any k W)
  have Hal := Lib.hid hal
  obtain ⟨R, hR⟩ : ∃ R, R = validOV T er k i := ⟨_, rfl⟩
  rw [← hR]
  unfold validOV validO at hR
  generalize wordL 1 k = x at *
  generalize nearB i 1000000000 = nb at *
  obtain ⟨bb, hbb⟩ : ∃ bb, bb = (k == 1 || k == 2) := ⟨_, rfl⟩
  rw [← hbb] at hR Hb
  obtain ⟨iz, hiz⟩ : ∃ iz, (i == 0) = iz := ⟨_, rfl⟩
  rw [hiz] at hR
  obtain ⟨xe, hxe⟩ : ∃ xe, x.isEmpty = xe := ⟨_, rfl⟩
  rw [hxe] at hR
  have hiz' : (i != 0) = !iz := by rw [← hiz]; rfl
  have HR := Lib.hid hR
  clear hal hGW hG hR hbb
  cases xe <;> cases nb <;> cases iz <;> cases bb
  all_goals
    go_enter Tryz.func71, Tryz.ntmps71
    go_wp2_with (first | (go_at_call 39; refine Hw.out.mono ?_; rintro e w' ⟨rfl, rfl⟩) | (go_at_call 94; refine Hi.out.mono ?_; rintro e w' ⟨rfl, rfl⟩) | (go_at_call 95; refine Hb.out.mono ?_; rintro e w' ⟨rfl, rfl⟩))
    go_ret
    exact ⟨by rw [HR.out]; rfl, Hal.out⟩
end Go.Proofs.YtcjfcomadcebnaaGreatDoor

/- New, Kind, Key, Len, Same, by contracts. -/
namespace Go.Proofs.YtcjfcomadcebnaaGreatDoor
open Go.RowKit Go.Maps Go.WideMaps Go.WideElems Go.ChangeShapes Go.WideShapes

variable {T : TypeId} {er : Nat → Addr}

theorem res54 (tmps : Array Value) (W : World) (Z : Nat) (k n : Int) (l : List UInt8) (v3 : Value) (h : StAt W Z k n l) (h2 : tmps.getD 2 undef = .pointer (some ⟨Z, 0, none⟩)) (h3 : tmps.getD 3 undef = v3) : (results Tryz.f54 tmps).run Tryz.prog W = .ok (.tuple #[stv k n l, v3]) W := by
  have hl := load_st h
  clear h
  have h2' : tmps[2]?.getD undef = .pointer (some ⟨Z, 0, none⟩) := by simpa using h2
  have h3' : tmps[3]?.getD undef = v3 := by simpa using h3
  simp [results, Tryz.results54, h2', h3', asAddr, hl]

/-- What New answers. -/
def newV (T : TypeId) (er : Nat → Addr) (k i : Int) : Value := if validO k i then .tuple #[stv k i [], .nilIface] else .tuple #[stv 0 0 [], errE T er 3]

set_option maxRecDepth 100000 in
theorem new_any (k i : Int) (w : World) (hG : Glob T er w) : Calls Tryz.prog 54 #[.agg #[.int .i64 k, .int .i64 i]] w fun e w' => e = .returned (newV T er k i) ∧ Hid (Below w.heap.size w w') := by
  obtain ⟨W1, hW1⟩ : ∃ W1, w.alloc (.cells #[.int .i64 k, .int .i64 i] 83) = W1 := ⟨_, rfl⟩
  have hal1 : Below w.heap.size w W1 := by rw [← hW1]; exact (Below.refl _ _).alloc (Nat.le_refl _) _
  have hs1 : W1.heap.size = w.heap.size + 1 := by rw [← hW1]; exact Array.size_push ..
  obtain ⟨c0, c1⟩ := obox w k i
  rw [hW1] at c0 c1
  obtain ⟨W, hW⟩ : ∃ W, W1.alloc (.cells #[.int .i64 0, .int .i64 0, .string ⟨#[]⟩] 34) = W := ⟨_, rfl⟩
  have hal2 : Below W1.heap.size W1 W := by rw [← hW]; exact (Below.refl _ _).alloc (Nat.le_refl _) _
  have hz : StAt W (w.heap.size + 1) 0 0 [] := by
    have := stAt_new W1 0 0 []
    rw [hs1] at this
    rw [← hW]; exact this
  have hlt : w.heap.size < W1.heap.size := by omega
  have q0 : W.cell? ⟨w.heap.size, 0, none⟩ = some (.int .i64 k) := (hal2.cell (p := ⟨w.heap.size, 0, none⟩) hlt).trans c0
  have q1 : W.cell? ⟨w.heap.size, 1, none⟩ = some (.int .i64 i) := (hal2.cell (p := ⟨w.heap.size, 1, none⟩) hlt).trans c1
  have hbW := hal1.trans (hal2.mono hal1.size)
  have Hv := Lib.hid (validObject_any k i W (hG.below' hbW))
  have HW : Hid (Below w.heap.size w W ∧ StAt W (w.heap.size + 1) 0 0 [] ∧ W.cell? ⟨w.heap.size, 0, none⟩ = some (.int .i64 k) ∧ W.cell? ⟨w.heap.size, 1, none⟩ = some (.int .i64 i)) := ⟨hbW, hz, q0, q1⟩
  have hltW : w.heap.size < W.heap.size := World.block_lt_of_cell? W _ q0
  obtain ⟨R, hR⟩ : ∃ R, R = newV T er k i := ⟨_, rfl⟩
  rw [← hR]
  unfold newV at hR
  unfold validOV at Hv
  generalize validO k i = b at *
  have HR := Lib.hid hR
  have Hlt := Lib.hid hltW
  clear hR hG hbW hz hal2 hal1 c0 c1 hlt hltW
  cases b
  · have Hv' : Hid (Calls Tryz.prog 71 #[.agg #[.int .i64 k, .int .i64 i]] W fun e w' => e = .returned (errE T er 3) ∧ Hid (Below W.heap.size W w')) := Hv
    have HR' : Hid (R = .tuple #[stv 0 0 [], errE T er 3]) := HR
    clear Hv HR
    go_enter Tryz.func54, Tryz.ntmps54
    go_wp2_with (first | (go_at_call 71; refine Hv'.out.mono ?_; rintro e w2 ⟨rfl, hb2⟩; have h2 : Hid (Below w.heap.size w w2 ∧ StAt w2 (w.heap.size + 1) 0 0 []) := ⟨HW.out.1.trans (hb2.out.mono HW.out.1.size), HW.out.2.1.below' hb2.out⟩; clear hb2 q0 q1; obtain ⟨d0, d1, d2, fz⟩ := h2.out.2))
    exact bodyPost_ret (res54 _ _ (w.heap.size + 1) 0 0 [] _ h2.out.2.set rfl rfl) rfl ⟨congrArg _ HR'.out.symm, setSt_below h2.out.1 (by omega) _ _ _⟩
  · have Hv' : Hid (Calls Tryz.prog 71 #[.agg #[.int .i64 k, .int .i64 i]] W fun e w' => e = .returned .nilIface ∧ Hid (Below W.heap.size W w')) := Hv
    have HR' : Hid (R = .tuple #[stv k i [], .nilIface]) := HR
    clear Hv HR
    go_enter Tryz.func54, Tryz.ntmps54
    go_wp2_with (first | (go_at_call 71; refine Hv'.out.mono ?_; rintro e w2 ⟨rfl, hb2⟩; have h2 : Hid (Below w.heap.size w w2 ∧ StAt w2 (w.heap.size + 1) 0 0 []) := ⟨HW.out.1.trans (hb2.out.mono HW.out.1.size), HW.out.2.1.below' hb2.out⟩; have q0' := (hb2.out.cell (p := ⟨w.heap.size, 0, none⟩) Hlt.out).trans HW.out.2.2.1; have q1' := (hb2.out.cell (p := ⟨w.heap.size, 1, none⟩) Hlt.out).trans HW.out.2.2.2; clear hb2 q0 q1; obtain ⟨d0, d1, d2, fz⟩ := h2.out.2))
    exact bodyPost_ret (res54 _ _ (w.heap.size + 1) k i [] _ h2.out.2.set rfl rfl) rfl ⟨congrArg _ HR'.out.symm, setSt_below h2.out.1 (by omega) _ _ _⟩

set_option maxRecDepth 100000 in
theorem kind_any (k n : Int) (l : List UInt8) (w : World) : Calls Tryz.prog 14 #[stv k n l] w fun e w' => e = .returned (.int .i64 k) ∧ Hid (Below w.heap.size w w') := by
  go_enter Tryz.func14, Tryz.ntmps14
  go_wp2
  go_ret
  exact ⟨rfl, (Below.refl _ _).alloc (Nat.le_refl _) _⟩

theorem same_any (k n k' n' : Int) (l l' : List UInt8) (w : World) : Calls Tryz.prog 44 #[stv k n l, stv k' n' l'] w fun e w' => e = .returned (.bool (decide (k = k') && decide (n = n') && decide (l = l'))) ∧ Hid (Below w.heap.size w w') := by
  have h2 : ∀ o o', Below w.heap.size w ((w.alloc o).alloc o') := fun o o' => by
    have h1 : Below w.heap.size w (w.alloc o) := (Below.refl _ _).alloc (Nat.le_refl _) _
    exact h1.alloc h1.size _
  have H2 := Lib.hid h2
  clear h2
  go_enter Tryz.func44, Tryz.ntmps44
  go_wp2
  all_goals
    go_ret
    refine ⟨?_, H2.out _ _⟩
    simp [*]

theorem wordL_len (t c : Int) : (wordL t c).length ≤ 16 := by
  unfold wordL
  split
  · rename_i h
    have : ∀ t : Nat, t < 7 → ∀ c : Nat, c < 10 → ((wrow t).getD c []).length ≤ 16 := by decide
    exact this _ (by omega) _ (by omega)
  · simp

/-- A state's key. -/
def keyT (k n : Int) (l : List UInt8) : List UInt8 := if k = 1 ∨ k = 2 then wordL 1 k ++ 32 :: Lib.itoa n else wordL 1 k ++ l

set_option maxRecDepth 100000 in
set_option maxHeartbeats 1000000 in
theorem key_any (k n : Int) (hn : fits64 n) (l : List UInt8) (hl : l.length ≤ 1000000000) (w : World) (hG : Glob T er w) : Calls Tryz.prog 12 #[stv k n l] w fun e w' => e = .returned (tv (keyT k n l)) ∧ Hid (Below w.heap.size w w') := by
  obtain ⟨W, hW⟩ : ∃ W, w.alloc (.cells #[.int .i64 k, .int .i64 n, tv l] 34) = W := ⟨_, rfl⟩
  have hal : Below w.heap.size w W := by rw [← hW]; exact (Below.refl _ _).alloc (Nat.le_refl _) _
  have hst : StAt W w.heap.size k n l := by rw [← hW]; exact stAt_new w k n l
  have hGW := hG.below' hal
  have Hw := Lib.hid (fun W (h : WordsAt W) => word_any 1 k W h)
  have Hp := Lib.hid (fun W (h : Glob T er W) => print_any n hn.1 hn.2 W h)
  have hil := itoa_len n hn.1 hn.2
  have hwl := wordL_len 1 k
  have Hk : Hid (Below w.heap.size w W ∧ StAt W w.heap.size k n l ∧ Glob T er W) := ⟨hal, hst, hGW⟩
  obtain ⟨R, hR⟩ : ∃ R, R = keyT k n l := ⟨_, rfl⟩
  rw [← hR]
  unfold keyT at hR
  obtain ⟨c0, c1, c2, fr⟩ := hst
  by_cases h12 : k = 1 ∨ k = 2
  · rw [if_pos h12] at hR
    have hcat : ((⟨(wordL 1 k).toArray⟩ : ByteArray) ++ ⟨#[32]⟩) ++ ⟨(Lib.itoa n).toArray⟩ = ⟨R.toArray⟩ := by
      rw [show (⟨#[32]⟩ : ByteArray) = ⟨[32].toArray⟩ from rfl, cat_tv, cat_tv, hR]; simp
    generalize wordL 1 k = x at *
    generalize Lib.itoa n = y at *
    have ht : (k == 1) = true ∨ ((k == 1) = false ∧ (k == 2) = true) := by
      rcases h12 with h | h
      · left; simpa using h
      · right; subst h; exact ⟨rfl, rfl⟩
    clear hR hal hGW hG h12
    rcases ht with ht | ⟨ht, ht2⟩
    all_goals
      go_enter Tryz.func12, Tryz.ntmps12
      go_wp2
      go_region_with (first | (go_at_call 39; refine (Hw.out _ (by first | exact Hk.out.2.2.drew.words | exact HG2.out.words)).mono ?_; rintro e w' ⟨rfl, rfl⟩) | (go_at_call 40; refine (Hp.out _ Hk.out.2.2.drew).mono ?_; rintro e w2 ⟨rfl, hb2⟩; have HG2 := Lib.hid (Hk.out.2.2.drew.below' hb2.out); have hst2 := Hk.out.2.1.drew.below' hb2.out; have H2 := Lib.hid ((below_drew Hk.out.1).trans (hb2.out.mono Hk.out.1.size)); clear hb2 c0 c1 c2 fr; obtain ⟨c0, c1, c2, fr⟩ := hst2))
      all_goals
        try rw [hcat]
        go_wp2
        go_ret
        exact ⟨rfl, H2.out⟩
  · rw [if_neg h12] at hR
    have hcat : (⟨(wordL 1 k).toArray⟩ : ByteArray) ++ ⟨l.toArray⟩ = ⟨R.toArray⟩ := by rw [cat_tv, hR]
    generalize wordL 1 k = x at *
    have e1 : (k == 1) = false := by simp; omega
    have e2 : (k == 2) = false := by simp; omega
    clear hR hal hGW hG h12
    go_enter Tryz.func12, Tryz.ntmps12
    go_wp2
    go_region_with (first | (go_at_call 39; refine (Hw.out _ Hk.out.2.2.drew.words).mono ?_; rintro e w' ⟨rfl, rfl⟩))
    all_goals
      try rw [hcat]
      go_wp2
      go_ret
      exact ⟨rfl, below_drew Hk.out.1⟩
end Go.Proofs.YtcjfcomadcebnaaGreatDoor

/- Lists that never change: elements as rows of cells; clone, has, All, Len, At, And, With, by contracts. -/
namespace Go.Proofs.YtcjfcomadcebnaaGreatDoor
open Go.RowKit Go.Maps Go.WideMaps Go.WideElems Go.ChangeShapes Go.WideShapes

/-- Cells that lie behind a slice's address. -/
def SlAt (W : World) (a : Option Addr) (xs : List Value) : Prop := (a = none ∧ xs = []) ∨ ∃ b off, a = some ⟨b, off, none⟩ ∧ (xs ≠ [] → b < W.heap.size) ∧ ∀ j u, xs[j]? = some u → W.cell? ⟨b, off + j, none⟩ = some u
theorem SlAt.below {W W' : World} {a : Option Addr} {xs : List Value} (h : SlAt W a xs) (hb : Below W.heap.size W W') : SlAt W' a xs := by
  rcases h with h | ⟨b, off, e, hl, h⟩
  · exact .inl h
  · refine .inr ⟨b, off, e, fun hx => Nat.lt_of_lt_of_le (hl hx) hb.size, fun j u hj => ?_⟩
    have hne : xs ≠ [] := by intro e'; rw [e'] at hj; simp at hj
    exact (hb.cell (p := ⟨b, off + j, none⟩) (hl hne)).trans (h j u hj)
theorem SlAt.drew {W : World} {a : Option Addr} {xs : List Value} (h : SlAt W a xs) : SlAt W.drew a xs := h
/-- A row of one's own, read. -/
theorem row_sl {W : World} {B : Nat} {e : TypeId} {size n : Nat} {v : Value} {xs : List Value} (h : W.ownsRow B e size v n xs) : ∃ a c, v = .slice a n c ∧ SlAt W a xs ∧ n ≤ c := by
  obtain ⟨hl, ⟨rfl, h0⟩ | ⟨g, cap, cur, rfl, hb, hg, hn, hm, hs, ht⟩⟩ := h
  · subst h0
    exact ⟨none, 0, rfl, .inl ⟨rfl, List.eq_nil_of_length_eq_zero (by rw [hl]; simp)⟩, Nat.le_refl _⟩
  · refine ⟨_, cap, rfl, .inr ⟨g, 0, rfl, fun _ => (Array.getElem?_eq_some_iff.1 hg).1, fun j u hj => ?_⟩, hn⟩
    rw [Nat.zero_add]
    have hj2 : cur[j]? = some u := by
      rw [← ht, List.getElem?_take] at hj
      split at hj
      · simpa using hj
      · cases hj
    simp [World.cell?, hg, hj2]
theorem Below.of_own {w W1 W2 : World} (hb : Below w.heap.size w W1) {v : Value} (hg : W1.grownBy W2 v.ownBlock) (hB : ∀ k, v.ownBlock = some k → w.heap.size ≤ k) : Below w.heap.size w W2 :=
  hb.grown hg hb.size (fun k hk => hB k hk)

set_option maxHeartbeats 2000000 in
set_option maxRecDepth 100000 in
theorem clone_int (a : Option Addr) (n c : Nat) (xs : List Value) (hx : xs.length = n * 1) (h1 : ∀ u ∈ xs, u.oneCell' = true) (hn : n ≤ 1000000) (w : World) (h : SlAt w a xs) :
    Calls Tryz.prog 46 #[.slice a n c] w fun e w' => ∃ v', e = .returned v' ∧ Hid (w'.ownsRow w.heap.size 3 1 v' n xs ∧ Below w.heap.size w w') := by
  obtain ⟨i0, hi, hz0, hz1, hz2⟩ := info_parts (P := Tryz.prog) (e := 3) (z := .int .i64 0) (size := 1) (bytes := 8) (by kernel_rfl)
  have q22 : ∀ (w : World) (a : Option Addr) (n c n' c' : Nat), (Go.binOp .eql 37 (.slice a n c) (.slice none n' c')).run Tryz.prog w = .ok (.bool a.isNone) w := fun w a n c n' c' => Lib.run_eql_slice_nil w _ _ a n c n' c' Tryz.underlying37
  rcases h with ⟨rfl, rfl⟩ | ⟨b, off, rfl, hbl, hc⟩
  · have hn0 : n = 0 := by simp at hx; omega
    subst hn0
    clear hx h1 hn
    go_enter Tryz.func46, Tryz.ntmps46
    go_wp2
    go_ret
    exact ⟨_, rfl, ⟨rfl, .inl ⟨rfl, rfl⟩⟩, Below.refl _ _⟩
  have A : Aside (∀ j u, xs[j]? = some u → w.cell? ⟨b, off + j, none⟩ = some u) := hc
  have Hx := Lib.hid hx
  have H1 := Lib.hid h1
  clear hc hbl hx h1
  go_enter Tryz.func46, Tryz.ntmps46
  go_wp2_with (at_builtin; refine wpList_append_own _ rfl _ _ 37 rfl w.heap.size 3 i0 (.int .i64 0) 1 8 Tryz.underlying37 hi hz0 hz1 hz2 rfl (by decide) _ _ _ rfl (World.ownsRow_made w #[] 0 (Nat.le_refl _) (Nat.zero_le _) rfl) ⟨b, off, none⟩ n c xs rfl ?qc1 ?qc2 ?qc3 ?qc4 ?qc5 ?qc6 ?_)
  case qc1 => exact Hx.out
  case qc2 =>
    intro j u hj
    rw [Addr.add_lit]
    refine Lib.cell?_alloc_some _ ?_
    exact A.out j u hj
  case qc3 => exact H1.out
  case qc4 => unfold maxLen; omega
  case qc5 => omega
  case qc6 => simp
  intro v' w1 hown hgrow hnil
  have Ho : Hid (w1.ownsRow w.heap.size 3 1 v' n xs ∧ Below w.heap.size w w1) := ⟨by simpa using hown, ((Below.refl _ w).alloc (Nat.le_refl _) _).grown hgrow (by simp) (by intro k hk; simp [Value.ownBlock] at hk; omega)⟩
  clear hown hgrow hnil
  go_wp2
  go_ret
  exact ⟨v', rfl, Ho.out⟩

set_option maxRecDepth 100000 in
theorem len_int (a : Option Addr) (n c : Nat) (w : World) : Calls Tryz.prog 27 #[.agg #[.slice a n c]] w fun e w' => e = .returned (.int .i64 n) ∧ Hid (Below w.heap.size w w') := by
  go_enter Tryz.func27, Tryz.ntmps27
  go_wp2
  go_ret
  exact ⟨rfl, (Below.refl _ _).alloc (Nat.le_refl _) _⟩

set_option maxRecDepth 100000 in
theorem all_int (a : Option Addr) (n c : Nat) (xs : List Value) (hx : xs.length = n * 1) (h1 : ∀ u ∈ xs, u.oneCell' = true) (hn : n ≤ 1000000) (w : World) (h : SlAt w a xs) :
    Calls Tryz.prog 26 #[.agg #[.slice a n c]] w fun e w' => ∃ v', e = .returned v' ∧ Hid (w'.ownsRow w.heap.size 3 1 v' n xs ∧ Below w.heap.size w w') := by
  obtain ⟨W, hW⟩ : ∃ W, w.alloc (.cells #[.slice a n c] 54) = W := ⟨_, rfl⟩
  have hb : Below w.heap.size w W := by rw [← hW]; exact (Below.refl _ _).alloc (Nat.le_refl _) _
  have hc : W.cell? ⟨w.heap.size, 0, none⟩ = some (.slice a n c) := by rw [← hW]; exact (Boxed.new w 54 _).cell
  have Hcl := Lib.hid (clone_int a n c xs hx h1 hn W (h.below hb))
  have Hb := Lib.hid hb
  clear hx h1 hn h hb
  go_enter Tryz.func26, Tryz.ntmps26
  go_wp2_with (first | (go_at_call 46; refine Hcl.out.mono ?_; rintro e w2 ⟨v', rfl, h2⟩))
  go_ret
  obtain ⟨hl, hd⟩ := h2.out.1
  exact ⟨v', rfl, ⟨hl, hd.imp id fun ⟨g, cap, cur, e, hB, r⟩ => ⟨g, cap, cur, e, Nat.le_trans Hb.out.size hB, r⟩⟩, Hb.out.trans (h2.out.2.mono Hb.out.size)⟩

set_option maxRecDepth 100000 in
theorem has_int (a : Option Addr) (n c : Nat) (i : Int) (w : World) : Calls Tryz.prog 47 #[.agg #[.slice a n c], .int .i64 i] w fun e w' => e = .returned (.bool (decide (0 ≤ i) && decide (i < n))) ∧ Hid (Below w.heap.size w w') := by
  obtain ⟨p, hp⟩ : ∃ p, decide (0 ≤ i) = p := ⟨_, rfl⟩
  obtain ⟨q, hq⟩ : ∃ q, decide (i < (n : Int)) = q := ⟨_, rfl⟩
  rw [hp, hq]
  cases p <;> cases q
  all_goals
    go_enter Tryz.func47, Tryz.ntmps47
    go_wp2
    go_ret
    exact ⟨rfl, (Below.refl _ _).alloc (Nat.le_refl _) _⟩

set_option maxHeartbeats 2000000 in
set_option maxRecDepth 100000 in
theorem clone_str (a : Option Addr) (n c : Nat) (xs : List Value) (hx : xs.length = n * 1) (h1 : ∀ u ∈ xs, u.oneCell' = true) (hn : n ≤ 1000000) (w : World) (h : SlAt w a xs) :
    Calls Tryz.prog 48 #[.slice a n c] w fun e w' => ∃ v', e = .returned v' ∧ Hid (w'.ownsRow w.heap.size 9 1 v' n xs ∧ Below w.heap.size w w') := by
  obtain ⟨i0, hi, hz0, hz1, hz2⟩ := info_parts (P := Tryz.prog) (e := 9) (z := .string ⟨#[]⟩) (size := 1) (bytes := 16) (by kernel_rfl)
  have q22 : ∀ (w : World) (a : Option Addr) (n c n' c' : Nat), (Go.binOp .eql 61 (.slice a n c) (.slice none n' c')).run Tryz.prog w = .ok (.bool a.isNone) w := fun w a n c n' c' => Lib.run_eql_slice_nil w _ _ a n c n' c' Tryz.underlying61
  rcases h with ⟨rfl, rfl⟩ | ⟨b, off, rfl, hbl, hc⟩
  · have hn0 : n = 0 := by simp at hx; omega
    subst hn0
    clear hx h1 hn
    go_enter Tryz.func48, Tryz.ntmps48
    go_wp2
    go_ret
    exact ⟨_, rfl, ⟨rfl, .inl ⟨rfl, rfl⟩⟩, Below.refl _ _⟩
  have A : Aside (∀ j u, xs[j]? = some u → w.cell? ⟨b, off + j, none⟩ = some u) := hc
  have Hx := Lib.hid hx
  have H1 := Lib.hid h1
  clear hc hbl hx h1
  go_enter Tryz.func48, Tryz.ntmps48
  go_wp2_with (at_builtin; refine wpList_append_own _ rfl _ _ 61 rfl w.heap.size 9 i0 (.string ⟨#[]⟩) 1 16 Tryz.underlying61 hi hz0 hz1 hz2 rfl (by decide) _ _ _ rfl (World.ownsRow_made w #[] 0 (Nat.le_refl _) (Nat.zero_le _) rfl) ⟨b, off, none⟩ n c xs rfl ?qc1 ?qc2 ?qc3 ?qc4 ?qc5 ?qc6 ?_)
  case qc1 => exact Hx.out
  case qc2 =>
    intro j u hj
    rw [Addr.add_lit]
    refine Lib.cell?_alloc_some _ ?_
    exact A.out j u hj
  case qc3 => exact H1.out
  case qc4 => unfold maxLen; omega
  case qc5 => omega
  case qc6 => simp
  intro v' w1 hown hgrow hnil
  have Ho : Hid (w1.ownsRow w.heap.size 9 1 v' n xs ∧ Below w.heap.size w w1) := ⟨by simpa using hown, ((Below.refl _ w).alloc (Nat.le_refl _) _).grown hgrow (by simp) (by intro k hk; simp [Value.ownBlock] at hk; omega)⟩
  clear hown hgrow hnil
  go_wp2
  go_ret
  exact ⟨v', rfl, Ho.out⟩

set_option maxRecDepth 100000 in
theorem len_str (a : Option Addr) (n c : Nat) (w : World) : Calls Tryz.prog 28 #[.agg #[.slice a n c]] w fun e w' => e = .returned (.int .i64 n) ∧ Hid (Below w.heap.size w w') := by
  go_enter Tryz.func28, Tryz.ntmps28
  go_wp2
  go_ret
  exact ⟨rfl, (Below.refl _ _).alloc (Nat.le_refl _) _⟩

set_option maxRecDepth 100000 in
theorem all_str (a : Option Addr) (n c : Nat) (xs : List Value) (hx : xs.length = n * 1) (h1 : ∀ u ∈ xs, u.oneCell' = true) (hn : n ≤ 1000000) (w : World) (h : SlAt w a xs) :
    Calls Tryz.prog 30 #[.agg #[.slice a n c]] w fun e w' => ∃ v', e = .returned v' ∧ Hid (w'.ownsRow w.heap.size 9 1 v' n xs ∧ Below w.heap.size w w') := by
  obtain ⟨W, hW⟩ : ∃ W, w.alloc (.cells #[.slice a n c] 63) = W := ⟨_, rfl⟩
  have hb : Below w.heap.size w W := by rw [← hW]; exact (Below.refl _ _).alloc (Nat.le_refl _) _
  have hc : W.cell? ⟨w.heap.size, 0, none⟩ = some (.slice a n c) := by rw [← hW]; exact (Boxed.new w 63 _).cell
  have Hcl := Lib.hid (clone_str a n c xs hx h1 hn W (h.below hb))
  have Hb := Lib.hid hb
  clear hx h1 hn h hb
  go_enter Tryz.func30, Tryz.ntmps30
  go_wp2_with (first | (go_at_call 48; refine Hcl.out.mono ?_; rintro e w2 ⟨v', rfl, h2⟩))
  go_ret
  obtain ⟨hl, hd⟩ := h2.out.1
  exact ⟨v', rfl, ⟨hl, hd.imp id fun ⟨g, cap, cur, e, hB, r⟩ => ⟨g, cap, cur, e, Nat.le_trans Hb.out.size hB, r⟩⟩, Hb.out.trans (h2.out.2.mono Hb.out.size)⟩

set_option maxHeartbeats 2000000 in
set_option maxRecDepth 100000 in
theorem clone_sta (a : Option Addr) (n c : Nat) (xs : List Value) (hx : xs.length = n * 3) (h1 : ∀ u ∈ xs, u.oneCell' = true) (hn : n ≤ 1000000) (w : World) (h : SlAt w a xs) :
    Calls Tryz.prog 91 #[.slice a n c] w fun e w' => ∃ v', e = .returned v' ∧ Hid (w'.ownsRow w.heap.size 34 3 v' n xs ∧ Below w.heap.size w w') := by
  obtain ⟨i0, hi, hz0, hz1, hz2⟩ := info_parts (P := Tryz.prog) (e := 34) (z := .agg #[.int .i64 0, .int .i64 0, .string ⟨#[]⟩]) (size := 3) (bytes := 32) (by kernel_rfl)
  have q22 : ∀ (w : World) (a : Option Addr) (n c n' c' : Nat), (Go.binOp .eql 25 (.slice a n c) (.slice none n' c')).run Tryz.prog w = .ok (.bool a.isNone) w := fun w a n c n' c' => Lib.run_eql_slice_nil w _ _ a n c n' c' Tryz.underlying25
  rcases h with ⟨rfl, rfl⟩ | ⟨b, off, rfl, hbl, hc⟩
  · have hn0 : n = 0 := by simp at hx; omega
    subst hn0
    clear hx h1 hn
    go_enter Tryz.func91, Tryz.ntmps91
    go_wp2
    go_ret
    exact ⟨_, rfl, ⟨rfl, .inl ⟨rfl, rfl⟩⟩, Below.refl _ _⟩
  have A : Aside (∀ j u, xs[j]? = some u → w.cell? ⟨b, off + j, none⟩ = some u) := hc
  have Hx := Lib.hid hx
  have H1 := Lib.hid h1
  clear hc hbl hx h1
  go_enter Tryz.func91, Tryz.ntmps91
  go_wp2_with (at_builtin; refine wpList_append_own _ rfl _ _ 25 rfl w.heap.size 34 i0 (.agg #[.int .i64 0, .int .i64 0, .string ⟨#[]⟩]) 3 32 Tryz.underlying25 hi hz0 hz1 hz2 rfl (by decide) _ _ _ rfl (World.ownsRow_made w #[] 0 (Nat.le_refl _) (Nat.zero_le _) rfl) ⟨b, off, none⟩ n c xs rfl ?qc1 ?qc2 ?qc3 ?qc4 ?qc5 ?qc6 ?_)
  case qc1 => exact Hx.out
  case qc2 =>
    intro j u hj
    rw [Addr.add_lit]
    refine Lib.cell?_alloc_some _ ?_
    exact A.out j u hj
  case qc3 => exact H1.out
  case qc4 => unfold maxLen; omega
  case qc5 => omega
  case qc6 => simp
  intro v' w1 hown hgrow hnil
  have Ho : Hid (w1.ownsRow w.heap.size 34 3 v' n xs ∧ Below w.heap.size w w1) := ⟨by simpa using hown, ((Below.refl _ w).alloc (Nat.le_refl _) _).grown hgrow (by simp) (by intro k hk; simp [Value.ownBlock] at hk; omega)⟩
  clear hown hgrow hnil
  go_wp2
  go_ret
  exact ⟨v', rfl, Ho.out⟩

set_option maxRecDepth 100000 in
theorem len_sta (a : Option Addr) (n c : Nat) (w : World) : Calls Tryz.prog 51 #[.agg #[.slice a n c]] w fun e w' => e = .returned (.int .i64 n) ∧ Hid (Below w.heap.size w w') := by
  go_enter Tryz.func51, Tryz.ntmps51
  go_wp2
  go_ret
  exact ⟨rfl, (Below.refl _ _).alloc (Nat.le_refl _) _⟩

set_option maxRecDepth 100000 in
theorem all_sta (a : Option Addr) (n c : Nat) (xs : List Value) (hx : xs.length = n * 3) (h1 : ∀ u ∈ xs, u.oneCell' = true) (hn : n ≤ 1000000) (w : World) (h : SlAt w a xs) :
    Calls Tryz.prog 67 #[.agg #[.slice a n c]] w fun e w' => ∃ v', e = .returned v' ∧ Hid (w'.ownsRow w.heap.size 34 3 v' n xs ∧ Below w.heap.size w w') := by
  obtain ⟨W, hW⟩ : ∃ W, w.alloc (.cells #[.slice a n c] 27) = W := ⟨_, rfl⟩
  have hb : Below w.heap.size w W := by rw [← hW]; exact (Below.refl _ _).alloc (Nat.le_refl _) _
  have hc : W.cell? ⟨w.heap.size, 0, none⟩ = some (.slice a n c) := by rw [← hW]; exact (Boxed.new w 27 _).cell
  have Hcl := Lib.hid (clone_sta a n c xs hx h1 hn W (h.below hb))
  have Hb := Lib.hid hb
  clear hx h1 hn h hb
  go_enter Tryz.func67, Tryz.ntmps67
  go_wp2_with (first | (go_at_call 91; refine Hcl.out.mono ?_; rintro e w2 ⟨v', rfl, h2⟩))
  go_ret
  obtain ⟨hl, hd⟩ := h2.out.1
  exact ⟨v', rfl, ⟨hl, hd.imp id fun ⟨g, cap, cur, e, hB, r⟩ => ⟨g, cap, cur, e, Nat.le_trans Hb.out.size hB, r⟩⟩, Hb.out.trans (h2.out.2.mono Hb.out.size)⟩

set_option maxRecDepth 100000 in
theorem has_sta (a : Option Addr) (n c : Nat) (i : Int) (w : World) : Calls Tryz.prog 61 #[.agg #[.slice a n c], .int .i64 i] w fun e w' => e = .returned (.bool (decide (0 ≤ i) && decide (i < n))) ∧ Hid (Below w.heap.size w w') := by
  obtain ⟨p, hp⟩ : ∃ p, decide (0 ≤ i) = p := ⟨_, rfl⟩
  obtain ⟨q, hq⟩ : ∃ q, decide (i < (n : Int)) = q := ⟨_, rfl⟩
  rw [hp, hq]
  cases p <;> cases q
  all_goals
    go_enter Tryz.func61, Tryz.ntmps61
    go_wp2
    go_ret
    exact ⟨rfl, (Below.refl _ _).alloc (Nat.le_refl _) _⟩
end Go.Proofs.YtcjfcomadcebnaaGreatDoor

/- Lists that never change: Of, At, With, And, of numbers. -/
namespace Go.Proofs.YtcjfcomadcebnaaGreatDoor
open Go.RowKit Go.Maps Go.WideMaps Go.WideElems Go.ChangeShapes Go.WideShapes

theorem row_base {W : World} {B B' : Nat} {e : TypeId} {size n : Nat} {v : Value} {xs : List Value} (h : W.ownsRow B e size v n xs) (hB : B' ≤ B) : W.ownsRow B' e size v n xs :=
  ⟨h.1, h.2.imp id fun ⟨g, cap, cur, e, hb, r⟩ => ⟨g, cap, cur, e, Nat.le_trans hB hb, r⟩⟩
theorem boxed_below {W W' : World} {B B0 : Nat} {t : TypeId} {v : Value} (h : Boxed W B t v) (hb : Below B0 W W') (hB : B < B0) : Boxed W' B t v := (hb.block B hB).trans h
/-- A new box. -/
theorem box_new (w : World) (t : TypeId) (v : Value) : ∃ W, w.alloc (.cells #[v] t) = W ∧ Hid (Below w.heap.size w W) ∧ Hid (w.heap.size < W.heap.size) ∧ Hid (Boxed W w.heap.size t v) := by
  refine ⟨_, rfl, (Below.refl _ _).alloc (Nat.le_refl _) _, ?_, Boxed.new w t v⟩
  show _ < _
  simp

set_option maxRecDepth 100000 in
theorem of_int (a : Option Addr) (n c : Nat) (xs : List Value) (hx : xs.length = n * 1) (h1 : ∀ u ∈ xs, u.oneCell' = true) (hn : n ≤ 1000000) (w : World) (h : SlAt w a xs) :
    Calls Tryz.prog 22 #[.slice a n c] w fun e w' => ∃ v', e = .returned (.agg #[v']) ∧ Hid (w'.ownsRow w.heap.size 3 1 v' n xs ∧ Below w.heap.size w w') := by
  obtain ⟨W, hW, Hb, hs, Hx⟩ := box_new w 54 (.slice none 0 0)
  have Hcl := Lib.hid (clone_int a n c xs hx h1 hn W (h.below Hb.out))
  clear hx h1 hn h
  go_enter Tryz.func22, Tryz.ntmps22
  go_wp2_with (first | (go_at_call 46; refine Hcl.out.mono ?_; rintro e w2 ⟨v', rfl, h2⟩; obtain ⟨a2, c2, rfl, -, -⟩ := row_sl h2.out.1; have HX := Lib.hid (boxed_below Hx.out h2.out.2 hs.out); have hc2 := HX.out.cell; have hf2 := HX.out.frozen))
  refine bodyPost_ret (results_cell_row rfl _ _ w.heap.size 54 #[.slice a2 n c2] (0, 0) _ rfl (HX.out.set _) Tryz.underlying54 rfl (by kernel_rfl)) rfl ?_
  exact ⟨_, rfl, row_base (ownsRow_setCell_below h2.out.1 hs.out _) (Nat.le_of_lt hs.out), (Hb.out.trans (h2.out.2.mono Hb.out.size)).setCell (Nat.le_refl _) _⟩

set_option maxRecDepth 100000 in
theorem at_int (a : Option Addr) (n c : Nat) (zs : List Int) (hx : zs.length = n) (_hn : n ≤ 1000000) (i : Int) (w : World) (h : SlAt w a (zs.map (Value.int .i64))) :
    Calls Tryz.prog 25 #[.agg #[.slice a n c], .int .i64 i] w fun e w' => e = .returned (.tuple #[.int .i64 (if 0 ≤ i ∧ i < n then zs.getD i.toNat 0 else 0), .bool (decide (0 ≤ i) && decide (i < n))]) ∧ Hid (Below w.heap.size w w') := by
  obtain ⟨W, hW, Hb, hs, Hx⟩ := box_new w 54 (.slice a n c)
  have hc0 := Hx.out.cell
  have Hh := Lib.hid (has_int a n c i W)
  by_cases hi : 0 ≤ i ∧ i < n
  · rw [if_pos hi]
    have e1 : (decide (0 ≤ i) && decide (i < (n : Int))) = true := by simp [hi]
    rw [e1] at Hh ⊢
    obtain ⟨k, rfl⟩ : ∃ k : Nat, i = k := ⟨i.toNat, by omega⟩
    have hk : k < n := by omega
    rcases h with ⟨_, h0⟩ | ⟨b, off, rfl, hbl, hc⟩
    · exfalso
      have : zs = [] := by simpa using h0
      subst this; simp at hx; omega
    have hu : w.cell? ⟨b, off + k, none⟩ = some (.int .i64 (zs.getD k 0)) := hc k _ (by simp [hx, hk])
    have hb : b < w.heap.size := World.block_lt_of_cell? w _ hu
    have hu2 := Lib.hid ((Hb.out.cell (p := ⟨b, off + k, none⟩) hb).trans hu)
    simp only [Int.toNat_natCast]
    generalize hy : zs.getD k 0 = y at *
    have hbW := Lib.hid (Nat.lt_trans hb hs.out)
    clear hu hbl hc hy hb hx
    go_enter Tryz.func25, Tryz.ntmps25
    go_wp2_with (first | (go_at_call 47; refine Hh.out.mono ?_; rintro e w2 ⟨rfl, h2⟩; have hc2 := (boxed_below Hx.out h2.out hs.out).cell; have hu3 := (h2.out.cell (p := ⟨b, off + k, none⟩) hbW.out).trans hu2.out))
    go_ret2
    exact ⟨rfl, Hb.out.trans (h2.out.mono Hb.out.size)⟩
  · rw [if_neg hi]
    have e1 : (decide (0 ≤ i) && decide (i < (n : Int))) = false := by simpa using hi
    rw [e1] at Hh ⊢
    clear hi e1 h hx
    go_enter Tryz.func25, Tryz.ntmps25
    go_wp2_with (first | (go_at_call 47; refine Hh.out.mono ?_; rintro e w2 ⟨rfl, h2⟩; have hc2 := (boxed_below Hx.out h2.out hs.out).cell))
    go_ret2
    first | exact ⟨rfl, Hb.out.trans (h2.out.mono Hb.out.size)⟩ | exact ⟨rfl, (Hb.out.trans (h2.out.mono Hb.out.size)).alloc (Nat.le_trans Hb.out.size h2.out.size) _⟩

theorem row_pos {W : World} {B : Nat} {e : TypeId} {size n : Nat} {v : Value} {xs : List Value} (h : W.ownsRow B e size v n xs) (hn : 0 < n) : ∃ g c, v = .slice (some ⟨g, 0, none⟩) n c ∧ B ≤ g ∧ g < W.heap.size := by
  rcases h.2 with ⟨_, h0⟩ | ⟨g, cap, cur, rfl, hb, hg, _⟩
  · omega
  · exact ⟨g, cap, rfl, hb, (Array.getElem?_eq_some_iff.1 hg).1⟩

theorem boxed_setCell {W : World} {B : Nat} {t : TypeId} {v : Value} (h : Boxed W B t v) {p : Addr} (hp : p.block ≠ B) (u : Value) : Boxed (W.setCell p u) B t v := (Below.heap_setCell W p u B (fun e => hp e.symm)).trans h
/-- Two new boxes. -/
theorem box_new2 (w : World) (t u : TypeId) (v x : Value) : ∃ W1 W, w.alloc (.cells #[v] t) = W1 ∧ W1.alloc (.cells #[x] u) = W ∧ Hid (Below w.heap.size w W) ∧ Hid (w.heap.size < W1.heap.size) ∧ Hid (W1.heap.size < W.heap.size) ∧ Hid (Boxed W w.heap.size t v) ∧ Hid (Boxed W W1.heap.size u x) := by
  obtain ⟨W1, h1, Hb, hs, Hx⟩ := box_new w t v
  obtain ⟨W, h2, Hb2, hs2, Hy⟩ := box_new W1 u x
  exact ⟨W1, W, h1, h2, Hb.out.trans (Hb2.out.mono Hb.out.size), hs, hs2, boxed_below Hx.out Hb2.out hs.out, Hy⟩

set_option maxHeartbeats 1000000 in
set_option maxRecDepth 100000 in
theorem with_int_in (a : Option Addr) (n c : Nat) (xs : List Value) (hx : xs.length = n * 1) (h1 : ∀ u ∈ xs, u.oneCell' = true) (hn : n ≤ 1000000) (k : Nat) (hk : k < n) (x : Int) (w : World) (h : SlAt w a xs) :
    Calls Tryz.prog 23 #[.agg #[.slice a n c], .int .i64 k, .int .i64 x] w fun e w' => ∃ v', e = .returned (.agg #[v']) ∧ Hid (w'.ownsRow w.heap.size 3 1 v' n (xs.set k (.int .i64 x)) ∧ Below w.heap.size w w') := by
  obtain ⟨W1, W, hW1, hW, Hb, hs1, hs, Hx, Hy⟩ := box_new2 w 54 54 (.slice a n c) (.slice none 0 0)
  have hc0 := Hx.out.cell
  have Hh := Lib.hid (has_int a n c k W)
  have e1 : (decide (0 ≤ (k : Int)) && decide ((k : Int) < (n : Int))) = true := by simp [hk]
  rw [e1] at Hh
  have Ha := Lib.hid (fun W' (hb : Below w.heap.size w W') => all_int a n c xs hx h1 hn W' (h.below hb))
  have Hl := Lib.hid hx
  clear hx h1 h e1
  go_enter Tryz.func23, Tryz.ntmps23
  go_wp2_with (first
    | (go_at_call 47; refine Hh.out.mono ?_; rintro e w2 ⟨rfl, h2⟩; have hc2 := (boxed_below Hx.out h2.out (Nat.lt_trans hs1.out hs.out)).cell; have Hy2 := Lib.hid (boxed_below Hy.out h2.out hs.out); have Hb2 := Lib.hid (Hb.out.trans (h2.out.mono Hb.out.size)); have hs2 := Lib.hid (Nat.lt_of_lt_of_le hs.out h2.out.size))
    | (go_at_call 26; refine (Ha.out _ Hb2.out).mono ?_; rintro e w3 ⟨v', rfl, h3⟩; obtain ⟨g, c3, rfl, hg, -⟩ := row_pos h3.out.1 (by omega); have Hg := Lib.hid hg; clear hg; have hz := h3.out.1.frozenAt k; have Hy3 := Lib.hid (boxed_below Hy2.out h3.out.2 hs2.out); have Hy4 := Lib.hid (boxed_setCell Hy3.out (p := ⟨g, k, none⟩) (by have h8 := Hg.out; have h9 := hs2.out; show g ≠ _; omega) (.int .i64 x)); have hy3 := Hy4.out.cell; have hyf := Hy4.out.frozen; obtain ⟨u0, hu0⟩ : ∃ u0, xs[k]? = some u0 := ⟨_, List.getElem?_eq_getElem (by rw [Hl.out]; omega)⟩; have hu1 := h3.out.1.cells (g := g) rfl k _ hu0; rw [Addr.add_lit, Nat.zero_add] at hu1; clear hu0))
  refine bodyPost_ret (results_cell_row rfl _ _ W1.heap.size 54 #[.slice (some ⟨g, 0, none⟩) n c3] (0, 0) _ rfl (Hy4.out.set _) Tryz.underlying54 rfl (by kernel_rfl)) rfl ?_
  obtain ⟨hr, hgr⟩ := h3.out.1.stored k (.int .i64 x)
  have hge : w.heap.size ≤ g := Nat.le_trans (Nat.le_of_lt (Nat.lt_trans hs1.out hs2.out)) Hg.out
  exact ⟨_, rfl, row_base (ownsRow_setCell_below hr hs2.out _) (Nat.le_of_lt (Nat.lt_trans hs1.out hs2.out)), ((Hb2.out.trans (h3.out.2.mono Hb2.out.size)).setCell (p := ⟨g, k, none⟩) hge _).setCell (p := ⟨W1.heap.size, 0, none⟩) (Nat.le_of_lt hs1.out) _⟩

set_option maxRecDepth 100000 in
theorem with_int_out (a : Option Addr) (n c : Nat) (i : Int) (hi : ¬(0 ≤ i ∧ i < n)) (x : Int) (w : World) :
    Calls Tryz.prog 23 #[.agg #[.slice a n c], .int .i64 i, .int .i64 x] w fun e w' => e = .returned (.agg #[.slice a n c]) ∧ Hid (Below w.heap.size w w') := by
  obtain ⟨W1, W, hW1, hW, Hb, hs1, hs, Hx, Hy⟩ := box_new2 w 54 54 (.slice a n c) (.slice none 0 0)
  have hc0 := Hx.out.cell
  have Hh := Lib.hid (has_int a n c i W)
  have e1 : (decide (0 ≤ i) && decide (i < (n : Int))) = false := by simpa using hi
  rw [e1] at Hh
  clear hi e1
  go_enter Tryz.func23, Tryz.ntmps23
  go_wp2_with (first
    | (go_at_call 47; refine Hh.out.mono ?_; rintro e w2 ⟨rfl, h2⟩; have hc2 := (boxed_below Hx.out h2.out (Nat.lt_trans hs1.out hs.out)).cell; have Hy2 := Lib.hid (boxed_below Hy.out h2.out hs.out); have Hb2 := Lib.hid (Hb.out.trans (h2.out.mono Hb.out.size)); have hy2 := Hy2.out.cell; have hyf := Hy2.out.frozen))
  refine bodyPost_ret (results_cell_row rfl _ _ W1.heap.size 54 #[.slice a n c] (0, 0) _ rfl (Hy2.out.set _) Tryz.underlying54 rfl (by kernel_rfl)) rfl ?_
  exact ⟨rfl, Hb2.out.setCell (p := ⟨W1.heap.size, 0, none⟩) (Nat.le_of_lt hs1.out) _⟩
end Go.Proofs.YtcjfcomadcebnaaGreatDoor

/- Lists that never change: And, of numbers. -/
namespace Go.Proofs.YtcjfcomadcebnaaGreatDoor
open Go.RowKit Go.Maps Go.WideMaps Go.WideElems Go.ChangeShapes Go.WideShapes

theorem Below.of_row {w W W' : World} {B B0 : Nat} {e : TypeId} {size n : Nat} {v : Value} {xs : List Value} (hb : Below B w W) (hr : W.ownsRow B0 e size v n xs) (hB : B ≤ B0) (hg : W.grownBy W' v.ownBlock) (hs : B ≤ W.heap.size) : Below B w W' :=
  hb.grown hg hs (fun k hk => Nat.le_trans hB (hr.lt k hk).1)
theorem boxed_row {W W' : World} {B B0 : Nat} {t e : TypeId} {size n : Nat} {u v : Value} {xs : List Value} (h : Boxed W B t u) (hr : W.ownsRow B0 e size v n xs) (hB : B < B0) (hg : W.grownBy W' v.ownBlock) : Boxed W' B t u :=
  h.kept hg (fun e => Nat.lt_irrefl _ (Nat.lt_of_lt_of_le hB (hr.lt B e.symm).1))

set_option maxHeartbeats 1000000 in
set_option maxRecDepth 100000 in
theorem and_int (a : Option Addr) (n c : Nat) (xs : List Value) (hx : xs.length = n * 1) (h1 : ∀ u ∈ xs, u.oneCell' = true) (hn : n ≤ 1000000) (x : Int) (w : World) (h : SlAt w a xs) (hc : a = none → c = 0) :
    Calls Tryz.prog 24 #[.agg #[.slice a n c], .int .i64 x] w fun e w' => ∃ v', e = .returned (.agg #[v']) ∧ Hid (w'.ownsRow w.heap.size 3 1 v' (n + 1) (xs ++ [.int .i64 x]) ∧ Below w.heap.size w w') := by
  obtain ⟨i0, hi, hz0, hz1, hz2⟩ := info_parts (P := Tryz.prog) (e := 3) (z := .int .i64 0) (size := 1) (bytes := 8) (by kernel_rfl)
  obtain ⟨W1, W, hW1, hW, Hb, hs1, hs, Hx, Hy⟩ := box_new2 w 54 54 (.slice a n c) (.slice none 0 0)
  have hc0 := Hx.out.cell
  have Hl := Lib.hid hx
  have H1 := Lib.hid h1
  have H := Lib.hid (h.below Hb.out)
  have H0 := Lib.hid (fun (ea : a = none) => show xs = [] ∧ n = 0 from by rcases h with ⟨_, h0⟩ | ⟨b, off, e, _⟩; (subst h0; exact ⟨rfl, by simp at hx; omega⟩); (rw [ea] at e; cases e))
  have Hc := Lib.hid hc
  have Hu : Hid (∀ u ∈ [Value.int .i64 x], u.oneCell' = true) := by intro u hu; simp at hu; subst hu; rfl
  clear hx h1 h hc
  go_enter Tryz.func24, Tryz.ntmps24
  go_wp2_with (at_make; refine wpList_make_own _ rfl _ _ 37 rfl W.heap.size 3 i0 (.int .i64 0) 1 Tryz.underlying37 hi hz0 hz1 _ _ _ (n + 1) rfl rfl (by simp) (by rw [hz2]; omega) (by unfold maxLen; omega) (Nat.le_refl _) ?_)
  intro w1 hown1 hgrow1
  have Hw1 : Hid (Below W.heap.size W w1) := (Below.refl _ W).grown hgrow1 (Nat.le_refl _) (fun k hk => by cases hk)
  have Hs1 := Lib.hid Hw1.out.size
  have hc1 := (boxed_below Hx.out Hw1.out (Nat.lt_trans hs1.out hs.out)).cell
  have Hy1 := Lib.hid (boxed_below Hy.out Hw1.out hs.out)
  have Hown1 := Lib.hid hown1
  clear hown1 hgrow1 hc0
  generalize Value.slice (some ⟨W.heap.size, 0, none⟩) 0 (n + 1) = v1 at *
  have Hn : Hid (n ≤ 1000000) := hn
  clear hn
  rcases H.out with ⟨rfl, -⟩ | ⟨b, off, rfl, hbl, hcl⟩
  · obtain ⟨rfl, rfl⟩ := H0.out rfl
    obtain rfl := Hc.out rfl
    have Hr1 : Hid (W.heap.size ≤ (w1.alloc (.cells #[.int .i64 x] 3)).heap.size) := by show _ ≤ _; simp; exact Nat.le_trans Hs1.out (Nat.le_succ _)
    go_wp2_with (first
      | (at_builtin; refine wpList_append_own_none rfl _ _ 37 rfl W.heap.size 3 i0 1 Tryz.underlying37 hi v1 0 [] rfl Hown1.out rfl ?_)
      | (at_builtin; refine wpList_append_own _ rfl _ _ 37 rfl W.heap.size 3 i0 (.int .i64 0) 1 8 Tryz.underlying37 hi hz0 hz1 hz2 rfl (by decide) v1 0 [] rfl (Hown1.out.alloc _) ⟨w1.heap.size, 0, none⟩ 1 1 [.int .i64 x] rfl rfl (cell_one_new _ _ _) Hu.out (by decide) (by decide) Hr1.out ?_))
    intro v3 w3 hown3 hgrow3 hnil3
    have Hal : Hid (Boxed (w1.alloc (.cells #[.int .i64 x] 3)) W1.heap.size 54 (.slice none 0 0)) := Hy1.out.alloc _
    have Hw3 : Hid (Below W.heap.size W w3) := ((Hw1.out.alloc Hs1.out _).grown hgrow3 Hr1.out (fun k hk => (Hown1.out.lt k hk).1))
    have HB3 : Hid (Boxed w3 W1.heap.size 54 (.slice none 0 0)) := boxed_row Hal.out (Hown1.out.alloc _) hs.out hgrow3
    have hc3 := HB3.out.cell
    have hf3 := HB3.out.frozen
    have Hown3 := Lib.hid hown3
    clear hown3 hgrow3 hnil3
    obtain ⟨a3, c3, rfl, -, -⟩ := row_sl Hown3.out
    go_wp2_with fail
    refine bodyPost_ret (results_cell_row rfl _ _ W1.heap.size 54 #[.slice a3 _ c3] (0, 0) _ rfl (HB3.out.set _) Tryz.underlying54 rfl (by kernel_rfl)) rfl ?_
    have hle : w.heap.size ≤ W.heap.size := Hb.out.size
    exact ⟨_, rfl, row_base (ownsRow_setCell_below Hown3.out hs.out _) hle, (Hb.out.trans (Hw3.out.mono hle)).setCell (p := ⟨W1.heap.size, 0, none⟩) (Nat.le_of_lt hs1.out) _⟩
  · have Hcl : Hid (∀ j u, xs[j]? = some u → w1.cell? ((⟨b, off, none⟩ : Addr).add j) = some u) := fun j u hj => by
      rw [Addr.add_lit]
      exact (Hw1.out.cell (p := ⟨b, off + j, none⟩) (hbl (by intro e; rw [e] at hj; simp at hj))).trans (hcl j u hj)
    clear hcl hbl
    go_wp2_with (at_builtin; refine wpList_append_own _ rfl _ _ 37 rfl W.heap.size 3 i0 (.int .i64 0) 1 8 Tryz.underlying37 hi hz0 hz1 hz2 rfl (by decide) v1 0 [] rfl Hown1.out ⟨b, off, none⟩ n c xs rfl Hl.out Hcl.out H1.out (by unfold maxLen; have := Hn.out; omega) (by have := Hn.out; omega) Hs1.out ?_)
    intro v2 w2 hown2 hgrow2 hnil2
    try simp only [List.nil_append, Nat.zero_add] at hown2
    have Hw2 : Hid (Below W.heap.size W w2) := Below.of_row Hw1.out Hown1.out (Nat.le_refl _) hgrow2 Hs1.out
    have Hy2 := Lib.hid (boxed_row Hy1.out Hown1.out hs.out hgrow2)
    have Hown2 := Lib.hid hown2
    have Hs2 := Lib.hid Hw2.out.size
    clear hown2 hgrow2 hnil2
    have Hr2 : Hid (W.heap.size ≤ (w2.alloc (.cells #[.int .i64 x] 3)).heap.size) := by show _ ≤ _; simp; exact Nat.le_trans Hs2.out (Nat.le_succ _)
    go_wp2_with (at_builtin; refine wpList_append_own _ rfl _ _ 37 rfl W.heap.size 3 i0 (.int .i64 0) 1 8 Tryz.underlying37 hi hz0 hz1 hz2 rfl (by decide) v2 n xs rfl (Hown2.out.alloc _) ⟨w2.heap.size, 0, none⟩ 1 1 [.int .i64 x] rfl rfl (cell_one_new _ _ _) Hu.out (by unfold maxLen; have := Hn.out; omega) (by have := Hn.out; omega) Hr2.out ?_)
    intro v3 w3 hown3 hgrow3 hnil3
    have Hal : Hid (Boxed (w2.alloc (.cells #[.int .i64 x] 3)) W1.heap.size 54 (.slice none 0 0)) := Hy2.out.alloc _
    have Hw3 : Hid (Below W.heap.size W w3) := ((Hw2.out.alloc Hs2.out _).grown hgrow3 Hr2.out (fun k hk => (Hown2.out.lt k hk).1))
    have HB3 : Hid (Boxed w3 W1.heap.size 54 (.slice none 0 0)) := boxed_row Hal.out (Hown2.out.alloc _) hs.out hgrow3
    have hc3 := HB3.out.cell
    have hf3 := HB3.out.frozen
    have Hown3 := Lib.hid hown3
    clear hown3 hgrow3 hnil3
    obtain ⟨a3, c3, rfl, -, -⟩ := row_sl Hown3.out
    go_wp2_with fail
    refine bodyPost_ret (results_cell_row rfl _ _ W1.heap.size 54 #[.slice a3 _ c3] (0, 0) _ rfl (HB3.out.set _) Tryz.underlying54 rfl (by kernel_rfl)) rfl ?_
    have hle : w.heap.size ≤ W.heap.size := Hb.out.size
    exact ⟨_, rfl, row_base (ownsRow_setCell_below Hown3.out hs.out _) hle, (Hb.out.trans (Hw3.out.mono hle)).setCell (p := ⟨W1.heap.size, 0, none⟩) (Nat.le_of_lt hs1.out) _⟩
end Go.Proofs.YtcjfcomadcebnaaGreatDoor

/- Lists that never change: And, of texts and states. -/
namespace Go.Proofs.YtcjfcomadcebnaaGreatDoor
open Go.RowKit Go.Maps Go.WideMaps Go.WideElems Go.ChangeShapes Go.WideShapes

set_option maxHeartbeats 1000000 in
set_option maxRecDepth 100000 in
theorem and_str (a : Option Addr) (n c : Nat) (xs : List Value) (hx : xs.length = n * 1) (h1 : ∀ u ∈ xs, u.oneCell' = true) (hn : n ≤ 1000000) (x : ByteArray) (w : World) (h : SlAt w a xs) (hc : a = none → c = 0) :
    Calls Tryz.prog 29 #[.agg #[.slice a n c], .string x] w fun e w' => ∃ v', e = .returned (.agg #[v']) ∧ Hid (w'.ownsRow w.heap.size 9 1 v' (n + 1) (xs ++ [.string x]) ∧ Below w.heap.size w w') := by
  obtain ⟨i0, hi, hz0, hz1, hz2⟩ := info_parts (P := Tryz.prog) (e := 9) (z := .string ⟨#[]⟩) (size := 1) (bytes := 16) (by kernel_rfl)
  obtain ⟨W1, W, hW1, hW, Hb, hs1, hs, Hx, Hy⟩ := box_new2 w 63 63 (.slice a n c) (.slice none 0 0)
  have hc0 := Hx.out.cell
  have Hl := Lib.hid hx
  have H1 := Lib.hid h1
  have H := Lib.hid (h.below Hb.out)
  have H0 := Lib.hid (fun (ea : a = none) => show xs = [] ∧ n = 0 from by rcases h with ⟨_, h0⟩ | ⟨b, off, e, _⟩; (subst h0; exact ⟨rfl, by simp at hx; omega⟩); (rw [ea] at e; cases e))
  have Hc := Lib.hid hc
  have Hu : Hid (∀ u ∈ [Value.string x], u.oneCell' = true) := by intro u hu; simp at hu; subst hu; rfl
  clear hx h1 h hc
  go_enter Tryz.func29, Tryz.ntmps29
  go_wp2_with (at_make; refine wpList_make_own _ rfl _ _ 61 rfl W.heap.size 9 i0 (.string ⟨#[]⟩) 1 Tryz.underlying61 hi hz0 hz1 _ _ _ (n + 1) rfl rfl (by simp) (by rw [hz2]; omega) (by unfold maxLen; omega) (Nat.le_refl _) ?_)
  intro w1 hown1 hgrow1
  have Hw1 : Hid (Below W.heap.size W w1) := (Below.refl _ W).grown hgrow1 (Nat.le_refl _) (fun k hk => by cases hk)
  have Hs1 := Lib.hid Hw1.out.size
  have hc1 := (boxed_below Hx.out Hw1.out (Nat.lt_trans hs1.out hs.out)).cell
  have Hy1 := Lib.hid (boxed_below Hy.out Hw1.out hs.out)
  have Hown1 := Lib.hid hown1
  clear hown1 hgrow1 hc0
  generalize Value.slice (some ⟨W.heap.size, 0, none⟩) 0 (n + 1) = v1 at *
  have Hn : Hid (n ≤ 1000000) := hn
  clear hn
  rcases H.out with ⟨rfl, -⟩ | ⟨b, off, rfl, hbl, hcl⟩
  · obtain ⟨rfl, rfl⟩ := H0.out rfl
    obtain rfl := Hc.out rfl
    have Hr1 : Hid (W.heap.size ≤ (w1.alloc (.cells #[.string x] 9)).heap.size) := by show _ ≤ _; simp; exact Nat.le_trans Hs1.out (Nat.le_succ _)
    go_wp2_with (first
      | (at_builtin; refine wpList_append_own_none rfl _ _ 61 rfl W.heap.size 9 i0 1 Tryz.underlying61 hi v1 0 [] rfl Hown1.out rfl ?_)
      | (at_builtin; refine wpList_append_own _ rfl _ _ 61 rfl W.heap.size 9 i0 (.string ⟨#[]⟩) 1 16 Tryz.underlying61 hi hz0 hz1 hz2 rfl (by decide) v1 0 [] rfl (Hown1.out.alloc _) ⟨w1.heap.size, 0, none⟩ 1 1 [.string x] rfl rfl (cell_one_new _ _ _) Hu.out (by decide) (by decide) Hr1.out ?_))
    intro v3 w3 hown3 hgrow3 hnil3
    have Hal : Hid (Boxed (w1.alloc (.cells #[.string x] 9)) W1.heap.size 63 (.slice none 0 0)) := Hy1.out.alloc _
    have Hw3 : Hid (Below W.heap.size W w3) := ((Hw1.out.alloc Hs1.out _).grown hgrow3 Hr1.out (fun k hk => (Hown1.out.lt k hk).1))
    have HB3 : Hid (Boxed w3 W1.heap.size 63 (.slice none 0 0)) := boxed_row Hal.out (Hown1.out.alloc _) hs.out hgrow3
    have hc3 := HB3.out.cell
    have hf3 := HB3.out.frozen
    have Hown3 := Lib.hid hown3
    clear hown3 hgrow3 hnil3
    obtain ⟨a3, c3, rfl, -, -⟩ := row_sl Hown3.out
    go_wp2_with fail
    refine bodyPost_ret (results_cell_row rfl _ _ W1.heap.size 63 #[.slice a3 _ c3] (0, 0) _ rfl (HB3.out.set _) Tryz.underlying63 rfl (by kernel_rfl)) rfl ?_
    have hle : w.heap.size ≤ W.heap.size := Hb.out.size
    exact ⟨_, rfl, row_base (ownsRow_setCell_below Hown3.out hs.out _) hle, (Hb.out.trans (Hw3.out.mono hle)).setCell (p := ⟨W1.heap.size, 0, none⟩) (Nat.le_of_lt hs1.out) _⟩
  · have Hcl : Hid (∀ j u, xs[j]? = some u → w1.cell? ((⟨b, off, none⟩ : Addr).add j) = some u) := fun j u hj => by
      rw [Addr.add_lit]
      exact (Hw1.out.cell (p := ⟨b, off + j, none⟩) (hbl (by intro e; rw [e] at hj; simp at hj))).trans (hcl j u hj)
    clear hcl hbl
    go_wp2_with (at_builtin; refine wpList_append_own _ rfl _ _ 61 rfl W.heap.size 9 i0 (.string ⟨#[]⟩) 1 16 Tryz.underlying61 hi hz0 hz1 hz2 rfl (by decide) v1 0 [] rfl Hown1.out ⟨b, off, none⟩ n c xs rfl Hl.out Hcl.out H1.out (by unfold maxLen; have := Hn.out; omega) (by have := Hn.out; omega) Hs1.out ?_)
    intro v2 w2 hown2 hgrow2 hnil2
    try simp only [List.nil_append, Nat.zero_add] at hown2
    have Hw2 : Hid (Below W.heap.size W w2) := Below.of_row Hw1.out Hown1.out (Nat.le_refl _) hgrow2 Hs1.out
    have Hy2 := Lib.hid (boxed_row Hy1.out Hown1.out hs.out hgrow2)
    have Hown2 := Lib.hid hown2
    have Hs2 := Lib.hid Hw2.out.size
    clear hown2 hgrow2 hnil2
    have Hr2 : Hid (W.heap.size ≤ (w2.alloc (.cells #[.string x] 9)).heap.size) := by show _ ≤ _; simp; exact Nat.le_trans Hs2.out (Nat.le_succ _)
    go_wp2_with (at_builtin; refine wpList_append_own _ rfl _ _ 61 rfl W.heap.size 9 i0 (.string ⟨#[]⟩) 1 16 Tryz.underlying61 hi hz0 hz1 hz2 rfl (by decide) v2 n xs rfl (Hown2.out.alloc _) ⟨w2.heap.size, 0, none⟩ 1 1 [.string x] rfl rfl (cell_one_new _ _ _) Hu.out (by unfold maxLen; have := Hn.out; omega) (by have := Hn.out; omega) Hr2.out ?_)
    intro v3 w3 hown3 hgrow3 hnil3
    have Hal : Hid (Boxed (w2.alloc (.cells #[.string x] 9)) W1.heap.size 63 (.slice none 0 0)) := Hy2.out.alloc _
    have Hw3 : Hid (Below W.heap.size W w3) := ((Hw2.out.alloc Hs2.out _).grown hgrow3 Hr2.out (fun k hk => (Hown2.out.lt k hk).1))
    have HB3 : Hid (Boxed w3 W1.heap.size 63 (.slice none 0 0)) := boxed_row Hal.out (Hown2.out.alloc _) hs.out hgrow3
    have hc3 := HB3.out.cell
    have hf3 := HB3.out.frozen
    have Hown3 := Lib.hid hown3
    clear hown3 hgrow3 hnil3
    obtain ⟨a3, c3, rfl, -, -⟩ := row_sl Hown3.out
    go_wp2_with fail
    refine bodyPost_ret (results_cell_row rfl _ _ W1.heap.size 63 #[.slice a3 _ c3] (0, 0) _ rfl (HB3.out.set _) Tryz.underlying63 rfl (by kernel_rfl)) rfl ?_
    have hle : w.heap.size ≤ W.heap.size := Hb.out.size
    exact ⟨_, rfl, row_base (ownsRow_setCell_below Hown3.out hs.out _) hle, (Hb.out.trans (Hw3.out.mono hle)).setCell (p := ⟨W1.heap.size, 0, none⟩) (Nat.le_of_lt hs1.out) _⟩
end Go.Proofs.YtcjfcomadcebnaaGreatDoor

/- Lists that never change: And, of states. -/
namespace Go.Proofs.YtcjfcomadcebnaaGreatDoor
open Go.RowKit Go.Maps Go.WideMaps Go.WideElems Go.ChangeShapes Go.WideShapes

theorem row_three {W : World} {B : Nat} {x y z : Value} {t : TypeId} (h : W.heap[B]? = some (.cells #[x, y, z] t)) : W.cell? ⟨B, 0, none⟩ = some x ∧ W.cell? ⟨B, 1, none⟩ = some y ∧ W.cell? ⟨B, 2, none⟩ = some z := by simp [World.cell?, h]
theorem cells_three_new (w : World) (x y z : Value) (t : TypeId) : ∀ j u, [x, y, z][j]? = some u → (w.alloc (.cells #[x, y, z] t)).cell? ((⟨w.heap.size, 0, none⟩ : Addr).add j) = some u := by
  intro j u h
  rw [Addr.add_lit, Nat.zero_add]
  have hg : (w.alloc (.cells #[x, y, z] t)).heap[w.heap.size]? = some (.cells #[x, y, z] t) := World.alloc_heap_new w _
  obtain ⟨h0, h1, h2⟩ := row_three hg
  match j, h with
  | 0, h => simp at h; subst h; exact h0
  | 1, h => simp at h; subst h; exact h1
  | 2, h => simp at h; subst h; exact h2
  | (j + 3), h => simp at h

/-- A new row of cells. -/
theorem cells_new (w : World) (cs : Array Value) (t : TypeId) : ∃ W, w.alloc (.cells cs t) = W ∧ Hid (Below w.heap.size w W) ∧ Hid (w.heap.size < W.heap.size) ∧ Hid (W.heap[w.heap.size]? = some (.cells cs t)) := by
  refine ⟨_, rfl, (Below.refl _ _).alloc (Nat.le_refl _) _, ?_, World.alloc_heap_new w _⟩
  show _ < _
  simp
theorem box_new3 (w : World) (t u : TypeId) (v x : Value) (p q r : Value) (s : TypeId) : ∃ W1 W2 W, w.alloc (.cells #[v] t) = W1 ∧ W1.alloc (.cells #[p, q, r] s) = W2 ∧ W2.alloc (.cells #[x] u) = W ∧ Hid (Below w.heap.size w W) ∧ Hid (w.heap.size < W1.heap.size) ∧ Hid (W1.heap.size < W2.heap.size) ∧ Hid (W2.heap.size < W.heap.size) ∧ Hid (Boxed W w.heap.size t v) ∧ Hid (W.heap[W1.heap.size]? = some (.cells #[p, q, r] s)) ∧ Hid (Boxed W W2.heap.size u x) := by
  obtain ⟨W1, h1, Hb, hs, Hx⟩ := box_new w t v
  obtain ⟨W2, h2, Hb2, hs2, Hy⟩ := cells_new W1 #[p, q, r] s
  obtain ⟨W, h3, Hb3, hs3, Hz⟩ := box_new W2 u x
  have hl := Nat.le_trans Hb.out.size Hb2.out.size
  exact ⟨W1, W2, W, h1, h2, h3, (Hb.out.trans (Hb2.out.mono Hb.out.size)).trans (Hb3.out.mono hl), hs, hs2, hs3, boxed_below (boxed_below Hx.out Hb2.out hs.out) Hb3.out (Nat.lt_trans hs.out hs2.out), (Hb3.out.block _ hs2.out).trans Hy.out, Hz⟩

set_option maxHeartbeats 1000000 in
set_option maxRecDepth 100000 in
theorem and_sta (a : Option Addr) (n c : Nat) (xs : List Value) (hx : xs.length = n * 3) (h1 : ∀ u ∈ xs, u.oneCell' = true) (hn : n ≤ 1000000) (k0 n0 : Int) (v0 : ByteArray) (w : World) (h : SlAt w a xs) (hc : a = none → c = 0) :
    Calls Tryz.prog 55 #[.agg #[.slice a n c], .agg #[.int .i64 k0, .int .i64 n0, .string v0]] w fun e w' => ∃ v', e = .returned (.agg #[v']) ∧ Hid (w'.ownsRow w.heap.size 34 3 v' (n + 1) (xs ++ [.int .i64 k0, .int .i64 n0, .string v0]) ∧ Below w.heap.size w w') := by
  obtain ⟨i0, hi, hz0, hz1, hz2⟩ := info_parts (P := Tryz.prog) (e := 34) (z := .agg #[.int .i64 0, .int .i64 0, .string ⟨#[]⟩]) (size := 3) (bytes := 32) (by kernel_rfl)
  obtain ⟨W0, W1, W, hW0, hW1, hW, Hb, hs0, hs01, hs, Hx, Hp, Hy⟩ := box_new3 w 27 27 (.slice a n c) (.slice none 0 0) (.int .i64 k0) (.int .i64 n0) (.string v0) 34
  have hs1 := Lib.hid (Nat.lt_trans hs0.out hs01.out)
  have hc0 := Hx.out.cell
  have Hl := Lib.hid hx
  have H1 := Lib.hid h1
  have H := Lib.hid (h.below Hb.out)
  have H0 := Lib.hid (fun (ea : a = none) => show xs = [] ∧ n = 0 from by rcases h with ⟨_, h0⟩ | ⟨b, off, e, _⟩; (subst h0; exact ⟨rfl, by simp at hx; omega⟩); (rw [ea] at e; cases e))
  have Hc := Lib.hid hc
  have Hu : Hid (∀ u ∈ [Value.int .i64 k0, Value.int .i64 n0, Value.string v0], u.oneCell' = true) := by intro u hu; simp at hu; rcases hu with rfl | rfl | rfl <;> rfl
  clear hx h1 h hc
  go_enter Tryz.func55, Tryz.ntmps55
  go_wp2_with (at_make; refine wpList_make_own _ rfl _ _ 25 rfl W.heap.size 34 i0 (.agg #[.int .i64 0, .int .i64 0, .string ⟨#[]⟩]) 3 Tryz.underlying25 hi hz0 hz1 _ _ _ (n + 1) rfl rfl (by simp) (by rw [hz2]; omega) (by unfold maxLen; omega) (Nat.le_refl _) ?_)
  intro w1 hown1 hgrow1
  have Hw1 : Hid (Below W.heap.size W w1) := (Below.refl _ W).grown hgrow1 (Nat.le_refl _) (fun k hk => by cases hk)
  have Hs1 := Lib.hid Hw1.out.size
  have hc1 := (boxed_below Hx.out Hw1.out (Nat.lt_trans hs1.out hs.out)).cell
  have Hy1 := Lib.hid (boxed_below Hy.out Hw1.out hs.out)
  have HP1 : Hid (w1.heap[W0.heap.size]? = _) := (Hw1.out.block _ (Nat.lt_trans hs01.out hs.out)).trans Hp.out
  obtain ⟨hp0, hp1, hp2⟩ := row_three HP1.out
  have Hown1 := Lib.hid hown1
  clear hown1 hgrow1 hc0
  generalize Value.slice (some ⟨W.heap.size, 0, none⟩) 0 (n + 1) = v1 at *
  have Hn : Hid (n ≤ 1000000) := hn
  clear hn
  rcases H.out with ⟨rfl, -⟩ | ⟨b, off, rfl, hbl, hcl⟩
  · obtain ⟨rfl, rfl⟩ := H0.out rfl
    obtain rfl := Hc.out rfl
    have Hr1 : Hid (W.heap.size ≤ (w1.alloc (.cells #[.int .i64 k0, .int .i64 n0, .string v0] 34)).heap.size) := by show _ ≤ _; simp; exact Nat.le_trans Hs1.out (Nat.le_succ _)
    go_wp2_with (first
      | (at_builtin; refine wpList_append_own_none rfl _ _ 25 rfl W.heap.size 34 i0 3 Tryz.underlying25 hi v1 0 [] rfl Hown1.out rfl ?_)
      | (at_builtin; refine wpList_append_own _ rfl _ _ 25 rfl W.heap.size 34 i0 (.agg #[.int .i64 0, .int .i64 0, .string ⟨#[]⟩]) 3 32 Tryz.underlying25 hi hz0 hz1 hz2 rfl (by decide) v1 0 [] rfl (Hown1.out.alloc _) ⟨w1.heap.size, 0, none⟩ 1 1 [.int .i64 k0, .int .i64 n0, .string v0] rfl rfl (cells_three_new _ _ _ _ _) Hu.out (by decide) (by decide) Hr1.out ?_))
    intro v3 w3 hown3 hgrow3 hnil3
    have Hal : Hid (Boxed (w1.alloc (.cells #[.int .i64 k0, .int .i64 n0, .string v0] 34)) W1.heap.size 27 (.slice none 0 0)) := Hy1.out.alloc _
    have Hw3 : Hid (Below W.heap.size W w3) := ((Hw1.out.alloc Hs1.out _).grown hgrow3 Hr1.out (fun k hk => (Hown1.out.lt k hk).1))
    have HB3 : Hid (Boxed w3 W1.heap.size 27 (.slice none 0 0)) := boxed_row Hal.out (Hown1.out.alloc _) hs.out hgrow3
    have hc3 := HB3.out.cell
    have hf3 := HB3.out.frozen
    have Hown3 := Lib.hid hown3
    clear hown3 hgrow3 hnil3
    obtain ⟨a3, c3, rfl, -, -⟩ := row_sl Hown3.out
    go_wp2_with fail
    refine bodyPost_ret (results_cell_row rfl _ _ W1.heap.size 27 #[.slice a3 _ c3] (0, 0) _ rfl (HB3.out.set _) Tryz.underlying27 rfl (by kernel_rfl)) rfl ?_
    have hle : w.heap.size ≤ W.heap.size := Hb.out.size
    exact ⟨_, rfl, row_base (ownsRow_setCell_below Hown3.out hs.out _) hle, (Hb.out.trans (Hw3.out.mono hle)).setCell (p := ⟨W1.heap.size, 0, none⟩) (Nat.le_of_lt hs1.out) _⟩
  · have Hcl : Hid (∀ j u, xs[j]? = some u → w1.cell? ((⟨b, off, none⟩ : Addr).add j) = some u) := fun j u hj => by
      rw [Addr.add_lit]
      exact (Hw1.out.cell (p := ⟨b, off + j, none⟩) (hbl (by intro e; rw [e] at hj; simp at hj))).trans (hcl j u hj)
    clear hcl hbl
    go_wp2_with (at_builtin; refine wpList_append_own _ rfl _ _ 25 rfl W.heap.size 34 i0 (.agg #[.int .i64 0, .int .i64 0, .string ⟨#[]⟩]) 3 32 Tryz.underlying25 hi hz0 hz1 hz2 rfl (by decide) v1 0 [] rfl Hown1.out ⟨b, off, none⟩ n c xs rfl Hl.out Hcl.out H1.out (by unfold maxLen; have := Hn.out; omega) (by have := Hn.out; omega) Hs1.out ?_)
    intro v2 w2 hown2 hgrow2 hnil2
    try simp only [List.nil_append, Nat.zero_add] at hown2
    have Hw2 : Hid (Below W.heap.size W w2) := Below.of_row Hw1.out Hown1.out (Nat.le_refl _) hgrow2 Hs1.out
    have Hy2 := Lib.hid (boxed_row Hy1.out Hown1.out hs.out hgrow2)
    clear hp0 hp1 hp2
    have HP2 : Hid (w2.heap[W0.heap.size]? = _) := (Hw2.out.block _ (Nat.lt_trans hs01.out hs.out)).trans Hp.out
    obtain ⟨hp0, hp1, hp2⟩ := row_three HP2.out
    have Hown2 := Lib.hid hown2
    have Hs2 := Lib.hid Hw2.out.size
    clear hown2 hgrow2 hnil2
    have Hr2 : Hid (W.heap.size ≤ (w2.alloc (.cells #[.int .i64 k0, .int .i64 n0, .string v0] 34)).heap.size) := by show _ ≤ _; simp; exact Nat.le_trans Hs2.out (Nat.le_succ _)
    go_wp2_with (at_builtin; refine wpList_append_own _ rfl _ _ 25 rfl W.heap.size 34 i0 (.agg #[.int .i64 0, .int .i64 0, .string ⟨#[]⟩]) 3 32 Tryz.underlying25 hi hz0 hz1 hz2 rfl (by decide) v2 n xs rfl (Hown2.out.alloc _) ⟨w2.heap.size, 0, none⟩ 1 1 [.int .i64 k0, .int .i64 n0, .string v0] rfl rfl (cells_three_new _ _ _ _ _) Hu.out (by unfold maxLen; have := Hn.out; omega) (by have := Hn.out; omega) Hr2.out ?_)
    intro v3 w3 hown3 hgrow3 hnil3
    have Hal : Hid (Boxed (w2.alloc (.cells #[.int .i64 k0, .int .i64 n0, .string v0] 34)) W1.heap.size 27 (.slice none 0 0)) := Hy2.out.alloc _
    have Hw3 : Hid (Below W.heap.size W w3) := ((Hw2.out.alloc Hs2.out _).grown hgrow3 Hr2.out (fun k hk => (Hown2.out.lt k hk).1))
    have HB3 : Hid (Boxed w3 W1.heap.size 27 (.slice none 0 0)) := boxed_row Hal.out (Hown2.out.alloc _) hs.out hgrow3
    have hc3 := HB3.out.cell
    have hf3 := HB3.out.frozen
    have Hown3 := Lib.hid hown3
    clear hown3 hgrow3 hnil3
    obtain ⟨a3, c3, rfl, -, -⟩ := row_sl Hown3.out
    go_wp2_with fail
    refine bodyPost_ret (results_cell_row rfl _ _ W1.heap.size 27 #[.slice a3 _ c3] (0, 0) _ rfl (HB3.out.set _) Tryz.underlying27 rfl (by kernel_rfl)) rfl ?_
    have hle : w.heap.size ≤ W.heap.size := Hb.out.size
    exact ⟨_, rfl, row_base (ownsRow_setCell_below Hown3.out hs.out _) hle, (Hb.out.trans (Hw3.out.mono hle)).setCell (p := ⟨W1.heap.size, 0, none⟩) (Nat.le_of_lt hs1.out) _⟩
end Go.Proofs.YtcjfcomadcebnaaGreatDoor

/- Copies and equality of lists of numbers, by contracts. -/
namespace Go.Proofs.YtcjfcomadcebnaaGreatDoor
open Go.RowKit Go.Maps Go.WideMaps Go.WideElems Go.ChangeShapes Go.WideShapes

/-- Numbers that lie behind a slice's address. -/
def IAt (W : World) (a : Option Addr) (zs : List Int) : Prop := zs = [] ∨ ∃ b off, a = some ⟨b, off, none⟩ ∧ ∀ k, k < zs.length → W.cell? ⟨b, off + k, none⟩ = some (.int .i64 (zs[k]?.getD 0))
theorem SlAt.ints {W : World} {a : Option Addr} {zs : List Int} (h : SlAt W a (zs.map (Value.int .i64))) : IAt W a zs := by
  rcases h with ⟨_, h0⟩ | ⟨b, off, e, _, hc⟩
  · exact .inl (by simpa using h0)
  · exact .inr ⟨b, off, e, fun k hk => hc k _ (by simp [hk])⟩
theorem IAt.below {W W' : World} {a : Option Addr} {zs : List Int} (h : IAt W a zs) (hb : Below W.heap.size W W') : IAt W' a zs := by
  rcases h with h | ⟨b, off, e, hc⟩
  · exact .inl h
  · exact .inr ⟨b, off, e, fun k hk => (hb.cell (p := ⟨b, off + k, none⟩) (World.block_lt_of_cell? W _ (hc k hk))).trans (hc k hk)⟩
theorem take_eq_step {α : Type} [DecidableEq α] {l l' : List α} {k : Nat} {d : α} (hl : l.length = l'.length) (hk : k < l.length) (ht : l.take k = l'.take k) : (l.take (k + 1) = l'.take (k + 1)) ↔ l[k]?.getD d = l'[k]?.getD d := by
  have hk' : k < l'.length := by omega
  have e1 : l.take (k + 1) = l.take k ++ [l[k]] := List.take_succ_eq_append_getElem hk
  have e2 : l'.take (k + 1) = l'.take k ++ [l'[k]] := List.take_succ_eq_append_getElem hk'
  have g1 : l[k]?.getD d = l[k] := by rw [List.getElem?_eq_getElem hk]; rfl
  have g2 : l'[k]?.getD d = l'[k] := by rw [List.getElem?_eq_getElem hk']; rfl
  rw [e1, e2, ht, g1, g2]
  constructor
  · intro h
    exact (List.cons.inj (List.append_cancel_left h)).1
  · intro h; rw [h]

set_option maxRecDepth 100000 in
set_option maxHeartbeats 1000000 in
theorem sameInts_any (a a' : Option Addr) (c c' : Nat) (l l' : List Int) (w : World) (h : IAt w a l) (h' : IAt w a' l') (hm : l.length ≤ 9223372036854775807) (hm' : l'.length ≤ 9223372036854775807) :
    Calls Tryz.prog 16 #[.slice a l.length c, .slice a' l'.length c'] w fun e w' => e = .returned (.bool (decide (l = l'))) ∧ ∃ q, w.drewN q = w' := by
  obtain ⟨D, hD⟩ : ∃ D, D = decide (l = l') := ⟨_, rfl⟩
  rw [← hD]
  have HD := Lib.hid hD
  have H := Lib.hid h
  have H' := Lib.hid h'
  clear h h' hD
  by_cases hl : l.length = l'.length
  · have hne : ((l.length : Int) != (l'.length : Int)) = false := by simp; omega
    have Hl := Lib.hid hl
    clear hl
    go_enter Tryz.func16, Tryz.ntmps16
    go_wp2
    go_loopw [5] (fun i wr => ∃ k q : Nat, k ≤ l.length ∧ i = .int .i64 k ∧ Hid (w.drewN q = wr ∧ l.take k = l'.take k)) (fun i _ => l.length - (intOf i).toNat)
    case atStart => exact ⟨0, 0, Nat.zero_le _, rfl, rfl, by simp⟩
    case round =>
      obtain ⟨k, q, hk, rfl, Hr⟩ := hrel
      by_cases hlt : k < l.length
      · have hlt' : k < l'.length := by have := Hl.out; omega
        rcases H.out with e | ⟨b, off, rfl, hc⟩
        · rw [e] at hlt; simp at hlt
        rcases H'.out with e | ⟨b', off', rfl, hc'⟩
        · rw [e] at hlt'; simp at hlt'
        have c0 : wr.cell? ⟨b, off + k, none⟩ = some (.int .i64 (l[k]?.getD 0)) := by rw [← Hr.out.1]; exact hc k hlt
        have c1 : wr.cell? ⟨b', off' + k, none⟩ = some (.int .i64 (l'[k]?.getD 0)) := by rw [← Hr.out.1]; exact hc' k hlt'
        have hst := Lib.hid (take_eq_step (d := 0) Hl.out hlt Hr.out.2)
        generalize l[k]?.getD 0 = x at *
        generalize l'[k]?.getD 0 = y at *
        clear hc hc'
        by_cases hx : x = y
        · have hxy : (x == y) = true := by simpa using hx
          have hnx := hst.out.2 hx
          have Hnx := Lib.hid hnx
          clear hx hnx
          go_wp2
          go_quiet (fail)
          go_wp2
          go_roundw
          case rel => exact ⟨k + 1, q + nq, by omega, by go_num, by rw [← Hr.out.1, World.drewN_drewN], Hnx.out⟩
          case measure => simp [intOf]; omega
        · have hxy : (x == y) = false := by simpa using hx
          have HD' : Hid (D = false) := by
            show _ = _
            rw [HD.out, decide_eq_false]
            rintro rfl
            exact hx (hst.out.1 rfl)
          clear hx
          go_wp2
          go_quiet (fail)
          go_wp2
          go_ret
          exact ⟨by rw [HD'.out]; rfl, q + nq, by rw [← Hr.out.1, World.drewN_drewN]⟩
      · have hkl : k = l.length := by omega
        have HD' : Hid (D = true) := by
          show _ = _
          have h2 := Hr.out.2
          rw [hkl, List.take_length] at h2
          have h3 := Hl.out
          rw [h3, List.take_length] at h2
          rw [HD.out, decide_eq_true h2]
        clear hkl
        go_wp2
        go_ret
        exact ⟨by rw [HD'.out]; rfl, q, Hr.out.1⟩
  · have hne : ((l.length : Int) != (l'.length : Int)) = true := by simp; omega
    have HD' : Hid (D = false) := by show _ = _; rw [HD.out, decide_eq_false]; rintro rfl; exact hl rfl
    clear hl
    go_enter Tryz.func16, Tryz.ntmps16
    go_wp2
    go_ret
    exact ⟨by rw [HD'.out]; rfl, 0, rfl⟩

end Go.Proofs.YtcjfcomadcebnaaGreatDoor

/- umpireref.Ints, by a contract. -/
namespace Go.Proofs.YtcjfcomadcebnaaGreatDoor
open Go.RowKit Go.Maps Go.WideMaps Go.WideElems Go.ChangeShapes Go.WideShapes

theorem ints_take_succ (zs : List Int) (k : Nat) (h : k < zs.length) : (zs.take (k + 1)).map (Value.int .i64) = (zs.take k).map (Value.int .i64) ++ [.int .i64 (zs[k]?.getD 0)] := by
  rw [List.take_succ_eq_append_getElem h, List.map_append]
  simp [h]

set_option maxHeartbeats 1000000 in
set_option maxRecDepth 100000 in
theorem ints_any (a : Option Addr) (n c : Nat) (zs : List Int) (hn : zs.length = n) (hsm : n ≤ 1000000) (w : World) (h : IAt w a zs) :
    Calls Tryz.prog 21 #[.slice a n c] w fun e w' => ∃ v', e = .returned v' ∧ Hid (w'.ownsRow w.heap.size 3 1 v' n (zs.map (Value.int .i64)) ∧ Below w.heap.size w w') := by
  obtain ⟨i0, hi, hz0, hz1, hz2⟩ := info_parts (P := Tryz.prog) (e := 3) (z := .int .i64 0) (size := 1) (bytes := 8) (by kernel_rfl)
  have H := Lib.hid h
  have Hn := Lib.hid hn
  have Hsm : Hid (n ≤ 1000000) := hsm
  clear h hn
  go_enter Tryz.func21, Tryz.ntmps21
  go_wp2_with (at_make; refine wpList_make_own _ rfl _ _ 37 rfl w.heap.size 3 i0 (.int .i64 0) 1 Tryz.underlying37 hi hz0 hz1 _ _ _ n rfl rfl (by simp) (by rw [hz2]; omega) (by unfold maxLen; omega) (Nat.le_refl _) ?_)
  intro w1 hown1 hgrow1
  have Ho1 : Hid (Below w.heap.size w w1) := (Below.refl _ w).grown hgrow1 (Nat.le_refl _) (fun k hk => by cases hk)
  have Hown1 := Lib.hid hown1
  clear hown1 hgrow1
  go_wp2_with fail
  go_loopw [3, 4] (fun v i wr => ∃ k : Nat, k ≤ n ∧ i = .int .i64 k ∧ Hid (wr.ownsRow w.heap.size 3 1 v k ((zs.take k).map (Value.int .i64))) ∧ Hid (Below w.heap.size w wr)) (fun _ i _ => n - (intOf i).toNat)
  case atStart => exact ⟨0, Nat.zero_le _, rfl, Hown1.out, Ho1.out⟩
  case round =>
    obtain ⟨k, hk, rfl, Hown, Ho⟩ := hrel
    by_cases hlt2 : k < n
    · rcases H.out with e | ⟨b, off, rfl, hc⟩
      · exfalso; have h9 := Hn.out; rw [e] at h9; simp at h9; omega
      have hcx : wr.cell? ⟨b, off + k, none⟩ = some (.int .i64 (zs[k]?.getD 0)) := (Ho.out.cell (p := ⟨b, off + k, none⟩) (World.block_lt_of_cell? w _ (hc k (by rw [Hn.out]; exact hlt2)))).trans (hc k (by rw [Hn.out]; exact hlt2))
      have Hstep := Lib.hid (ints_take_succ zs k (by rw [Hn.out]; exact hlt2))
      have Hsz := Lib.hid Ho.out.size
      clear hc
      generalize zs[k]?.getD 0 = y at *
      go_wp2_with (at_builtin; refine wpList_append_own _ rfl _ _ 37 rfl w.heap.size 3 i0 (.int .i64 0) 1 8 Tryz.underlying37 hi hz0 hz1 hz2 rfl (by decide) _ _ _ rfl (Hown.out.alloc _) ⟨wr.heap.size, 0, none⟩ 1 1 [.int .i64 y] rfl rfl (cell_one_new _ _ _) (by intro u hu; simp at hu; subst hu; rfl) (by unfold maxLen; have := Hsm.out; omega) (by have := Hsm.out; omega) (by show _ ≤ _; simp; exact Nat.le_trans Hsz.out (Nat.le_succ _)) ?_)
      intro v' w4 hown4 hgrow4 _
      have Ho4 : Hid (Below w.heap.size w w4) := (Ho.out.alloc Hsz.out (.cells #[.int .i64 y] 3)).grown hgrow4 (by show _ ≤ _; simp; exact Nat.le_trans Hsz.out (Nat.le_succ _)) (fun k hk => (Hown.out.lt k hk).1)
      have Hown4 : Hid (w4.ownsRow w.heap.size 3 1 v' (k + 1) ((zs.take (k + 1)).map (Value.int .i64))) := by show World.ownsRow _ _ _ _ _ _ _; rw [Hstep.out, List.map_take]; exact hown4
      clear hown4 hgrow4 Hown Ho hcx Hstep Hsz
      go_wp2_with fail
      go_roundw
      case rel => exact ⟨k + 1, by omega, by go_num, Hown4.out, Ho4.out⟩
      case measure => simp [intOf]; omega
    · have hkn : k = n := by omega
      go_wp2_with fail
      go_ret
      refine ⟨_, rfl, ?_, Ho.out⟩
      have h9 := Hown.out
      rw [hkn, List.take_of_length_le (by rw [Hn.out]; exact Nat.le_refl _)] at h9
      exact h9
end Go.Proofs.YtcjfcomadcebnaaGreatDoor
