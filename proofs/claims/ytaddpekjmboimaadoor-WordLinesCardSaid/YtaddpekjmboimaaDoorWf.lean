/- Texts in memory: the same or not; what the variables hold; Print and Number. -/
import Derived.Test.YtaddpekjmboimaaDoorWd
import Derived.Test.YtaddpekjmboimaaDoorVw
import Derived.WalkSmall
import Derived.Lib.LaidTab
import Derived.Lib.AppendIntMem
import Derived.Lib.AtoiErrMem
namespace Go.Proofs.YtaddpekjmboimaaDoor
open Go.RowKit Go.Maps Go.WideMaps Go.WideElems Go.ChangeShapes Go.WideShapes

/-- What the variables hold that the calls read. -/
structure Glob (T : TypeId) (e0 e1 e2 : Addr) (w : World) : Prop where
  size : 9 ≤ w.heap.size
  c0 : w.cell? ⟨0, 0, none⟩ = some (.iface T (.pointer (some e0)))
  c1 : w.cell? ⟨1, 0, none⟩ = some (.iface T (.pointer (some e1)))
  c2 : w.cell? ⟨2, 0, none⟩ = some (.iface T (.pointer (some e2)))
  c3 : ∃ m, w.cell? ⟨3, 0, none⟩ = some (.int .i64 m)
  c4 : ∃ tp p, w.cell? ⟨4, 0, none⟩ = some (.iface tp p)
  c5 : ∃ tp p, w.cell? ⟨5, 0, none⟩ = some (.iface tp p)
  tab : Lib.TabIs Tryd.prog w "internal/strconv.uint64pow10" .u64 Lib.pow10Tab

theorem glob8 : Tryd.prog.globalNamed "internal/strconv.uint64pow10" = some 8 := by kernel_rfl

theorem Glob.below {T : TypeId} {e0 e1 e2 : Addr} {w w' : World} {B : Nat} (h : Glob T e0 e1 e2 w) (hb : Below B w w') (hB : 9 ≤ B) : Glob T e0 e1 e2 w' :=
  ⟨Nat.le_trans h.size hb.size, (hb.cell (p := ⟨0, 0, none⟩) (by show 0 < B; omega)).trans h.c0, (hb.cell (p := ⟨1, 0, none⟩) (by show 1 < B; omega)).trans h.c1, (hb.cell (p := ⟨2, 0, none⟩) (by show 2 < B; omega)).trans h.c2,
   h.c3.imp fun m hm => (hb.cell (p := ⟨3, 0, none⟩) (by show 3 < B; omega)).trans hm, h.c4.imp fun _ => Exists.imp fun _ hm => (hb.cell (p := ⟨4, 0, none⟩) (by show 4 < B; omega)).trans hm, h.c5.imp fun _ => Exists.imp fun _ hm => (hb.cell (p := ⟨5, 0, none⟩) (by show 5 < B; omega)).trans hm,
   var?_below hb glob8 (by omega) h.tab⟩
theorem Glob.below' {T : TypeId} {e0 e1 e2 : Addr} {w w' : World} (h : Glob T e0 e1 e2 w) (hb : Below w.heap.size w w') : Glob T e0 e1 e2 w' := h.below hb h.size

/-- A text of these bytes. -/
abbrev tv (l : List UInt8) : Value := .string ⟨l.toArray⟩
abbrev tc (ls : List (List UInt8)) : List Value := ls.map tv

/-- The texts lie at a. -/
def TAt (w : World) (a : Option Addr) (ls : List (List UInt8)) : Prop := ls = [] ∨ ∃ b off, a = some ⟨b, off, none⟩ ∧ ∀ i, i < ls.length → w.cell? ⟨b, off + i, none⟩ = some (tv (ls[i]?.getD []))

theorem TAt.below {w w' : World} {B : Nat} {a : Option Addr} {l : List (List UInt8)} (h : TAt w a l) (hb : Below B w w') (hB : ∀ p, a = some p → l ≠ [] → p.block < B) : TAt w' a l := by
  rcases h with rfl | ⟨b, off, rfl, h⟩
  · exact .inl rfl
  · by_cases hl : l = []
    · exact .inl hl
    · exact .inr ⟨b, off, rfl, fun i hi => (hb.cell (p := ⟨b, off + i, none⟩) (hB ⟨b, off, none⟩ rfl hl)).trans (h i hi)⟩
theorem TAt.lt {w : World} {a : Option Addr} {l : List (List UInt8)} (h : TAt w a l) : ∀ p, a = some p → l ≠ [] → p.block < w.heap.size := fun p e hl => by
  rcases h with h | ⟨b, off, e', h⟩
  · exact absurd h hl
  · rw [e] at e'; cases e'
    have := h 0 (by cases l with | nil => exact absurd rfl hl | cons => simp)
    exact World.block_lt_of_cell? w _ this
theorem TAt.below' {w w' : World} {a : Option Addr} {l : List (List UInt8)} (h : TAt w a l) (hb : Below w.heap.size w w') : TAt w' a l := h.below hb h.lt
theorem tat_row {w : World} {base : Nat} {v : Value} {l : List (List UInt8)} (h : w.ownsRow base 9 1 v l.length (tc l)) : ∃ a c, v = .slice a l.length c ∧ TAt w a l := by
  rcases h.2 with ⟨e, h0⟩ | ⟨g, cap, cur, e, hb, hg, _⟩
  · exact ⟨none, 0, by rw [e, h0], .inl (List.eq_nil_of_length_eq_zero h0)⟩
  · refine ⟨_, cap, e, .inr ⟨g, 0, rfl, fun i hi => ?_⟩⟩
    have := h.cells (g := g) (by rw [e]; rfl) i (tv (l[i]?.getD [])) (by simp [hi])
    have ea : ((⟨g, 0, none⟩ : Addr).add i) = ⟨g, 0 + i, none⟩ := by simp [Addr.add]; omega
    rw [ea] at this; exact this

theorem tv_eq (x y : List UInt8) : ((⟨x.toArray⟩ : ByteArray).toList == (⟨y.toArray⟩ : ByteArray).toList) = decide (x = y) := by
  rw [ByteArray.toList_eq, ByteArray.toList_eq]
  by_cases h : x = y
  · subst h; simp
  · rw [decide_eq_false h]; simpa using h

theorem take_eq_step {α : Type} [DecidableEq α] {l l' : List α} {k : Nat} {d : α} (hl : l.length = l'.length) (hk : k < l.length) (ht : l.take k = l'.take k) : (l.take (k + 1) = l'.take (k + 1)) ↔ l[k]?.getD d = l'[k]?.getD d := by
  have hk' : k < l'.length := by omega
  have e1 : l.take (k + 1) = l.take k ++ [l[k]] := List.take_succ_eq_append_getElem hk
  have e2 : l'.take (k + 1) = l'.take k ++ [l'[k]] := List.take_succ_eq_append_getElem hk'
  have g1 : l[k]?.getD d = l[k] := by rw [List.getElem?_eq_getElem hk]; rfl
  have g2 : l'[k]?.getD d = l'[k] := by rw [List.getElem?_eq_getElem hk']; rfl
  rw [e1, e2, ht, g1, g2]
  constructor
  · intro h
    exact (List.cons.inj (List.append_cancel_left h)).1
  · intro h; rw [h]

set_option maxRecDepth 100000 in
set_option maxHeartbeats 1000000 in
theorem sameTexts_any (a a' : Option Addr) (c c' : Nat) (l l' : List (List UInt8)) (w : World) (h : TAt w a l) (h' : TAt w a' l') (hm : l.length ≤ 9223372036854775807) (hm' : l'.length ≤ 9223372036854775807) :
    Calls Tryd.prog 11 #[.slice a l.length c, .slice a' l'.length c'] w fun e w' => e = .returned (.bool (decide (l = l'))) ∧ ∃ q, w.drewN q = w' := by
  obtain ⟨D, hD⟩ : ∃ D, D = decide (l = l') := ⟨_, rfl⟩
  rw [← hD]
  have HD := Lib.hid hD
  have H := Lib.hid h
  have H' := Lib.hid h'
  clear h h' hD
  by_cases hl : l.length = l'.length
  · have hne : ((l.length : Int) != (l'.length : Int)) = false := by simp; omega
    have Hl := Lib.hid hl
    clear hl
    go_enter Tryd.func11, Tryd.ntmps11
    go_wp2
    go_loopw [5] (fun i wr => ∃ k q : Nat, k ≤ l.length ∧ i = .int .i64 k ∧ Hid (w.drewN q = wr ∧ l.take k = l'.take k)) (fun i _ => l.length - (intOf i).toNat)
    case atStart => exact ⟨0, 0, Nat.zero_le _, rfl, rfl, by simp⟩
    case round =>
      obtain ⟨k, q, hk, rfl, Hr⟩ := hrel
      by_cases hlt : k < l.length
      · have hlt' : k < l'.length := by have := Hl.out; omega
        rcases H.out with e | ⟨b, off, rfl, hc⟩
        · rw [e] at hlt; simp at hlt
        rcases H'.out with e | ⟨b', off', rfl, hc'⟩
        · rw [e] at hlt'; simp at hlt'
        have c0 : wr.cell? ⟨b, off + k, none⟩ = some (tv (l[k]?.getD [])) := by rw [← Hr.out.1]; exact hc k hlt
        have c1 : wr.cell? ⟨b', off' + k, none⟩ = some (tv (l'[k]?.getD [])) := by rw [← Hr.out.1]; exact hc' k hlt'
        have hst := Lib.hid (take_eq_step (d := []) Hl.out hlt Hr.out.2)
        generalize l[k]?.getD [] = x at *
        generalize l'[k]?.getD [] = y at *
        clear hc hc'
        by_cases hx : x = y
        · have hxy : (x == y) = true := by simpa using hx
          have hnx := hst.out.2 hx
          have Hnx := Lib.hid hnx
          clear hx hnx
          go_wp2
          go_quiet (fail)
          go_wp2
          go_roundw
          case rel => exact ⟨k + 1, q + nq, by omega, by go_num, by rw [← Hr.out.1, World.drewN_drewN], Hnx.out⟩
          case measure => simp [intOf]; omega
        · have hxy : (x == y) = false := by simpa using hx
          have HD' : Hid (D = false) := by
            show _ = _
            rw [HD.out, decide_eq_false]
            rintro rfl
            exact hx (hst.out.1 rfl)
          clear hx
          go_wp2
          go_quiet (fail)
          go_wp2
          go_ret
          exact ⟨by rw [HD'.out]; rfl, q + nq, by rw [← Hr.out.1, World.drewN_drewN]⟩
      · have hkl : k = l.length := by omega
        have HD' : Hid (D = true) := by
          show _ = _
          have h2 := Hr.out.2
          rw [hkl, List.take_length] at h2
          have h3 := Hl.out
          rw [h3, List.take_length] at h2
          rw [HD.out, decide_eq_true h2]
        clear hkl
        go_wp2
        go_ret
        exact ⟨by rw [HD'.out]; rfl, q, Hr.out.1⟩
  · have hne : ((l.length : Int) != (l'.length : Int)) = true := by simp; omega
    have HD' : Hid (D = false) := by show _ = _; rw [HD.out, decide_eq_false]; rintro rfl; exact hl rfl
    clear hl
    go_enter Tryd.func11, Tryd.ntmps11
    go_wp2
    go_ret
    exact ⟨by rw [HD'.out]; rfl, 0, rfl⟩
end Go.Proofs.YtaddpekjmboimaaDoor
