/- The iterator of a set of texts: what it hands to a loop, place by place. -/
import Derived.Test.YtgkdemdpknljkaaDoorAdds
import Derived.RangeFuncNested
import Derived.RangeFuncBound
import Derived.RangeFuncCalls
import Derived.RangeFuncLeaves
import Derived.RangeFuncFrom
import Derived.Shelf.Abstract
import Derived.Shelf.RegionOpen
import Derived.OwnWalkIn
import Derived.TacticsInMore
import Derived.LoopNIn
import Derived.LoopIn
namespace Go.Proofs.YtgkdemdpknljkaaDoor
open Go.RowKit Go.Maps Go.WideMaps Go.WideElems Go.ChangeShapes Go.WideShapes
attribute [local go_sem] Oper.semAt_some

/-- A text that fits. -/
abbrev Txt := { s : ByteArray // s.size ≤ maxLen }
abbrev S0 : Txt := ⟨⟨#[]⟩, by decide⟩
/-- What has come when k rounds are over. -/
def upto (ss : List Txt) (k : Nat) : List (Nat × Txt) := (List.range k).map fun j => (j, ss[j]?.getD S0)
theorem upto_succ (ss : List Txt) (k : Nat) : upto ss (k + 1) = upto ss k ++ [(k, ss[k]?.getD S0)] := by simp [upto, List.range_succ]
theorem upto_length (ss : List Txt) (k : Nat) : (upto ss k).length = k := by simp [upto]

set_option maxRecDepth 100000 in
set_option maxHeartbeats 2000000 in
theorem each1 (F : Fence) (n : Nat) (h8 : F.fn 43) (hro : F.round = none) (hn : 1 ≤ n) (l Bs n₀ sb : Nat) (a : Option Addr) (len cap : Nat) (ss : List Txt) (hreach : len ≤ 1000000) (J Jx : List (Nat × Txt) → World → Prop)
    (hY : ∀ pre x W, J pre W → pre.length < len → YieldAt F (n - 1) Tryd.prog l #[.int .i64 (x.1 : Int), .string x.2.1] W fun e W' =>
      (e = .returned (.bool true) ∧ J (pre ++ [x]) W' ∧ Below n₀ W W') ∨ (e = .returned (.bool false) ∧ Jx (pre ++ [x]) W'))
    (W : World) (hBs : W.cell? ⟨Bs, 0, none⟩ = some (.pointer (some ⟨sb, 0, none⟩))) (hsb : W.cell? ⟨sb, 1, none⟩ = some (.slice a len cap)) (hc : ∀ j, j < len → ∃ g, a = some ⟨g, 0, none⟩ ∧ g < n₀ ∧ W.cell? ⟨g, j, none⟩ = some (.string (ss[j]?.getD S0).1)) (h0 : J [] W) :
    CallsIn F n Tryd.prog 43 #[.func (.yield l) #[] #[], .pointer (some ⟨Bs, 0, none⟩)] W fun e W' => (∃ v, e = .returned v) ∧
      ((∃ ys, ys = upto ss len ∧ J ys W') ∨ (∃ pre, (∃ k, k ≤ len ∧ pre = upto ss k) ∧ Jx pre W')) := by
  refine callsIn_of_wp Tryd.func43 rfl h8 ?_ hro
  simp only [Tryd.ntmps43, List.size_toArray, List.length_cons, List.length_nil, Nat.reduceAdd, Nat.reduceSub, Array.replicate_succ, Array.replicate_zero, List.push_toArray, List.append_toArray, List.nil_append, List.cons_append]
  gi_wp2
  gi_loopw [10] (fun i wr => ∃ k : Nat, k ≤ len ∧ i = .int .i64 k ∧ J (upto ss k) wr ∧ Below n₀ W wr)
    (fun i _ => len - (intOf i).toNat)
  case atStart => exact ⟨0, Nat.zero_le _, rfl, h0, Below.refl _ _⟩
  case round =>
    obtain ⟨k, hk, rfl, hJs, hnx⟩ := hrel
    by_cases hlt : k < len
    · obtain ⟨g, rfl, hg, hcg⟩ := hc k hlt
      have hcx : wr.cell? ⟨g, k, none⟩ = some (.string (ss[k]?.getD S0).1) := (hnx.cell (p := ⟨g, k, none⟩) hg).trans hcg
      obtain ⟨fn, tmps, assign, body, hy, hR⟩ := hY _ (k, ss[k]?.getD S0) wr hJs (by rw [upto_length]; exact hlt)
      dsimp only at hy
      have hup := upto_succ ss k
      generalize ss[k]?.getD S0 = y at *
      have Hup := Lib.hid hup
      have Hc := Lib.hid hc
      clear hup hc hcg
      gi_wp2
      refine hR.mono ?_
      rintro e W3 (⟨rfl, hJ3, hk3⟩ | ⟨rfl, hJx3⟩)
      · gi_wp2
        go_roundw
        case rel => exact ⟨k + 1, by omega, by simp, by rw [Hup.out]; exact hJ3, hnx.trans hk3⟩
        case measure => simp [intOf]; omega
      · gi_wp2
        refine bodyPost_ret (results_none rfl _ _ _) rfl ?_
        exact ⟨⟨_, rfl⟩, .inr ⟨_, ⟨k + 1, by omega, Hup.out.symm⟩, hJx3⟩⟩
    · obtain rfl : k = len := by omega
      gi_wp2
      go_end0
      exact ⟨⟨_, rfl⟩, .inl ⟨_, rfl, hJs⟩⟩

theorem each_stops (F : Fence) (n : Nat) (h8 : F.fn 43) (hro : F.round = none) (hn : 1 ≤ n) (Bs n₀ sb : Nat) (a : Option Addr) (len cap : Nat) (ss : List Txt) (hreach : len ≤ 1000000) (w : World) (_hn₀ : n₀ ≤ w.heap.size)
    (hBs : w.cell? ⟨Bs, 0, none⟩ = some (.pointer (some ⟨sb, 0, none⟩))) (hsb : w.cell? ⟨sb, 1, none⟩ = some (.slice a len cap)) (hc : ∀ j, j < len → ∃ g, a = some ⟨g, 0, none⟩ ∧ g < n₀ ∧ w.cell? ⟨g, j, none⟩ = some (.string (ss[j]?.getD S0).1)) :
    SeqStopsK F n Tryd.prog 43 #[.pointer (some ⟨Bs, 0, none⟩)] (fun x : Nat × Txt => #[Value.int .i64 (x.1 : Int), Value.string x.2.1]) (Below n₀) (fun ys => ys = upto ss len) (fun pre => ∃ k, k ≤ len ∧ pre = upto ss k) len w := fun l J Jx W hW _ _ hY h0 => by
  refine each1 F n h8 hro hn l Bs n₀ sb a len cap ss hreach J Jx hY W ?_ ?_ ?_ h0
  · exact (hW.cell (World.block_lt_of_cell? w _ hBs)).trans hBs
  · exact (hW.cell (World.block_lt_of_cell? w _ hsb)).trans hsb
  · intro j hj
    obtain ⟨g, e, hg, hcg⟩ := hc j hj
    exact ⟨g, e, hg, (hW.cell (World.block_lt_of_cell? w _ hcg)).trans hcg⟩

set_option maxHeartbeats 400000 in
theorem eachs (sb : Nat) (w : World) : Calls Tryd.prog 31 #[.pointer (some ⟨sb, 0, none⟩)] w fun e w' => e = .returned (.func (.func 43) #[] #[.pointer (some ⟨w.heap.size, 0, none⟩)]) ∧ w.alloc (.cells #[.pointer (some ⟨sb, 0, none⟩)] 58) = w' := by
  have hmf : ∀ (fn : Fn) (first cap : Array Value) (w : World), (Instr.makeFunc fn first cap).run Tryd.prog w = .ok (.func fn first cap) w := fun _ _ _ _ => rfl
  go_enter Tryd.func31, Tryd.ntmps31
  go_wp2
  go_ret
  exact ⟨rfl, rfl⟩

set_option maxHeartbeats 400000 in
theorem sets_len (B sb : Nat) (v mv : Value) (m : Int) (ks : List Lit) (vs : List Value) (w : World) (h : SetI 9 80 B w sb v mv m ks vs) :
    Calls Tryd.prog 27 #[.pointer (some ⟨sb, 0, none⟩)] w fun e w' => e = .returned (.int .i64 ks.length) ∧ w = w' := by
  obtain ⟨a, c, rfl⟩ := ownsRow_shape h.row
  have h1 := h.cell1
  rw [← h.len] at h1
  clear h
  go_enter Tryd.func27, Tryd.ntmps27
  go_wp2
  go_ret
  exact ⟨rfl, rfl⟩

abbrev lit (s : Txt) : Lit := .string s.1.data.toList
abbrev LS (ss : List Txt) : List Lit := ss.map lit
abbrev VS (ss : List Txt) : List Value := ss.map fun s => .string s.1
/-- No text stands twice. -/
def Once1 (ss : List Txt) : Prop := ∀ k, k < ss.length → idxOf (LS ss) (lit (ss[k]?.getD S0)) = some (k : Int)

theorem lit_inj {s t : Txt} (h : lit s = lit t) : s = t := by
  obtain ⟨⟨⟨a⟩⟩, _⟩ := s
  obtain ⟨⟨⟨b⟩⟩, _⟩ := t
  simp only [Lit.string.injEq] at h
  subst h
  rfl

theorem idx_at {ss : List Txt} {x : Txt} {z : Int} (h : idxOf (LS ss) (lit x) = some z) : ∃ k : Nat, z = (k : Int) ∧ k < ss.length ∧ ss[k]?.getD S0 = x := by
  unfold idxOf at h
  obtain ⟨k, hk, rfl⟩ := Option.map_eq_some_iff.1 h
  obtain ⟨h1, h2, _⟩ := List.findIdx?_eq_some_iff_getElem.1 hk
  have h1' : k < ss.length := by simpa using h1
  refine ⟨k, rfl, h1', ?_⟩
  have h3 := WideAt.sameKey_eq h2
  simp only [List.getElem_map] at h3
  rw [List.getElem?_eq_getElem h1']
  exact (lit_inj h3).symm

theorem once1_nil : Once1 [] := fun k hk => by simp at hk
theorem once1_snoc {ss : List Txt} {x : Txt} (h : Once1 ss) (hn : idxOf (LS ss) (lit x) = none) : Once1 (ss ++ [x]) := by
  intro k hk
  have e : LS (ss ++ [x]) = LS ss ++ [lit x] := by simp
  rw [e, idxOf_snoc hn]
  unfold upd
  by_cases hkl : k < ss.length
  · have e2 : (ss ++ [x])[k]?.getD S0 = ss[k]?.getD S0 := by rw [List.getElem?_append_left hkl]
    rw [e2]
    have hk1 := h k hkl
    split
    · rename_i hs
      have := WideAt.sameKey_eq hs
      rw [this, hn] at hk1
      cases hk1
    · exact hk1
  · have hke : k = ss.length := by simp at hk; omega
    subst hke
    have e2 : (ss ++ [x])[ss.length]?.getD S0 = x := by simp
    rw [e2, WideAt.sameKey_self (isKeyS _)]
    simp
end Go.Proofs.YtgkdemdpknljkaaDoor
