/- How the arguments of the statements lie in memory. -/
import Derived.Test.YthgkloapnihpaaaGreatM3
import Derived.Test.YthgkloapnihpaaaGreatRows
import Derived.ProofKit
import Derived.OpenShut
import Derived.ChangeSame
import Derived.ChangeVars
import Derived.LaidLaws
import Derived.MakeChecks
import Derived.Deep.DeepHandedRow
import Derived.Deep.DeepWitnessRowRef
import Derived.HandedShaped
import Derived.Shelf.LaysM
import Derived.SliceStrings
import Derived.Carry
import Derived.Deep.Slices
import Derived.Deep.Fields
import Derived.Lib.SmallJoins
namespace Go.Proofs.YthgkloapnihpaaaGreat
open Go.ChangeShapes Go.WideShapes Go.ChangeAt Go.RowKit Go.Deep

theorem own : ownKnob Tryz.prog.godebug = none := by kernel_rfl
noncomputable def plainWorld (os : Os) : World := World.holding Tryz.prog os ⟨#[], #[], []⟩
theorem laidOut : laidOutB Tryz.prog = true := by kernel_rfl
theorem cells3 : Tryz.prog.cellsOf 3 = 1 := by kernel_rfl
theorem cell_spot {w : World} {a : Addr} {v : Value} (h : w.cell? a = some v) : a = ⟨a.block, a.off, none⟩ := by
  obtain ⟨b, o, s⟩ := a
  cases s with
  | none => rfl
  | some _ => simp [World.cell?] at h; split at h <;> simp_all
theorem add_flat (b o n : Nat) : (⟨b, o, none⟩ : Addr).add n = ⟨b, o + n, none⟩ := by
  unfold Addr.add
  split
  · rename_i h; subst h; rfl
  · rfl

/-- Whole numbers that came in. -/
theorem ints_inc {H : Type} {enc : TypeId × Value → H} {W : World} {v : Value} {d : DataW H} {p : List MemPlace} (h : DataW.Trod enc Tryz.prog W 0 (fun _ => true) true 23 v d p) (hs : ∃ a n c, v = .slice a n c) :
    ∃ a c l, v = .slice a (l : List Int).length c ∧ SlI W a l ∧ ∀ x ∈ l, fit64 x := by
  obtain ⟨a, n, c, rfl⟩ := hs
  by_cases hn : n = 0
  · exact ⟨a, c, [], by rw [hn]; rfl, .inl rfl, by simp⟩
  obtain ⟨fuel, hf⟩ := h
  rcases open_ints Tryz.underlying23 Tryz.underlying3 cells3 hf with ⟨e, _⟩ | ⟨a', len, cap, zs, e, _, hl, hmx, hz, _, hcell, hwz⟩
  · simp [Value.cells] at e; omega
  have e' : Value.slice a n c = Value.slice (some a') len cap := by simpa [Value.cells] using e
  cases e'
  have hzl : zs.length = c := by simpa using hz
  clear hz
  have h0 := hcell 0 (by omega)
  have hsp := cell_spot (by simpa [Addr.add] using h0)
  have hbl := World.block_lt_of_cell? W _ (show W.cell? a' = _ by simpa [Addr.add] using h0)
  refine ⟨some a', c, zs.take n, by congr 1; simp; omega, .inr ⟨a'.block, a'.off, congrArg some hsp, fun _ => hbl, fun i x hi => ?_⟩, fun x hx => ?_⟩
  · have hi0 := (List.getElem?_eq_some_iff.1 hi).1
    have hi' : i < n := by simp at hi0; omega
    have h1 := hcell i (by omega)
    rw [hsp, add_flat] at h1
    rw [h1]
    rw [List.getElem?_take, if_pos hi'] at hi
    simp [List.getD_eq_getElem?_getD, hi]
  · exact hwz x (List.mem_of_mem_take hx)

/-- The number in a cell. -/
def cellNum (W : World) (a : Addr) : Int := match W.cell? a with
  | some (.int _ z) => z
  | _ => 0
/-- Rows of whole numbers that came in: a slice of structs whose fields are whole numbers. -/
theorem structs_inc {H : Type} {enc : TypeId × Value → H} {P : Program} {W : World} {t e : TypeId} {fs : Array Field} {C : Nat} (ht : P.underlying t = some (.slice e)) (he : P.underlying e = some (.struct fs)) (hone : oneCellFields P fs = true) (hC : P.cellsOf e = fs.size) (hz : fs.size = C) (hpos : 0 < C)
    (hint : ∀ (i : Nat) (f : Field), fs[i]? = some f → P.underlying f.type = some (.int .i64)) {a : Option Addr} {n c : Nat} {d : DataW H} {p : List MemPlace} (h : DataW.Trod enc P W 0 (fun _ => true) true t (.slice a n c) d p) (hn : n ≠ 0) :
    ∃ b off, a = some ⟨b, off, none⟩ ∧ b < W.heap.size ∧ n ≤ c ∧ c ≤ maxLen ∧ ∀ i, i < n → ∀ j, j < C → ∃ z, W.cell? ⟨b, off + i * C + j, none⟩ = some (.int .i64 z) ∧ (Lit.int .i64 z).wf = true := by
  obtain ⟨fuel, hf⟩ := h
  rcases open_slice ht hf with ⟨e0, _⟩ | ⟨a', len, cap, m, k, D, Pl, e0, _, hl, hm, hmm, _, hx⟩
  · simp [Value.cells] at e0; omega
  have e' : Value.slice a n c = Value.slice (some a') len cap := by simpa [Value.cells] using e0
  cases e'
  have hmc : m = c := by simpa using hmm
  have each : ∀ i, i < n → ∀ j, j < C → ∃ z, W.cell? ((a'.add (i * C)).add j) = some (.int .i64 z) ∧ (Lit.int .i64 z).wf = true := fun i hi j hj => by
    obtain ⟨cs', h1, h2⟩ := hx i (by omega)
    rw [hC, hz] at h1
    obtain ⟨_, hlen, hcell⟩ := World.cells?_some h1
    obtain ⟨xs, q, hk, hxy, _, hxl, hfi⟩ := DataW.trod_struct he h2
    have hjs : j < fs.size := by omega
    have hfj := hfi j fs[j] (Array.getElem?_eq_getElem hjs)
    obtain ⟨ho, hc1⟩ := hone_of hone j fs[j] (Array.getElem?_eq_getElem hjs)
    rw [ho, hc1] at hfj
    have hlt : j < xs.length := by omega
    rw [List.getElem?_eq_getElem hlt] at hfj
    obtain ⟨z, hz1, _, hz2⟩ := DataW.trod_int (hint j fs[j] (Array.getElem?_eq_getElem hjs)) hfj
    refine ⟨z, ?_, hz2⟩
    rw [hcell j (by omega)]
    have := congrArg (·[0]?) hz1
    simpa [List.getElem?_take, List.getElem?_drop] using this
  obtain ⟨z0, h0, _⟩ := each 0 (by omega) 0 hpos
  have h0' : W.cell? a' = some (.int .i64 z0) := by simpa [Addr.add] using h0
  have hsp := cell_spot h0'
  refine ⟨a'.block, a'.off, congrArg some hsp, World.block_lt_of_cell? W _ h0', hl, hm, fun i hi j hj => ?_⟩
  obtain ⟨z, h1, h2⟩ := each i hi j hj
  refine ⟨z, ?_, h2⟩
  rw [hsp, add_flat, add_flat] at h1
  exact h1

theorem under31 : ∃ fs, Tryz.prog.underlying 45 = some (.struct fs) ∧ oneCellFields Tryz.prog fs = true ∧ Tryz.prog.cellsOf 45 = fs.size ∧ fs.size = 3 ∧ ∀ (i : Nat) (f : Field), fs[i]? = some f → f.type = 3 := by
  refine ⟨_, Tryz.underlying45, by kernel_rfl, by kernel_rfl, by kernel_rfl, fun i f h => ?_⟩
  match i with
  | 0 => simp at h; rw [← h]
  | 1 => simp at h; rw [← h]
  | 2 => simp at h; rw [← h]
  | n + 3 => simp at h
/-- Edges that came in. -/
theorem edges_inc {H : Type} {enc : TypeId × Value → H} {W : World} {v : Value} {d : DataW H} {p : List MemPlace} (h : DataW.Trod enc Tryz.prog W 0 (fun _ => true) true 22 v d p) (hs : ∃ a n c, v = .slice a n c) :
    ∃ a c l, v = .slice a (l : List Ed).length c ∧ SlE W a l ∧ ∀ q ∈ l, fit64 q.1 ∧ fit64 q.2.1 ∧ fit64 q.2.2 := by
  obtain ⟨a, n, c, rfl⟩ := hs
  by_cases hn : n = 0
  · exact ⟨a, c, [], by rw [hn]; rfl, .inl rfl, by simp⟩
  obtain ⟨fs, u1, u2, u3, u4, u5⟩ := under31
  obtain ⟨b, off, rfl, hbl, hnc, hcm, hcell⟩ := structs_inc Tryz.underlying22 u1 u2 u3 u4 (by decide) (fun i f hf => by rw [u5 i f hf]; exact Tryz.underlying3) h hn
  let g : Nat → Ed := fun i => (cellNum W ⟨b, off + i * 3, none⟩, cellNum W ⟨b, off + i * 3 + 1, none⟩, cellNum W ⟨b, off + i * 3 + 2, none⟩)
  have hg : ∀ i, i < n → W.cell? ⟨b, off + i * 3, none⟩ = some (.int .i64 (g i).1) ∧ W.cell? ⟨b, off + i * 3 + 1, none⟩ = some (.int .i64 (g i).2.1) ∧ W.cell? ⟨b, off + i * 3 + 2, none⟩ = some (.int .i64 (g i).2.2) ∧ fit64 (g i).1 ∧ fit64 (g i).2.1 ∧ fit64 (g i).2.2 := fun i hi => by
    obtain ⟨z1, h1, w1⟩ := hcell i hi 0 (by omega)
    obtain ⟨z2, h2, w2⟩ := hcell i hi 1 (by omega)
    obtain ⟨z3, h3, w3⟩ := hcell i hi 2 (by omega)
    rw [Nat.add_zero] at h1
    have e1 : (g i).1 = z1 := by show cellNum W _ = _; unfold cellNum; rw [h1]
    have e2 : (g i).2.1 = z2 := by show cellNum W _ = _; unfold cellNum; rw [h2]
    have e3 : (g i).2.2 = z3 := by show cellNum W _ = _; unfold cellNum; rw [h3]
    rw [e1, e2, e3]
    exact ⟨h1, h2, h3, w1, w2, w3⟩
  refine ⟨_, c, (List.range n).map g, by simp, .inr ⟨b, off, rfl, fun _ => hbl, fun k q hk => ?_⟩, fun q hq => ?_⟩
  · have hk0 := (List.getElem?_eq_some_iff.1 hk).1
    have hk' : k < n := by simpa using hk0
    have e : g k = q := by simpa [hk'] using hk
    subst e
    obtain ⟨h1, h2, h3, -⟩ := hg k hk'
    exact ⟨h1, h2, h3⟩
  · obtain ⟨i, hi, rfl⟩ := List.mem_map.1 hq
    exact (hg i (by simpa using hi)).2.2.2
end Go.Proofs.YthgkloapnihpaaaGreat
