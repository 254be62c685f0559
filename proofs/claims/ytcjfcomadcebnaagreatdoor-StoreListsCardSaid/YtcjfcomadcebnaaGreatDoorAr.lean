/- How the arguments of the statements lie in memory. -/
import Derived.Test.YtcjfcomadcebnaaGreatDoorLd
import Derived.Test.YtcjfcomadcebnaaGreatDoorLa
import Derived.SliceStrings
import Derived.Carry
import Derived.Deep.Slices
import Derived.Deep.Fields
import Derived.Lib.SmallJoins
namespace Go.Proofs.YtcjfcomadcebnaaGreatDoor
open Go.ChangeShapes Go.WideShapes Go.ChangeAt Go.RowKit Go.Deep

theorem cells3 : Tryz.prog.cellsOf 3 = 1 := by kernel_rfl

theorem cell_spot {w : World} {a : Addr} {v : Value} (h : w.cell? a = some v) : a = ⟨a.block, a.off, none⟩ := by
  obtain ⟨b, o, s⟩ := a
  cases s with
  | none => rfl
  | some _ => simp [World.cell?] at h; split at h <;> simp_all

theorem add_flat (b o n : Nat) : (⟨b, o, none⟩ : Addr).add n = ⟨b, o + n, none⟩ := by
  unfold Addr.add
  split
  · rename_i h; subst h; rfl
  · rfl

/-- Whole numbers that came in. -/
theorem ints_inc {H : Type} {enc : TypeId × Value → H} {W : World} {v : Value} {d : DataW H} {p : List MemPlace} (h : DataW.Trod enc Tryz.prog W 0 (fun _ => true) true 37 v d p) (hs : ∃ a n c, v = .slice a n c) :
    ∃ a c l, v = .slice a (l : List Int).length c ∧ IAt W a l := by
  obtain ⟨a, n, c, rfl⟩ := hs
  by_cases hn : n = 0
  · exact ⟨a, c, [], by rw [hn]; rfl, .inl rfl⟩
  obtain ⟨fuel, hf⟩ := h
  rcases open_ints Tryz.underlying37 Tryz.underlying3 cells3 hf with ⟨e, _⟩ | ⟨a', len, cap, zs, e, _, hl, hmx, hz, _, hcell, hwz⟩
  · simp [Value.cells] at e; omega
  have e' : Value.slice a n c = Value.slice (some a') len cap := by simpa [Value.cells] using e
  cases e'
  have hzl : zs.length = c := by simpa using hz
  clear hz
  have h0 := hcell 0 (by omega)
  have hsp := cell_spot (by simpa [Addr.add] using h0)
  refine ⟨some a', c, zs.take n, by congr 1; simp; omega, .inr ⟨a'.block, a'.off, congrArg some hsp, fun i hi => ?_⟩⟩
  have hi' : i < n := by simp at hi; omega
  have h1 := hcell i (by omega)
  rw [hsp, add_flat] at h1
  rw [h1, List.getElem?_take, if_pos hi']
  simp

/-- The number in a cell. -/
def cellNum (W : World) (a : Addr) : Int := match W.cell? a with
  | some (.int _ z) => z
  | _ => 0
/-- Rows of whole numbers that came in: a slice of structs whose fields are whole numbers. -/
theorem structs_inc {H : Type} {enc : TypeId × Value → H} {P : Program} {W : World} {t e : TypeId} {fs : Array Field} {C : Nat} (ht : P.underlying t = some (.slice e)) (he : P.underlying e = some (.struct fs)) (hone : oneCellFields P fs = true) (hC : P.cellsOf e = fs.size) (hz : fs.size = C) (hpos : 0 < C)
    (hint : ∀ (i : Nat) (f : Field), fs[i]? = some f → P.underlying f.type = some (.int .i64)) {a : Option Addr} {n c : Nat} {d : DataW H} {p : List MemPlace} (h : DataW.Trod enc P W 0 (fun _ => true) true t (.slice a n c) d p) (hn : n ≠ 0) :
    ∃ b off, a = some ⟨b, off, none⟩ ∧ b < W.heap.size ∧ n ≤ c ∧ c ≤ maxLen ∧ ∀ i, i < n → ∀ j, j < C → ∃ z, W.cell? ⟨b, off + i * C + j, none⟩ = some (.int .i64 z) ∧ (Lit.int .i64 z).wf = true := by
  obtain ⟨fuel, hf⟩ := h
  rcases open_slice ht hf with ⟨e0, _⟩ | ⟨a', len, cap, m, k, D, Pl, e0, _, hl, hm, hmm, _, hx⟩
  · simp [Value.cells] at e0; omega
  have e' : Value.slice a n c = Value.slice (some a') len cap := by simpa [Value.cells] using e0
  cases e'
  have hmc : m = c := by simpa using hmm
  have each : ∀ i, i < n → ∀ j, j < C → ∃ z, W.cell? ((a'.add (i * C)).add j) = some (.int .i64 z) ∧ (Lit.int .i64 z).wf = true := fun i hi j hj => by
    obtain ⟨cs', h1, h2⟩ := hx i (by omega)
    rw [hC, hz] at h1
    obtain ⟨_, hlen, hcell⟩ := World.cells?_some h1
    obtain ⟨xs, q, hk, hxy, _, hxl, hfi⟩ := DataW.trod_struct he h2
    have hjs : j < fs.size := by omega
    have hfj := hfi j fs[j] (Array.getElem?_eq_getElem hjs)
    obtain ⟨ho, hc1⟩ := hone_of hone j fs[j] (Array.getElem?_eq_getElem hjs)
    rw [ho, hc1] at hfj
    have hlt : j < xs.length := by omega
    rw [List.getElem?_eq_getElem hlt] at hfj
    obtain ⟨z, hz1, _, hz2⟩ := DataW.trod_int (hint j fs[j] (Array.getElem?_eq_getElem hjs)) hfj
    refine ⟨z, ?_, hz2⟩
    rw [hcell j (by omega)]
    have := congrArg (·[0]?) hz1
    simpa [List.getElem?_take, List.getElem?_drop] using this
  obtain ⟨z0, h0, _⟩ := each 0 (by omega) 0 hpos
  have h0' : W.cell? a' = some (.int .i64 z0) := by simpa [Addr.add] using h0
  have hsp := cell_spot h0'
  refine ⟨a'.block, a'.off, congrArg some hsp, World.block_lt_of_cell? W _ h0', hl, hm, fun i hi j hj => ?_⟩
  obtain ⟨z, h1, h2⟩ := each i hi j hj
  refine ⟨z, ?_, h2⟩
  rw [hsp, add_flat, add_flat] at h1
  exact h1
end Go.Proofs.YtcjfcomadcebnaaGreatDoor
