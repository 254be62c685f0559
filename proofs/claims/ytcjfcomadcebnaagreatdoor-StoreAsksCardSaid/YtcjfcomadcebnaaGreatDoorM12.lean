/- Helpers, joined: Ar, Ao. -/
import Derived.Test.YtcjfcomadcebnaaGreatDoorM10
import Derived.Test.YtcjfcomadcebnaaGreatDoorM11
import Derived.SliceStrings
import Derived.Carry
import Derived.Deep.Slices
import Derived.Deep.Fields
import Derived.Lib.SmallJoins

/- How the arguments of the statements lie in memory. -/
namespace Go.Proofs.YtcjfcomadcebnaaGreatDoor
open Go.ChangeShapes Go.WideShapes Go.ChangeAt Go.RowKit Go.Deep

theorem cells3 : Tryz.prog.cellsOf 3 = 1 := by kernel_rfl

theorem cell_spot {w : World} {a : Addr} {v : Value} (h : w.cell? a = some v) : a = ⟨a.block, a.off, none⟩ := by
  obtain ⟨b, o, s⟩ := a
  cases s with
  | none => rfl
  | some _ => simp [World.cell?] at h; split at h <;> simp_all

theorem add_flat (b o n : Nat) : (⟨b, o, none⟩ : Addr).add n = ⟨b, o + n, none⟩ := by
  unfold Addr.add
  split
  · rename_i h; subst h; rfl
  · rfl

/-- Whole numbers that came in. -/
theorem ints_inc {H : Type} {enc : TypeId × Value → H} {W : World} {v : Value} {d : DataW H} {p : List MemPlace} (h : DataW.Trod enc Tryz.prog W 0 (fun _ => true) true 37 v d p) (hs : ∃ a n c, v = .slice a n c) :
    ∃ a c l, v = .slice a (l : List Int).length c ∧ IAt W a l := by
  obtain ⟨a, n, c, rfl⟩ := hs
  by_cases hn : n = 0
  · exact ⟨a, c, [], by rw [hn]; rfl, .inl rfl⟩
  obtain ⟨fuel, hf⟩ := h
  rcases open_ints Tryz.underlying37 Tryz.underlying3 cells3 hf with ⟨e, _⟩ | ⟨a', len, cap, zs, e, _, hl, hmx, hz, _, hcell, hwz⟩
  · simp [Value.cells] at e; omega
  have e' : Value.slice a n c = Value.slice (some a') len cap := by simpa [Value.cells] using e
  cases e'
  have hzl : zs.length = c := by simpa using hz
  clear hz
  have h0 := hcell 0 (by omega)
  have hsp := cell_spot (by simpa [Addr.add] using h0)
  refine ⟨some a', c, zs.take n, by congr 1; simp; omega, .inr ⟨a'.block, a'.off, congrArg some hsp, fun i hi => ?_⟩⟩
  have hi' : i < n := by simp at hi; omega
  have h1 := hcell i (by omega)
  rw [hsp, add_flat] at h1
  rw [h1, List.getElem?_take, if_pos hi']
  simp

/-- The number in a cell. -/
def cellNum (W : World) (a : Addr) : Int := match W.cell? a with
  | some (.int _ z) => z
  | _ => 0
/-- Rows of whole numbers that came in: a slice of structs whose fields are whole numbers. -/
theorem structs_inc {H : Type} {enc : TypeId × Value → H} {P : Program} {W : World} {t e : TypeId} {fs : Array Field} {C : Nat} (ht : P.underlying t = some (.slice e)) (he : P.underlying e = some (.struct fs)) (hone : oneCellFields P fs = true) (hC : P.cellsOf e = fs.size) (hz : fs.size = C) (hpos : 0 < C)
    (hint : ∀ (i : Nat) (f : Field), fs[i]? = some f → P.underlying f.type = some (.int .i64)) {a : Option Addr} {n c : Nat} {d : DataW H} {p : List MemPlace} (h : DataW.Trod enc P W 0 (fun _ => true) true t (.slice a n c) d p) (hn : n ≠ 0) :
    ∃ b off, a = some ⟨b, off, none⟩ ∧ b < W.heap.size ∧ n ≤ c ∧ c ≤ maxLen ∧ ∀ i, i < n → ∀ j, j < C → ∃ z, W.cell? ⟨b, off + i * C + j, none⟩ = some (.int .i64 z) ∧ (Lit.int .i64 z).wf = true := by
  obtain ⟨fuel, hf⟩ := h
  rcases open_slice ht hf with ⟨e0, _⟩ | ⟨a', len, cap, m, k, D, Pl, e0, _, hl, hm, hmm, _, hx⟩
  · simp [Value.cells] at e0; omega
  have e' : Value.slice a n c = Value.slice (some a') len cap := by simpa [Value.cells] using e0
  cases e'
  have hmc : m = c := by simpa using hmm
  have each : ∀ i, i < n → ∀ j, j < C → ∃ z, W.cell? ((a'.add (i * C)).add j) = some (.int .i64 z) ∧ (Lit.int .i64 z).wf = true := fun i hi j hj => by
    obtain ⟨cs', h1, h2⟩ := hx i (by omega)
    rw [hC, hz] at h1
    obtain ⟨_, hlen, hcell⟩ := World.cells?_some h1
    obtain ⟨xs, q, hk, hxy, _, hxl, hfi⟩ := DataW.trod_struct he h2
    have hjs : j < fs.size := by omega
    have hfj := hfi j fs[j] (Array.getElem?_eq_getElem hjs)
    obtain ⟨ho, hc1⟩ := hone_of hone j fs[j] (Array.getElem?_eq_getElem hjs)
    rw [ho, hc1] at hfj
    have hlt : j < xs.length := by omega
    rw [List.getElem?_eq_getElem hlt] at hfj
    obtain ⟨z, hz1, _, hz2⟩ := DataW.trod_int (hint j fs[j] (Array.getElem?_eq_getElem hjs)) hfj
    refine ⟨z, ?_, hz2⟩
    rw [hcell j (by omega)]
    have := congrArg (·[0]?) hz1
    simpa [List.getElem?_take, List.getElem?_drop] using this
  obtain ⟨z0, h0, _⟩ := each 0 (by omega) 0 hpos
  have h0' : W.cell? a' = some (.int .i64 z0) := by simpa [Addr.add] using h0
  have hsp := cell_spot h0'
  refine ⟨a'.block, a'.off, congrArg some hsp, World.block_lt_of_cell? W _ h0', hl, hm, fun i hi j hj => ?_⟩
  obtain ⟨z, h1, h2⟩ := each i hi j hj
  refine ⟨z, ?_, h2⟩
  rw [hsp, add_flat, add_flat] at h1
  exact h1
end Go.Proofs.YtcjfcomadcebnaaGreatDoor

/- Objects and calls that came in. -/
namespace Go.Proofs.YtcjfcomadcebnaaGreatDoor
open Go.ChangeShapes Go.WideShapes Go.ChangeAt Go.RowKit Go.Deep

theorem flat_at {α : Type} (f : α → List Value) (C : Nat) (hC : 0 < C) (hf : ∀ x, (f x).length = C) : ∀ (l : List α) (j : Nat), (l.flatMap f)[j]? = (l[j / C]?).bind fun x => (f x)[j % C]?
  | [], j => by simp
  | x :: l, j => by
    rw [List.flatMap_cons]
    by_cases h : j < C
    · rw [List.getElem?_append_left (by rw [hf]; exact h), Nat.div_eq_of_lt h, Nat.mod_eq_of_lt h]; rfl
    · rw [List.getElem?_append_right (by rw [hf]; omega), hf, flat_at f C hC hf l (j - C)]
      have e1 : j / C = (j - C) / C + 1 := Nat.div_eq_sub_div hC (by omega)
      have e2 : (j - C) % C = j % C := (Nat.mod_eq_sub_mod (by omega)).symm
      rw [e1, e2]; rfl
/-- A slice that came in has an address without a way in, or is nil. -/
theorem slice_spot {P : Program} {W : World} {base : Nat} {t e : TypeId} {a : Option Addr} {n c : Nat} (ht : P.underlying t = some (.slice e)) (h : Value.okWide P W .any base t (.slice a n c)) : (a = none ∧ n = 0 ∧ c = 0) ∨ ∃ b off, a = some ⟨b, off, none⟩ := by
  have h' : Cell.ok P W .any base t (.slice a n c) := by
    unfold Value.okWide at h
    rw [ht] at h
    unfold Cell.okWide at h
    rw [ht] at h
    exact h
  unfold Cell.ok at h'
  rw [ht] at h'
  cases a with
  | none =>
    rcases n with _ | n <;> rcases c with _ | c
    · exact .inl ⟨rfl, rfl, rfl⟩
    all_goals exact h'.elim
  | some a =>
    obtain ⟨_, _, hh⟩ := h'
    refine .inr ⟨a.block, a.off, ?_⟩
    obtain ⟨b, o, s⟩ := a
    have : s = none := hh.2.1
    rw [this]
theorem fits_wf {z : Int} (h : (Lit.int .i64 z).wf = true) : fits64 z := by
  have h1 : IntKind.i64.min ≤ z ∧ z ≤ IntKind.i64.max := by simpa [Lit.wf] using h
  exact h1
/-- Rows of C whole numbers that came in, as a list. -/
theorem rows_list {α : Type} (f : α → List Value) (C : Nat) (hC : 0 < C) (mk : (Nat → Int) → α) (hmk : ∀ g : Nat → Int, f (mk g) = (List.range C).map fun j => .int .i64 (g j)) (hf : ∀ x, (f x).length = C)
    {W : World} {b off n : Nat} (hb : b < W.heap.size) (h : ∀ i, i < n → ∀ j, j < C → ∃ z, W.cell? ⟨b, off + i * C + j, none⟩ = some (.int .i64 z) ∧ (Lit.int .i64 z).wf = true) :
    ∃ l : List α, l.length = n ∧ SlAt W (some ⟨b, off, none⟩) (l.flatMap f) ∧ ∀ x ∈ l, ∃ g : Nat → Int, x = mk g ∧ ∀ j, j < C → fits64 (g j) := by
  refine ⟨(List.range n).map fun i => mk fun j => cellNum W ⟨b, off + i * C + j, none⟩, by simp, .inr ⟨b, off, rfl, fun _ => hb, fun j u hj => ?_⟩, fun x hx => ?_⟩
  · rw [flat_at f C hC hf] at hj
    rw [List.getElem?_map] at hj
    by_cases hi : j / C < n
    · rw [List.getElem?_range hi] at hj
      simp only [Option.map_some, Option.bind_some] at hj
      rw [hmk, List.getElem?_map, List.getElem?_range (Nat.mod_lt j hC)] at hj
      simp only [Option.map_some, Option.some.injEq] at hj
      obtain ⟨z, hz, _⟩ := h (j / C) hi (j % C) (Nat.mod_lt j hC)
      have e : off + j / C * C + j % C = off + j := by
        have := Nat.div_add_mod j C
        rw [Nat.mul_comm] at this
        omega
      rw [e] at hz hj
      rw [← hj]
      unfold cellNum
      rw [hz]
    · rw [List.getElem?_eq_none (by simpa using hi)] at hj
      simp at hj
  · obtain ⟨i, hi, rfl⟩ := List.mem_map.1 hx
    refine ⟨_, rfl, fun j hj => ?_⟩
    obtain ⟨z, hz, hw⟩ := h i (List.mem_range.1 hi) j hj
    unfold cellNum
    rw [hz]
    exact fits_wf hw
theorem slAt_nil {W : World} {a : Option Addr} {c : Nat} (h : (a = none ∧ (0 : Nat) = 0 ∧ c = 0) ∨ ∃ b off, a = some ⟨b, off, none⟩) : SlAt W a [] := by
  rcases h with ⟨h, _⟩ | ⟨b, off, h⟩
  · exact .inl ⟨h, rfl⟩
  · exact .inr ⟨b, off, h, fun e => absurd rfl e, fun j u hj => by simp at hj⟩
set_option maxRecDepth 100000 in
theorem obs_inc {H : Type} {enc : TypeId × Value → H} {W : World} {base : Nat} {v : Value} {d : DataW H} {p : List MemPlace} (hv : Value.okWide Tryz.prog W .any base 22 v) (h : DataW.Trod enc Tryz.prog W 0 (fun _ => true) true 22 v d p) :
    ∃ a c, ∃ os : List (Int × Int), v = .slice a os.length c ∧ SlAt W a (obs os) := by
  obtain ⟨a, n, c, rfl⟩ := okWide_slice Tryz.underlying22 hv
  have hs := slice_spot Tryz.underlying22 hv
  by_cases hn : n = 0
  · subst hn
    exact ⟨a, c, [], rfl, slAt_nil (hs.imp (fun h => ⟨h.1, rfl, h.2.2⟩) id)⟩
  · obtain ⟨b, off, rfl, hb, _, _, hx⟩ := structs_inc (C := 2) Tryz.underlying22 Tryz.underlying83 (by kernel_rfl) (by kernel_rfl) rfl (by decide) (by intro i f hf; rcases i with _ | _ | i <;> first | (cases hf; exact Tryz.underlying3) | (exact absurd hf (by simp))) h hn
    obtain ⟨l, hl, hsl, _⟩ := rows_list (fun o : Int × Int => [.int .i64 o.1, .int .i64 o.2]) 2 (by decide) (fun g => (g 0, g 1)) (fun g => rfl) (fun _ => rfl) hb hx
    exact ⟨_, c, l, by rw [hl], hsl⟩
set_option maxRecDepth 100000 in
theorem cls_inc {H : Type} {enc : TypeId × Value → H} {W : World} {base : Nat} {v : Value} {d : DataW H} {p : List MemPlace} (hv : Value.okWide Tryz.prog W .any base 23 v) (h : DataW.Trod enc Tryz.prog W 0 (fun _ => true) true 23 v d p) :
    ∃ a c, ∃ l : List CO, v = .slice a l.length c ∧ SlAt W a (cls l) ∧ ∀ x ∈ l, fits64 x.key ∧ fits64 x.val := by
  obtain ⟨a, n, c, rfl⟩ := okWide_slice Tryz.underlying23 hv
  have hs := slice_spot Tryz.underlying23 hv
  by_cases hn : n = 0
  · subst hn
    exact ⟨a, c, [], rfl, slAt_nil (hs.imp (fun h => ⟨h.1, rfl, h.2.2⟩) id), by simp⟩
  · obtain ⟨b, off, rfl, hb, _, _, hx⟩ := structs_inc (C := 4) Tryz.underlying23 Tryz.underlying68 (by kernel_rfl) (by kernel_rfl) rfl (by decide) (by intro i f hf; rcases i with _ | _ | _ | _ | i <;> first | (cases hf; exact Tryz.underlying3) | (exact absurd hf (by simp))) h hn
    obtain ⟨l, hl, hsl, hf⟩ := rows_list (fun c : CO => [.int .i64 c.obj, .int .i64 c.op, .int .i64 c.key, .int .i64 c.val]) 4 (by decide) (fun g => ⟨g 0, g 1, g 2, g 3⟩) (fun g => rfl) (fun _ => rfl) hb hx
    refine ⟨_, c, l, by rw [hl], hsl, fun x hx => ?_⟩
    obtain ⟨g, rfl, hg⟩ := hf x hx
    exact ⟨hg 2 (by decide), hg 3 (by decide)⟩
end Go.Proofs.YtcjfcomadcebnaaGreatDoor
