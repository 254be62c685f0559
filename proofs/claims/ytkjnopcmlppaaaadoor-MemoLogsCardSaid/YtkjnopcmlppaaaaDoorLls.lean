/- What holds at the head of each round of the statement on logs, and what is asked there. -/
import Derived.Test.YtkjnopcmlppaaaaDoorOni
import Derived.Test.YtkjnopcmlppaaaaDoorFst
namespace Go.Proofs.YtkjnopcmlppaaaaDoor
open Go.RowKit Go.Maps Go.WideMaps Go.WideElems Go.ChangeShapes Go.WideShapes

/-- The value beside the first place of a key. -/
def assoc (ks vs : List Int) : Lit → Option Int := fun l => (idxOf (L ks) l).map (fun i => vs.getD i.toNat 0)

theorem assoc_snoc {ks vs : List Int} {x v : Int} (hl : vs.length = ks.length) (hn : idxOf (L ks) (.int .i64 x) = none) : assoc (ks ++ [x]) (vs ++ [v]) = upd (assoc ks vs) (.int .i64 x) v := by
  funext l
  unfold assoc upd
  have e : L (ks ++ [x]) = L ks ++ [.int .i64 x] := by simp [L]
  rw [e, idxOf_snoc hn]
  unfold upd
  split
  · have e2 : (L ks).length = ks.length := by simp
    rw [e2]
    simp [← hl]
  · cases hi : idxOf (L ks) l with
    | none => simp [hi]
    | some z =>
      have hk : ∃ k : Nat, z = (k : Int) ∧ k < ks.length := by
        unfold idxOf at hi
        obtain ⟨k, hk, rfl⟩ := Option.map_eq_some_iff.1 hi
        obtain ⟨h1, _⟩ := List.findIdx?_eq_some_iff_getElem.1 hk
        exact ⟨k, rfl, by simpa using h1⟩
      obtain ⟨k, rfl, hk⟩ := hk
      simp [hi, List.getElem?_append_left (show k < vs.length by omega)]

def LRel (w0 : World) (lb j : Nat) (kv vv : Value) (ks vs : List Int) (wr : World) : Prop :=
  ∃ mv, LogI 3 53 w0.heap.size wr lb mv ks.length (assoc ks vs) ∧ wr.ownsRow w0.heap.size 3 1 kv ks.length (I ks) ∧ wr.ownsRow w0.heap.size 3 1 vv vs.length (I vs) ∧ vs.length = ks.length ∧
    (∀ b, kv.ownBlock = some b → ¬ lfoot lb mv b) ∧ (∀ b, vv.ownBlock = some b → ¬ lfoot lb mv b) ∧ (∀ b, kv.ownBlock = some b → vv.ownBlock ≠ some b) ∧ Only (fun _ => False) w0 wr ∧ ks.length ≤ j

section
variable {w0 wr : World} {lb j : Nat} {kv vv : Value} {ks vs : List Int}

theorem LRel.only {wr' : World} (h : LRel w0 lb j kv vv ks vs wr) (ho : Only (fun _ => False) wr wr') : LRel w0 lb j kv vv ks vs wr' := by
  obtain ⟨mv, h1, h2, h3, h4, h5, h6, h7, h8, h9⟩ := h
  exact ⟨mv, h1.only ho (fun _ _ h => h), ownsRow_only h2 ho (fun _ _ h => h), ownsRow_only h3 ho (fun _ _ h => h), h4, h5, h6, h7, h8.trans ho (fun _ h => h) (fun _ h => .inl h), h9⟩
theorem LRel.mono {i : Nat} (h : LRel w0 lb j kv vv ks vs wr) (hij : j ≤ i) : LRel w0 lb i kv vv ks vs wr := by
  obtain ⟨mv, h1, h2, h3, h4, h5, h6, h7, h8, h9⟩ := h
  exact ⟨mv, h1, h2, h3, h4, h5, h6, h7, h8, Nat.le_trans h9 hij⟩
theorem LRel.seek (h : LRel w0 lb j kv vv ks vs wr) (x : Int) (hj : j < 1000000) :
    Calls Tryd.prog 11 #[kv, .int .i64 x] wr fun e w' => e = .returned (.int .i64 ((idxOf (L ks) (.int .i64 x)).getD (-1))) ∧ wr = w' := by
  obtain ⟨mv, h1, h2, h3, h4, h5, h6, h7, h8, h9⟩ := h
  exact place_any _ _ kv ks x wr h2 (by omega)
theorem LRel.len (h : LRel w0 lb j kv vv ks vs wr) :
    Calls Tryd.prog 25 #[.pointer (some ⟨lb, 0, none⟩)] wr fun e w' => e = .returned (.int .i64 (ks.length : Int)) ∧ wr = w' := by
  obtain ⟨mv, h1, _⟩ := h
  exact lgi_len _ lb mv _ _ wr h1
theorem LRel.get (h : LRel w0 lb j kv vv ks vs wr) (x : Int) (hx : (Lit.int .i64 x).wf = true) :
    Calls Tryd.prog 22 #[.pointer (some ⟨lb, 0, none⟩), .int .i64 x] wr fun e w' => e = .returned (.tuple #[.int .i64 ((assoc ks vs (.int .i64 x)).getD 0), .bool (assoc ks vs (.int .i64 x)).isSome]) ∧ Hid (LRel w0 lb j kv vv ks vs w') := by
  obtain ⟨mv, h1, _⟩ := id h
  refine (lgi_get _ lb mv _ _ x wr hx h1).mono ?_
  rintro e w' ⟨rfl, rfl⟩
  exact ⟨rfl, h.only (Only.of_alloc _ _)⟩
theorem LRel.shapes (h : LRel w0 lb j kv vv ks vs wr) : (∃ a c, kv = .slice a ks.length c) ∧ (∃ a c, vv = .slice a ks.length c) := by
  obtain ⟨mv, h1, h2, h3, h4, _⟩ := h
  exact ⟨ownsRow_shape h2, by have := ownsRow_shape h3; rwa [h4] at this⟩
/-- A value's cell. -/
theorem LRel.val (h : LRel w0 lb j kv vv ks vs wr) {k : Nat} (hk : k < ks.length) : ∃ g c, vv = .slice (some ⟨g, 0, none⟩) ks.length c ∧ wr.cell? ⟨g, k, none⟩ = some (.int .i64 (vs.getD k 0)) := by
  obtain ⟨mv, h1, h2, h3, h4, _⟩ := h
  rcases h3.2 with ⟨_, e⟩ | ⟨g, cap, cur, rfl, _⟩
  · omega
  · exact ⟨g, cap, by rw [h4], ownsRow_cell h3 k (by omega)⟩

/-- What noted a new key, then both lists longer by one: the relation goes on. -/
theorem LRel.grow {w1 w2 w3 : World} {mv mv1 kv' vv' : Value} {x v : Int} {o o' : Obj} {F : Nat → Prop}
    (h2 : wr.ownsRow w0.heap.size 3 1 kv ks.length (I ks)) (h3 : wr.ownsRow w0.heap.size 3 1 vv vs.length (I vs)) (h4 : vs.length = ks.length)
    (h5 : ∀ b, kv.ownBlock = some b → ¬ lfoot lb mv b) (h6 : ∀ b, vv.ownBlock = some b → ¬ lfoot lb mv b) (h7 : ∀ b, kv.ownBlock = some b → vv.ownBlock ≠ some b) (h8 : Only (fun _ => False) w0 wr) (h9 : ks.length ≤ j)
    (hn : idxOf (L ks) (.int .i64 x) = none) (hlog : LogI 3 53 w0.heap.size w1 lb mv1 (ks.length + 1) (upd (assoc ks vs) (.int .i64 x) v)) (ho : Only F wr w1) (hF : ∀ i, F i → w0.heap.size ≤ i)
    (hfrom : ∀ i, lfoot lb mv1 i → lfoot lb mv i ∨ wr.heap.size ≤ i)
    (hk : w2.ownsRow w0.heap.size 3 1 kv' (ks.length + 1) (I ks ++ [.int .i64 x])) (hgk : (w1.alloc o).grownBy w2 kv.ownBlock) (hlk : kv'.ownBlock = kv.ownBlock ∨ kv'.ownBlock = some (w1.heap.size + 1))
    (hv : w3.ownsRow w0.heap.size 3 1 vv' (vs.length + 1) (I vs ++ [.int .i64 v])) (hgv : (w2.alloc o').grownBy w3 vv.ownBlock) (hlv : vv'.ownBlock = vv.ownBlock ∨ vv'.ownBlock = some (w2.heap.size + 1)) :
    LRel w0 lb (j + 1) kv' vv' (ks ++ [x]) (vs ++ [v]) w3 := by
  have s1 := ho.size
  have s0 := h8.size
  have o2 : Only (fun i => kv.ownBlock = some i) w1 w2 := (Only.of_alloc w1 o).trans (Only.of_grown hgk) (fun _ (h : False) => h.elim) (fun _ h => .inl h)
  have o3 : Only (fun i => vv.ownBlock = some i) w2 w3 := (Only.of_alloc w2 o').trans (Only.of_grown hgv) (fun _ (h : False) => h.elim) (fun _ h => .inl h)
  have s2 := o2.size
  have hdk : ∀ b, kv.ownBlock = some b → ¬ lfoot lb mv1 b := by
    intro b hb hf
    rcases hfrom b hf with h | h
    · exact h5 b hb h
    · have := (h2.lt b hb).2; omega
  have hdv : ∀ b, vv.ownBlock = some b → ¬ lfoot lb mv1 b := by
    intro b hb hf
    rcases hfrom b hf with h | h
    · exact h6 b hb h
    · have := (h3.lt b hb).2; omega
  have eL : (ks ++ [x]).length = ks.length + 1 := by simp
  have eI : I (ks ++ [x]) = I ks ++ [.int .i64 x] := by simp [I]
  have eV : I (vs ++ [v]) = I vs ++ [.int .i64 v] := by simp [I]
  have hkv : ∀ b, kv'.ownBlock = some b → vv.ownBlock ≠ some b := by
    intro b hb hv
    rcases hlk with h | h
    · exact h7 b (h ▸ hb) hv
    · rw [h] at hb; cases hb
      have := (h3.lt _ hv).2; omega
  refine ⟨mv1, ?_, ?_, ?_, by simp [h4], ?_, ?_, ?_, ?_, by rw [eL]; omega⟩
  · rw [eL, assoc_snoc h4 hn]
    exact (hlog.only o2 (fun i hi e => hdk i e hi)).only o3 (fun i hi e => hdv i e hi)
  · rw [eL, eI]
    exact ownsRow_only hk o3 (fun b hb e => hkv b hb e)
  · rw [eV, List.length_append]
    exact hv
  · intro b hb
    rcases hlk with h | h
    · exact hdk b (h ▸ hb)
    · intro hf
      rw [h] at hb; cases hb
      have := (hlog.lt _ hf).2; omega
  · intro b hb
    rcases hlv with h | h
    · exact hdv b (h ▸ hb)
    · intro hf
      rw [h] at hb; cases hb
      have := (hlog.lt _ hf).2; omega
  · intro b hb hv'
    rcases hlv with h | h
    · exact hkv b hb (h ▸ hv')
    · rw [h] at hv'; cases hv'
      have := (hk.lt _ hb).2; omega
  · exact ((h8.trans ho (H := fun _ => False) (fun _ h => h) (fun i hi => .inr (hF i hi))).trans o2 (fun _ h => h) (fun i hi => .inr (h2.lt i hi).1)).trans o3 (fun _ h => h) (fun i hi => .inr (h3.lt i hi).1)
end
end Go.Proofs.YtkjnopcmlppaaaaDoor
