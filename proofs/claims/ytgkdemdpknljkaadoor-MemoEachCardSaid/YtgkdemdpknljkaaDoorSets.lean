/- The calls of a set of texts: New, Place, Has, Len, Room, Add, by contracts. -/
import Derived.Test.YtgkdemdpknljkaaDoorIxs
namespace Go.Proofs.YtgkdemdpknljkaaDoor
open Go.RowKit Go.Maps Go.WideMaps Go.WideElems Go.ChangeShapes Go.WideShapes

/-- Where a key stands first in a list of keys. -/
def idxOf (ks : List Lit) (l : Lit) : Option Int := (ks.findIdx? (fun k => l.sameKey k)).map (fun (n : Nat) => (n : Int))

/-- A set in the block sb: its budget, its list, its map. -/
structure SetI (k T : TypeId) (B : Nat) (w : World) (sb : Nat) (v mv : Value) (m : Int) (ks : List Lit) (vs : List Value) : Prop where
  cells : w.heap[sb]? = some (.cells #[.int .i64 m, v, mv] T (0, 0))
  row : w.ownsRow B k 1 v vs.length vs
  ix : IxI Tryd.prog k w mv ks.length (idxOf ks)
  len : ks.length = vs.length
  room : (ks.length : Int) ≤ m
  most : m ≤ 9223372036854775807
  base : B ≤ sb
  mbase : ∀ b, mapBlock mv = some b → B ≤ b

def foot (sb : Nat) (v mv : Value) : Nat → Prop := fun i => i = sb ∨ v.ownBlock = some i ∨ mapBlock mv = some i

theorem ownsRow_only {w w' : World} {B : Nat} {e : TypeId} {size : Nat} {v : Value} {n : Nat} {xs : List Value} {F : Nat → Prop} (h : w.ownsRow B e size v n xs) (ho : Only F w w') (hF : ∀ b, v.ownBlock = some b → ¬ F b) : w'.ownsRow B e size v n xs := by
  refine ⟨h.1, ?_⟩
  rcases h.2 with hn | ⟨g, cap, cur, rfl, hb, hg, rest⟩
  · exact .inl hn
  · exact .inr ⟨g, cap, cur, rfl, hb, by rw [ho.block g (lt_of_block hg) (hF g rfl)]; exact hg, rest⟩

theorem ownsRow_shape {w : World} {B : Nat} {e : TypeId} {size : Nat} {v : Value} {n : Nat} {xs : List Value} (h : w.ownsRow B e size v n xs) : ∃ a c, v = .slice a n c := by
  rcases h.2 with ⟨rfl, rfl⟩ | ⟨g, cap, cur, rfl, _⟩
  · exact ⟨_, _, rfl⟩
  · exact ⟨_, _, rfl⟩

theorem SetI.only {k T : TypeId} {B : Nat} {w w' : World} {sb : Nat} {v mv : Value} {m : Int} {ks : List Lit} {vs : List Value} {F : Nat → Prop} (h : SetI k T B w sb v mv m ks vs) (ho : Only F w w') (hF : ∀ i, foot sb v mv i → ¬ F i) : SetI k T B w' sb v mv m ks vs :=
  ⟨by rw [ho.block sb (lt_of_block h.cells) (hF sb (.inl rfl))]; exact h.cells, ownsRow_only h.row ho (fun b hb => hF b (.inr (.inl hb))), h.ix.only ho (fun b hb => hF b (.inr (.inr hb))), h.len, h.room, h.most, h.base, h.mbase⟩

theorem SetI.lt {k T : TypeId} {B : Nat} {w : World} {sb : Nat} {v mv : Value} {m : Int} {ks : List Lit} {vs : List Value} (h : SetI k T B w sb v mv m ks vs) : ∀ i, foot sb v mv i → B ≤ i ∧ i < w.heap.size := by
  rintro i (rfl | hi | hi)
  · exact ⟨h.base, lt_of_block h.cells⟩
  · exact h.row.lt i hi
  · exact ⟨h.mbase i hi, h.ix.lt i hi⟩

theorem SetI.cell0 {k T : TypeId} {B : Nat} {w : World} {sb : Nat} {v mv : Value} {m : Int} {ks : List Lit} {vs : List Value} (h : SetI k T B w sb v mv m ks vs) : w.cell? ⟨sb, 0, none⟩ = some (.int .i64 m) := by simp [World.cell?, h.cells]
theorem SetI.cell1 {k T : TypeId} {B : Nat} {w : World} {sb : Nat} {v mv : Value} {m : Int} {ks : List Lit} {vs : List Value} (h : SetI k T B w sb v mv m ks vs) : w.cell? ⟨sb, 1, none⟩ = some v := by simp [World.cell?, h.cells]
theorem SetI.cell2 {k T : TypeId} {B : Nat} {w : World} {sb : Nat} {v mv : Value} {m : Int} {ks : List Lit} {vs : List Value} (h : SetI k T B w sb v mv m ks vs) : w.cell? ⟨sb, 2, none⟩ = some mv := by simp [World.cell?, h.cells]
theorem SetI.free {k T : TypeId} {B : Nat} {w : World} {sb : Nat} {v mv : Value} {m : Int} {ks : List Lit} {vs : List Value} (h : SetI k T B w sb v mv m ks vs) (o : Nat) : w.frozen? ⟨sb, o, none⟩ = false := by simp [World.frozen?, h.cells]

set_option maxHeartbeats 400000 in
theorem sets_place (B sb : Nat) (v mv : Value) (m : Int) (ks : List Lit) (vs : List Value) (s : ByteArray) (w : World) (hs : s.size ≤ maxLen) (h : SetI 9 80 B w sb v mv m ks vs) :
    Calls Tryd.prog 28 #[.pointer (some ⟨sb, 0, none⟩), .string s] w fun e w' => e = .returned (.tuple #[.int .i64 ((idxOf ks (.string s.data.toList)).getD 0), .bool (idxOf ks (.string s.data.toList)).isSome]) ∧ w.alloc (.cells #[.int .i64 ((idxOf ks (.string s.data.toList)).getD 0)] 85) = w' := by
  have hget := ixs_get ⟨sb, 2, none⟩ s w mv ks.length (idxOf ks) hs h.cell2 h.ix
  generalize (idxOf ks (.string s.data.toList)).getD 0 = c at *
  generalize (idxOf ks (.string s.data.toList)).isSome = b at *
  have Hget := Lib.hid hget
  clear hget
  go_enter Tryd.func28, Tryd.ntmps28
  go_wp2_with (go_at_call 41; refine Hget.out.mono ?_; rintro e w' ⟨rfl, rfl⟩)
  go_ret2
  exact ⟨rfl, rfl⟩

set_option maxHeartbeats 400000 in
theorem sets_has (B sb : Nat) (v mv : Value) (m : Int) (ks : List Lit) (vs : List Value) (s : ByteArray) (w : World) (hs : s.size ≤ maxLen) (h : SetI 9 80 B w sb v mv m ks vs) :
    Calls Tryd.prog 32 #[.pointer (some ⟨sb, 0, none⟩), .string s] w fun e w' => e = .returned (.bool (idxOf ks (.string s.data.toList)).isSome) ∧ w.alloc (.cells #[.int .i64 ((idxOf ks (.string s.data.toList)).getD 0)] 85) = w' := by
  have hget := sets_place B sb v mv m ks vs s w hs h
  generalize (idxOf ks (.string s.data.toList)).getD 0 = c at *
  generalize (idxOf ks (.string s.data.toList)).isSome = b at *
  have Hget := Lib.hid hget
  clear hget h
  go_enter Tryd.func32, Tryd.ntmps32
  go_wp2_with (go_at_call 28; refine Hget.out.mono ?_; rintro e w' ⟨rfl, rfl⟩)
  go_ret
  exact ⟨rfl, rfl⟩

set_option maxHeartbeats 400000 in
theorem sets_room (B sb : Nat) (v mv : Value) (m : Int) (ks : List Lit) (vs : List Value) (w : World) (h : SetI 9 80 B w sb v mv m ks vs) :
    Calls Tryd.prog 30 #[.pointer (some ⟨sb, 0, none⟩)] w fun e w' => e = .returned (.int .i64 (m - ks.length)) ∧ ∃ n, w.drewN n = w' := by
  obtain ⟨a, c, rfl⟩ := ownsRow_shape h.row
  have h0 := h.cell0
  have h1 := h.cell1
  have hr := h.room
  have hm := h.most
  rw [← h.len] at h1
  clear h
  go_enter Tryd.func30, Tryd.ntmps30
  go_wp2
  go_quiet (fail)
  go_wp2
  go_ret
  exact ⟨rfl, _, rfl⟩
end Go.Proofs.YtgkdemdpknljkaaDoor
