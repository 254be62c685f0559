/- The document's graph that is wanted, while it is made in its box; what is written beside. -/
import Derived.Test.YthgkloapnihpaaaGreatM9
import Derived.Test.YthgkloapnihpaaaGreatUc
import Derived.Test.YthgkloapnihpaaaGreatUe
namespace Go.Proofs.YthgkloapnihpaaaGreat
open Go.RowKit Go.Maps Go.WideMaps Go.WideElems Go.ChangeShapes Go.WideShapes

/-- The document's graph so far, in its box; what stood in V stands, but for the box. -/
structure WantSt (V : World) (b : Nat) (M : List Int) (D : List Ed) (a : Option Addr) (k : Nat) (a' : Option Addr) (k' : Nat) (W : World) : Prop where
  dg : DgAt W a a' M D
  box : W.heap[b]? = some (.cells #[.slice a M.length k, .slice a' D.length k'] 28)
  apN : ∀ q o, a = some ⟨q, o, none⟩ → q ≠ b
  apE : ∀ q o, a' = some ⟨q, o, none⟩ → q ≠ b
  off : Off (fun q => q = b) V W
section
variable {V W : World} {b : Nat} {M : List Int} {D : List Ed} {a : Option Addr} {k : Nat} {a' : Option Addr} {k' : Nat}
theorem WantSt.bw (h : WantSt V b M D a k a' k' W) : b < W.heap.size := (Array.getElem?_eq_some_iff.1 h.box).1
theorem WantSt.below {W' : World} (h : WantSt V b M D a k a' k' W) (hb : Below W.heap.size W W') : WantSt V b M D a k a' k' W' :=
  ⟨h.dg.below hb, (hb.block b h.bw).trans h.box, h.apN, h.apE, K.off_trans h.off (K.off_mono (Z := fun _ => False) (Off.below hb) (fun _ e => e.elim))⟩
theorem WantSt.put {W' : World} {M2 : List Int} {D2 : List Ed} {a2 a3 : Option Addr} {k2 k3 : Nat} (h : WantSt V b M D a k a' k' W) (hb : Below W.heap.size W W') (hd : DgAt W' a2 a3 M2 D2) (h2 : NewAt W.heap.size a a2) (h3 : NewAt W.heap.size a' a3) :
    WantSt V b M2 D2 a2 k2 a3 k3 ((W'.setCell ⟨b, 0, none⟩ (.slice a2 M2.length k2)).setCell ⟨b, 1, none⟩ (.slice a3 D2.length k3)) := by
  have hbw := h.bw
  have hX := (hb.block b hbw).trans h.box
  have hN : ∀ q o, a2 = some ⟨q, o, none⟩ → q ≠ b := fun q o e => by
    rcases h2 with h2 | h2
    · rw [h2] at e
      exact h.apN q o e
    · have := h2 q o e
      omega
  have hE : ∀ q o, a3 = some ⟨q, o, none⟩ → q ≠ b := fun q o e => by
    rcases h3 with h3 | h3
    · rw [h3] at e
      exact h.apE q o e
    · have := h3 q o e
      omega
  have hsz : ((W'.setCell ⟨b, 0, none⟩ (.slice a2 M2.length k2)).setCell ⟨b, 1, none⟩ (.slice a3 D2.length k3)).heap.size = W'.heap.size := by rw [setCell_size, setCell_size]
  have hbl : ∀ q, q ≠ b → ((W'.setCell ⟨b, 0, none⟩ (.slice a2 M2.length k2)).setCell ⟨b, 1, none⟩ (.slice a3 D2.length k3)).heap[q]? = W'.heap[q]? := fun q hq => (setCell_far hq).trans (setCell_far hq)
  have hof : Off (fun q => q = b) W ((W'.setCell ⟨b, 0, none⟩ (.slice a2 M2.length k2)).setCell ⟨b, 1, none⟩ (.slice a3 D2.length k3)) :=
    ⟨hb.os, hb.tape, hb.output, by rw [hsz]; exact hb.size, fun q hq hne => (hbl q hne).trans (hb.block q hq)⟩
  exact ⟨(hd.set (fun q o e => hN q o e) (fun q o e => hE q o e)).set (fun q o e => hN q o e) (fun q o e => hE q o e), set_second _ (set_first _ hX), hN, hE, K.off_trans h.off hof⟩
end
/-- At the start: an empty graph in a new box. -/
theorem wantSt_start (w W : World) (hb : Below w.heap.size w W) (hx : W.heap[w.heap.size]? = some (.cells #[.slice none 0 0, .slice none 0 0] 28)) : WantSt w w.heap.size [] [] none 0 none 0 W :=
  ⟨⟨.inl rfl, .inl rfl, fun _ => rfl, fun _ => rfl⟩, hx, fun _ _ e => (nomatch e), fun _ _ e => (nomatch e), K.off_mono (Z := fun _ => False) (Off.below hb) (fun _ e => e.elim)⟩
theorem dgAt_off {W W' : World} {a a' : Option Addr} {N : List Int} {E : List Ed} {Z : Nat → Prop} (h : DgAt W a a' N E) (g : Off Z W W') (ha : ∀ q o, a = some ⟨q, o, none⟩ → ¬ Z q) (he : ∀ q o, a' = some ⟨q, o, none⟩ → ¬ Z q) : DgAt W' a a' N E := h.off g ha he
theorem mapE_rise {φ : Int → Int} : ∀ (E : List Ed), RiseE (mapE φ E) := by
  have h : ∀ (E M : List Ed), RiseE M → RiseE (E.foldl (fun M x => putE M (φ x.1, φ x.2.1, x.2.2)) M) := by
    intro E
    induction E with
    | nil => intro M h; exact h
    | cons x E ih => intro M h; exact ih _ (rise_putE h _)
  exact fun E => h E [] List.Pairwise.nil
theorem mapE_ends {φ : Int → Int} {N : List Int} {E : List Ed} (h : EndsIn N E) : ∀ e ∈ E, φ e.1 ∈ mapN φ N ∧ φ e.2.1 ∈ mapN φ N := fun e he =>
  ⟨mem_mapN.2 ⟨e.1, (h e.1 e.2.1 ⟨e.2.2, he⟩).1, rfl⟩, mem_mapN.2 ⟨e.2.1, (h e.1 e.2.1 ⟨e.2.2, he⟩).2, rfl⟩⟩
end Go.Proofs.YthgkloapnihpaaaGreat
