/- The judge of a map's items, at any item, by a contract. -/
import Derived.Test.YtgnpcbpbmalgiaaDoorSp
namespace Go.Proofs.YtgnpcbpbmalgiaaDoor
open Go.RowKit Go.Maps Go.WideMaps Go.WideElems Go.ChangeShapes Go.WideShapes

variable {T : TypeId} {er : Nat → Addr}

/-- Whether an item has the form, and is within the bounds; the key that it has. -/
def jF (f : Bool) (last : Int) (it : List UInt8) : Bool := (prn (Lib.cut it [58]).2.1).isSome && (Lib.cut it [58]).2.2 && (prn (Lib.cut it [58]).1).isSome && (f || decide (last < atoiV (Lib.cut it [58]).1))
def jK (it : List UInt8) : Int := atoiV (Lib.cut it [58]).1
def jW (it : List UInt8) : Bool := nearB (atoiV (Lib.cut it [58]).2.1) 1000000000 && decide (0 ≤ jK it) && decide (jK it ≤ 1000)

theorem six (s2 co s1 f gt : Bool) : s2 = false ∨ (s2 = true ∧ co = false) ∨ (s2 = true ∧ co = true ∧ s1 = false) ∨ (s2 = true ∧ co = true ∧ s1 = true ∧ f = true) ∨ (s2 = true ∧ co = true ∧ s1 = true ∧ f = false ∧ gt = true) ∨ (s2 = true ∧ co = true ∧ s1 = true ∧ f = false ∧ gt = false) := by
  cases s2 <;> cases co <;> cases s1 <;> cases f <;> cases gt <;> simp
theorem four (z a b : Bool) : z = false ∨ (z = true ∧ a = false) ∨ (z = true ∧ a = true ∧ b = false) ∨ (z = true ∧ a = true ∧ b = true) := by
  cases z <;> cases a <;> cases b <;> simp
theorem cut_lens (it : List UInt8) : (Lib.cut it [58]).1.length ≤ it.length ∧ (Lib.cut it [58]).2.1.length ≤ it.length := by
  unfold Lib.cut
  split
  · simp; omega
  · simp

set_option maxRecDepth 100000 in
set_option maxHeartbeats 8000000 in
theorem judge_all (it : List UInt8) (hl : it.length ≤ 1000000000) (f : Bool) (last : Int) (B : Nat) (w : World) (hJ : JudgeAt w B f last) (hG : Glob T er w) :
    Calls Tryd.prog 49 #[tv it, .pointer (some ⟨B, 0, none⟩), .pointer (some ⟨B + 1, 0, none⟩)] w fun e w' => e = .returned (.tuple #[.bool (jF f last it), .bool (jW it)]) ∧ Hid (∃ w2, Below w.heap.size w w2 ∧ w' = (w2.setCell ⟨B, 0, none⟩ (.bool false)).setCell ⟨B + 1, 0, none⟩ (.int .i64 (jK it))) := by
  obtain ⟨m, hm⟩ := hG.maxLen
  have hc := Tryd.strings_Cut ⟨it.toArray⟩ ⟨#[58]⟩ m w (by rw [tv_size]; omega) hm
  rw [tv_data, show (⟨#[58]⟩ : ByteArray).data.toList = [58] from rfl] at hc
  obtain ⟨hl1, hl2⟩ := cut_lens it
  obtain ⟨R, hR⟩ : ∃ R, R = jF f last it := ⟨_, rfl⟩
  obtain ⟨X, hX⟩ : ∃ X, X = jW it := ⟨_, rfl⟩
  rw [← hR, ← hX]
  unfold jW at hX
  unfold jF at hR
  unfold jK at hX ⊢
  generalize (Lib.cut it [58]).1 = x at *
  generalize (Lib.cut it [58]).2.1 = y at *
  generalize (Lib.cut it [58]).2.2 = co at *
  have Hc := Lib.hid hc
  have Hp := Lib.hid (fun W (h : Glob T er W) => printed_all x (by omega) W h)
  have Hv := Lib.hid (fun W (h : Glob T er W) => value_all y (by omega) W h)
  have HG := Lib.hid hG
  have HJ := Lib.hid hJ
  generalize atoiV x = kk at *
  generalize nearB (atoiV y) 1000000000 = z at *
  generalize (prn x).isSome = s1 at *
  generalize (prn y).isSome = s2 at *
  obtain ⟨gt, hgt⟩ : ∃ gt, decide (last < kk) = gt := ⟨_, rfl⟩
  obtain ⟨a0, ha0⟩ : ∃ a0, decide (0 ≤ kk) = a0 := ⟨_, rfl⟩
  obtain ⟨a1, ha1⟩ : ∃ a1, decide (kk ≤ 1000) = a1 := ⟨_, rfl⟩
  rw [hgt] at hR
  rw [ha0, ha1] at hX
  have HR := Lib.hid hR
  have HX := Lib.hid hX
  clear hm hc hG hJ hl hl1 hl2 hR hX
  have hg2 : decide (kk > last) = gt := hgt
  have ha2 : decide (kk ≥ 0) = a0 := ha0
  rcases six s2 co s1 f gt with rfl | ⟨rfl, rfl⟩ | ⟨rfl, rfl, rfl⟩ | ⟨rfl, rfl, rfl, rfl⟩ | ⟨rfl, rfl, rfl, rfl, rfl⟩ | ⟨rfl, rfl, rfl, rfl, rfl⟩ <;> rcases four z a0 a1 with rfl | ⟨rfl, rfl⟩ | ⟨rfl, rfl, rfl⟩ | ⟨rfl, rfl, rfl⟩
  all_goals
    go_enter Tryd.func49, Tryd.ntmps49
    go_wp2_with (first
      | (go_at_call 23; refine Hc.out.mono ?_; rintro e w' ⟨rfl, q, rfl⟩; have H1 : Hid (Below w.heap.size w (w.drewN q)) := below_drewN (Below.refl _ _) q; have HG1 := Lib.hid (HG.out.drewN q))
      | (go_at_call 46; refine (Hp.out _ HG1.out).mono ?_; rintro e w2 ⟨rfl, hb2⟩; have H2 := Lib.hid (H1.out.trans (hb2.out.mono H1.out.size)); have HG2 := Lib.hid (HG1.out.below' hb2.out); clear hb2)
      | (go_at_call 27; refine (Hv.out _ HG2.out).mono ?_; rintro e w3 ⟨rfl, hb3⟩; have H3 := Lib.hid (H2.out.trans (hb3.out.mono H2.out.size)); clear hb3; obtain ⟨j0, j1, j2, j3⟩ := HJ.out.below H3.out))
    go_ret2
    exact ⟨by rw [HR.out, HX.out]; simp, w3, H3.out, rfl⟩
end Go.Proofs.YtgnpcbpbmalgiaaDoor
