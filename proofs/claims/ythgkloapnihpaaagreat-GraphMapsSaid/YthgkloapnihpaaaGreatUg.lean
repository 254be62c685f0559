/- GraphMaps: of any edges and nodes. -/
import Derived.Test.YthgkloapnihpaaaGreatUf
namespace Go.Proofs.YthgkloapnihpaaaGreat
open Go.RowKit Go.Maps Go.WideMaps Go.WideElems Go.ChangeShapes Go.WideShapes

set_option maxHeartbeats 4000000 in
set_option maxRecDepth 100000 in
theorem maps_any (ea : Option Addr) (ce : Nat) (es : List Ed) (na : Option Addr) (cn : Nat) (ns : List Int) (A : Int) (hef : ∀ e ∈ es, fit64 e.1 ∧ fit64 e.2.1 ∧ fit64 e.2.2) (hnf : ∀ x ∈ ns, fit64 x) (w : World) (hE : SlE w ea es) (hN : SlI w na ns) :
    Calls Tryz.prog 3 #[.slice ea es.length ce, .slice na ns.length cn, iv A] w fun e w' => e = .returned (.bool true) ∧ Hid (Below w.heap.size w w') := by
  by_cases h1 : es.length ≤ 40
  · by_cases h2 : ns.length ≤ 40
    · exact maps_few ea ce es na cn ns A h1 h2 hef hnf w hE hN
    · obtain ⟨W0, hW0, Hb0, hs0, Hx0⟩ := obj_any w (.cells #[iv A] 3)
      have HF := Lib.hid (first_any W0)
      obtain ⟨ne, hne⟩ : ∃ ne, es.length = ne := ⟨_, rfl⟩
      obtain ⟨nn, hnn⟩ : ∃ nn, ns.length = nn := ⟨_, rfl⟩
      rw [hne] at h1 ⊢
      rw [hnn] at h2 ⊢
      have hg1 : ¬ (40 : Int) < (ne : Int) := by omega
      have hg2 : (40 : Int) < (nn : Int) := by omega
      clear hef hnf hE hN hne hnn
      go_enter Tryz.func3, Tryz.ntmps3
      go_wp2_with (first
        | (go_at_call 4; (with_reducible refine HF.out.mono ?_); rintro e w1 ⟨rfl, K1⟩)
        | go_in)
      go_ret
      exact ⟨rfl, Hb0.out.trans (K1.out.mono Hb0.out.size)⟩
  · obtain ⟨W0, hW0, Hb0, hs0, Hx0⟩ := obj_any w (.cells #[iv A] 3)
    have HF := Lib.hid (first_any W0)
    obtain ⟨ne, hne⟩ : ∃ ne, es.length = ne := ⟨_, rfl⟩
    obtain ⟨nn, hnn⟩ : ∃ nn, ns.length = nn := ⟨_, rfl⟩
    rw [hne] at h1 ⊢
    rw [hnn]
    have hg1 : (40 : Int) < (ne : Int) := by omega
    clear hef hnf hE hN hne hnn
    go_enter Tryz.func3, Tryz.ntmps3
    go_wp2_with (first
      | (go_at_call 4; (with_reducible refine HF.out.mono ?_); rintro e w1 ⟨rfl, K1⟩)
      | go_in)
    go_ret
    exact ⟨rfl, Hb0.out.trans (K1.out.mono Hb0.out.size)⟩
end Go.Proofs.YthgkloapnihpaaaGreat
