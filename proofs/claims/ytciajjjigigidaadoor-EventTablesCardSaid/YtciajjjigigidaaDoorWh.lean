/- Words, Silent, Join, by contracts. -/
import Derived.Test.YtciajjjigigidaaDoorWg
import Derived.Lib.TrimByte
import Derived.Lib.Join
namespace Go.Proofs.YtciajjjigigidaaDoor
open Go.RowKit Go.Maps Go.WideMaps Go.WideElems Go.ChangeShapes Go.WideShapes

theorem blank_at (w : World) : PredAt Tryd.prog 51 #[] encR blankP w := fun W r _ => by
  unfold FnGives
  have e : ((r : Int) == 32) = blankP r := by
    unfold blankP
    by_cases h : r = 32
    · subst h; rfl
    · rw [decide_eq_false h]; simp; omega
  have He := Lib.hid e
  clear e
  go_enter Tryd.func51, Tryd.ntmps51
  go_wp2
  go_ret
  exact ⟨congrArg (fun b => Ending.returned (.bool b)) He.out, 0, rfl⟩


theorem words_any (l : List UInt8) (hs : l.length ≤ 4294967296) (w : World) :
    Calls Tryd.prog 35 #[tv l] w fun e w' => ∃ A : Nat, e = .returned (.slice (some ⟨A, 0, none⟩) (wordsL l).length (wordsL l).length) ∧ Hid (w'.ownsRow w.heap.size 9 1 (.slice (some ⟨A, 0, none⟩) (wordsL l).length (wordsL l).length) (wordsL l).length (tc (wordsL l)) ∧ Below w.heap.size w w') := by
  have hsz : (⟨l.toArray⟩ : ByteArray).size = l.length := by simp [ByteArray.size]
  have hdl : (⟨l.toArray⟩ : ByteArray).data.toList = l := by simp
  have hf : Calls Tryd.prog 50 #[tv l, .func (.func 51) #[] #[]] w fun e w' => ∃ A : Nat, e = .returned (.slice (some ⟨A, 0, none⟩) (wordsL l).length (wordsL l).length) ∧ Hid (w'.ownsRow w.heap.size 9 1 (.slice (some ⟨A, 0, none⟩) (wordsL l).length (wordsL l).length) (wordsL l).length (tc (wordsL l)) ∧ Below w.heap.size w w') := by
    refine (Tryd.strings_FieldsFunc 51 #[] (enters_of Tryd.func51 (by kernel_rfl) rfl) blankP ⟨l.toArray⟩ w (by rw [hsz]; exact hs) (blank_at w)).mono ?_
    rintro e w' ⟨A, he, _, ho, hb⟩
    rw [fields_count, hdl] at he ho
    rw [fields_values, hdl] at ho
    exact ⟨A, he, ho, hb⟩
  have Hf := Lib.hid hf
  clear hf hsz hdl hs
  go_enter Tryd.func35, Tryd.ntmps35
  go_wp2_with (first | (go_at_call 50; refine Hf.out.mono ?_; rintro e w' ⟨A, rfl, hb⟩))
  go_ret
  exact ⟨A, rfl, hb⟩

theorem join_any (a : Option Addr) (c : Nat) (ls : List (List UInt8)) (w : World) (h : TAt w a ls) (hc : ls.length ≤ c) (hn : ls.length ≤ 140737488355328) (hl : (Lib.join ls [32]).length ≤ 140737488355328) :
    Calls Tryd.prog 34 #[.slice a ls.length c] w fun e w' => e = .returned (tv (Lib.join ls [32])) ∧ Hid (Below w.heap.size w w') := by
  have hj : Calls Tryd.prog 49 #[.slice a ls.length c, .string ⟨#[32]⟩] w fun e w' => e = .returned (tv (Lib.join ls [32])) ∧ Hid (Below w.heap.size w w') := by
    rcases h with rfl | ⟨b, off, rfl, hcell⟩
    · refine (Tryd.strings_Join_none a c ⟨#[32]⟩ w).mono ?_
      rintro e w' ⟨he, hw⟩
      exact ⟨by rw [he]; rfl, by rw [hw]; exact Below.refl _ _⟩
    · by_cases h0 : ls = []
      · subst h0
        refine (Tryd.strings_Join_none _ c ⟨#[32]⟩ w).mono ?_
        rintro e w' ⟨he, hw⟩
        exact ⟨by rw [he]; rfl, by rw [hw]; exact Below.refl _ _⟩
      · have hpos : 0 < ls.length := List.length_pos_iff.2 h0
        have em : (ls.map fun x => (⟨x.toArray⟩ : ByteArray)).map (fun x => x.data.toList) = ls := by
          rw [List.map_map]
          conv => rhs; rw [← List.map_id ls]
          apply List.map_congr_left
          intro x _
          simp
        have hx := Tryd.strings_Join b off c (ls.map fun x => ⟨x.toArray⟩) ⟨#[32]⟩ w (fun j x hj => by
          have hj' : j < ls.length := by
            have := (List.getElem?_eq_some_iff.1 hj).1
            simpa using this
          rw [hcell j hj']
          simp [hj'] at hj
          simp [hj', hj]) (World.block_lt_of_cell? w _ (hcell 0 hpos)) (by simpa using hn) (by simpa using hc) (by rw [em]; exact hl)
        rw [em] at hx
        simp only [List.length_map] at hx
        exact hx
  have Hj := Lib.hid hj
  clear hj h hc hn hl
  go_enter Tryd.func34, Tryd.ntmps34
  go_wp2_with (first | (go_at_call 49; refine Hj.out.mono ?_; rintro e w' ⟨rfl, hb⟩))
  go_ret
  exact ⟨rfl, hb⟩
end Go.Proofs.YtciajjjigigidaaDoor
