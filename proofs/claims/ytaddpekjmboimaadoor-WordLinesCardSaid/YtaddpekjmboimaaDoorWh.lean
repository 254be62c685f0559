/- Words, Silent, Join, by contracts. -/
import Derived.Test.YtaddpekjmboimaaDoorWg
import Derived.Lib.TrimByte
import Derived.Lib.Join
namespace Go.Proofs.YtaddpekjmboimaaDoor
open Go.RowKit Go.Maps Go.WideMaps Go.WideElems Go.ChangeShapes Go.WideShapes

theorem blank_at (w : World) : PredAt Tryd.prog 29 #[] encR blankP w := fun W r _ => by
  unfold FnGives
  have e : ((r : Int) == 32) = blankP r := by
    unfold blankP
    by_cases h : r = 32
    · subst h; rfl
    · rw [decide_eq_false h]; simp; omega
  have He := Lib.hid e
  clear e
  go_enter Tryd.func29, Tryd.ntmps29
  go_wp2
  go_ret
  exact ⟨congrArg (fun b => Ending.returned (.bool b)) He.out, 0, rfl⟩

theorem words_any (l : List UInt8) (hs : l.length ≤ 4294967296) (w : World) :
    Calls Tryd.prog 12 #[tv l] w fun e w' => ∃ A : Nat, e = .returned (.slice (some ⟨A, 0, none⟩) (wordsL l).length (wordsL l).length) ∧ Hid (w'.ownsRow w.heap.size 9 1 (.slice (some ⟨A, 0, none⟩) (wordsL l).length (wordsL l).length) (wordsL l).length (tc (wordsL l)) ∧ Below w.heap.size w w') := by
  have hsz : (⟨l.toArray⟩ : ByteArray).size = l.length := by simp [ByteArray.size]
  have hdl : (⟨l.toArray⟩ : ByteArray).data.toList = l := by simp
  have hf : Calls Tryd.prog 28 #[tv l, .func (.func 29) #[] #[]] w fun e w' => ∃ A : Nat, e = .returned (.slice (some ⟨A, 0, none⟩) (wordsL l).length (wordsL l).length) ∧ Hid (w'.ownsRow w.heap.size 9 1 (.slice (some ⟨A, 0, none⟩) (wordsL l).length (wordsL l).length) (wordsL l).length (tc (wordsL l)) ∧ Below w.heap.size w w') := by
    refine (Tryd.strings_FieldsFunc 29 #[] (enters_of Tryd.func29 (by kernel_rfl) rfl) blankP ⟨l.toArray⟩ w (by rw [hsz]; exact hs) (blank_at w)).mono ?_
    rintro e w' ⟨A, he, _, ho, hb⟩
    rw [fields_count, hdl] at he ho
    rw [fields_values, hdl] at ho
    exact ⟨A, he, ho, hb⟩
  have Hf := Lib.hid hf
  clear hf hsz hdl hs
  go_enter Tryd.func12, Tryd.ntmps12
  go_wp2_with (first | (go_at_call 28; refine Hf.out.mono ?_; rintro e w' ⟨A, rfl, hb⟩))
  go_ret
  exact ⟨A, rfl, hb⟩

/-- Nothing but blanks, or a # first. -/
def silentL (l : List UInt8) : Bool := match l.dropWhile (· == 32) with
  | [] => true
  | c :: _ => c == 35

theorem silent_any (l : List UInt8) (_hs : l.length ≤ 9223372036854775807) (w : World) : Calls Tryd.prog 16 #[tv l] w fun e w' => e = .returned (.bool (silentL l)) ∧ w = w' := by
  have hdl : (⟨l.toArray⟩ : ByteArray).data.toList = l := by simp
  have ht : Calls Tryd.prog 31 #[tv l, .string ⟨#[32]⟩] w fun e w' => e = .returned (tv (l.dropWhile (· == 32))) ∧ w = w' := by
    refine (Tryd.strings_TrimLeft_one ⟨l.toArray⟩ 32 (by decide) w).mono ?_
    rintro e w' ⟨he, hw⟩
    rw [hdl] at he
    exact ⟨he, hw.symm⟩
  obtain ⟨S, hS⟩ : ∃ S, S = silentL l := ⟨_, rfl⟩
  rw [← hS]
  unfold silentL at hS
  have hle : (l.dropWhile (· == 32)).length ≤ l.length := (List.dropWhile_sublist _).length_le
  generalize l.dropWhile (· == 32) = r at *
  have Ht := Lib.hid ht
  have HS := Lib.hid hS
  clear hS ht hdl
  cases r with
  | nil =>
    have HS' : Hid (S = true) := HS.out
    go_enter Tryd.func16, Tryd.ntmps16
    go_wp2_with (first | (go_at_call 31; refine Ht.out.mono ?_; rintro e w' ⟨rfl, rfl⟩))
    go_ret
    exact ⟨by rw [HS'.out]; rfl, rfl⟩
  | cons c t =>
    have HS' : Hid (S = (c == 35)) := HS.out
    go_enter Tryd.func16, Tryd.ntmps16
    go_wp2_with (first | (go_at_call 31; refine Ht.out.mono ?_; rintro e w' ⟨rfl, rfl⟩))
    go_ret
    have e : ((c.toNat : Int) == 35) = (c == 35) := by
      by_cases h : c = 35
      · subst h; rfl
      · have h1 : (c == 35) = false := by simpa using h
        have h2 : c.toNat ≠ 35 := fun h2 => h (UInt8.toNat_inj.1 h2)
        rw [h1]; simp; omega
    exact ⟨congrArg (fun b => Ending.returned (.bool b)) (show ((c.toNat : Int) == 35) = S by rw [HS'.out, e]), rfl⟩

theorem join_any (a : Option Addr) (c : Nat) (ls : List (List UInt8)) (w : World) (h : TAt w a ls) (hc : ls.length ≤ c) (hn : ls.length ≤ 140737488355328) (hl : (Lib.join ls [32]).length ≤ 140737488355328) :
    Calls Tryd.prog 14 #[.slice a ls.length c] w fun e w' => e = .returned (tv (Lib.join ls [32])) ∧ Hid (Below w.heap.size w w') := by
  have hj : Calls Tryd.prog 30 #[.slice a ls.length c, .string ⟨#[32]⟩] w fun e w' => e = .returned (tv (Lib.join ls [32])) ∧ Hid (Below w.heap.size w w') := by
    rcases h with rfl | ⟨b, off, rfl, hcell⟩
    · refine (Tryd.strings_Join_none a c ⟨#[32]⟩ w).mono ?_
      rintro e w' ⟨he, hw⟩
      exact ⟨by rw [he]; rfl, by rw [hw]; exact Below.refl _ _⟩
    · by_cases h0 : ls = []
      · subst h0
        refine (Tryd.strings_Join_none _ c ⟨#[32]⟩ w).mono ?_
        rintro e w' ⟨he, hw⟩
        exact ⟨by rw [he]; rfl, by rw [hw]; exact Below.refl _ _⟩
      · have hpos : 0 < ls.length := List.length_pos_iff.2 h0
        have em : (ls.map fun x => (⟨x.toArray⟩ : ByteArray)).map (fun x => x.data.toList) = ls := by
          rw [List.map_map]
          conv => rhs; rw [← List.map_id ls]
          apply List.map_congr_left
          intro x _
          simp
        have hx := Tryd.strings_Join b off c (ls.map fun x => ⟨x.toArray⟩) ⟨#[32]⟩ w (fun j x hj => by
          have hj' : j < ls.length := by
            have := (List.getElem?_eq_some_iff.1 hj).1
            simpa using this
          rw [hcell j hj']
          simp [hj'] at hj
          simp [hj', hj]) (World.block_lt_of_cell? w _ (hcell 0 hpos)) (by simpa using hn) (by simpa using hc) (by rw [em]; exact hl)
        rw [em] at hx
        simp only [List.length_map] at hx
        exact hx
  have Hj := Lib.hid hj
  clear hj h hc hn hl
  go_enter Tryd.func14, Tryd.ntmps14
  go_wp2_with (first | (go_at_call 30; refine Hj.out.mono ?_; rintro e w' ⟨rfl, hb⟩))
  go_ret
  exact ⟨rfl, hb⟩
end Go.Proofs.YtaddpekjmboimaaDoor
