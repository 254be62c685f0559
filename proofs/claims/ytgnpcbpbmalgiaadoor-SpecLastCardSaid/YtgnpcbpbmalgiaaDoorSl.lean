/- The iterator over the pieces of a text that has one. -/
import Derived.Test.YtgnpcbpbmalgiaaDoorSk
import Derived.RangeFuncNested
import Derived.RangeFuncBound
import Derived.RangeFuncCalls
import Derived.RangeFuncLeaves
import Derived.RangeFuncFrom
import Derived.RangeFuncBox
import Derived.Shelf.Abstract
import Derived.Shelf.RegionOpen
import Derived.OwnWalkIn
import Derived.TacticsInMore
import Derived.LoopNIn
import Derived.LoopIn
namespace Go.Proofs.YtgnpcbpbmalgiaaDoor
open Go.RowKit Go.Maps Go.WideMaps Go.WideElems Go.ChangeShapes Go.WideShapes
attribute [local go_sem] Oper.semAt_some

set_option maxRecDepth 100000 in
set_option maxHeartbeats 2000000 in
theorem split1 (n : Nat) (hn : 1 ≤ n) (l c : Nat) (it : List UInt8) (hit : (32 : UInt8) ∉ it) (J Jx : List Nat → World → Prop)
    (hY : ∀ W, J [] W → YieldAt Fence.wide (n - 1) Tryd.prog l #[tv it] W fun e W' => (e = .returned (.bool true) ∧ J [0] W') ∨ (e = .returned (.bool false) ∧ Jx [0] W'))
    (W : World) (hs : W.cell? ⟨c, 0, none⟩ = some (tv it)) (hp : W.cell? ⟨c + 1, 0, none⟩ = some (.string ⟨#[32]⟩)) (h0 : J [] W) :
    CallsIn Fence.wide n Tryd.prog 69 #[.func (.yield l) #[] #[], .pointer (some ⟨c + 1, 0, none⟩), .pointer (some ⟨c, 0, none⟩), .pointer (some ⟨c + 2, 0, none⟩)] W fun e W' => (∃ v, e = .returned v) ∧ (J [0] W' ∨ Jx [0] W') := by
  have hi := Tryd.strings_Index_one ⟨it.toArray⟩ 32 W
  rw [tv_data, ib_miss 32 it hit] at hi
  have Hi := Lib.hid hi
  clear hi hit
  refine callsIn_of_wp Tryd.func69 rfl trivial ?_ rfl
  simp only [Tryd.ntmps69, List.size_toArray, List.length_cons, List.length_nil, Nat.reduceAdd, Nat.reduceSub, Array.replicate_succ, Array.replicate_zero, List.push_toArray, List.append_toArray, List.nil_append, List.cons_append]
  gi_wp2
  gi_loopw [7] (fun _ wr => Hid (wr = W)) (fun _ _ => 0)
  case atStart => exact rfl
  case round =>
    have hw := hrel.out
    subst hw
    obtain ⟨fn, tmps, assign, body, hy, hR⟩ := hY _ h0
    gi_wp2_with (first | (refine ⟨trivial, ?_⟩; gi_at_call 34; refine (callsIn_wide.2 Hi.out).mono ?_; rintro e w2 ⟨rfl, rfl⟩))
    refine hR.mono ?_
    rintro e W3 (⟨rfl, hJ3⟩ | ⟨rfl, hJx3⟩)
    · gi_wp2
      go_end0
      exact ⟨⟨_, rfl⟩, .inl hJ3⟩
    · gi_wp2
      go_end0
      exact ⟨⟨_, rfl⟩, .inr hJx3⟩
end Go.Proofs.YtgnpcbpbmalgiaaDoor
