/- Print, Number, Words, Silent, Join, by contracts. -/
import Derived.Test.YtcjfcomadcebnaaGreatDoorWf
import Derived.Shelf.GgClosure.Gives
namespace Go.Proofs.YtcjfcomadcebnaaGreatDoor
open Go.RowKit Go.Maps Go.WideMaps Go.WideElems Go.ChangeShapes Go.WideShapes

variable {T : TypeId} {er : Nat → Addr}

theorem below_drewN {B : Nat} {a w : World} (h : Below B a w) (q : Nat) : Below B a (w.drewN q) := ⟨h.os, h.tape, h.output, h.size, h.block⟩

set_option maxRecDepth 100000 in
theorem print_any (n : Int) (h0 : -9223372036854775808 ≤ n) (h1 : n ≤ 9223372036854775807) (w : World) (hG : Glob T er w) :
    Calls Tryz.prog 40 #[.int .i64 n] w fun e w' => e = .returned (tv (Lib.itoa n)) ∧ Hid (Below w.heap.size w w') := by
  have hi : Calls Tryz.prog 62 #[.int .i64 n] w fun e w' => e = .returned (tv (Lib.itoa n)) ∧ Hid (Below w.heap.size w w') := (Tryz.strconv_Itoa n h0 h1 w hG.tab).mono fun e w' ⟨he, k, os, hw⟩ => ⟨he, by show Below _ _ _; rw [hw]; exact Lib.below_grow _ w (Nat.le_refl _) k os⟩
  have Hi := Lib.hid hi
  clear hi h0 h1 hG
  go_enter Tryz.func40, Tryz.ntmps40
  go_wp2_with (first | (go_at_call 62; refine Hi.out.mono ?_; rintro e w' ⟨rfl, hb⟩))
  go_ret
  exact ⟨rfl, hb⟩

theorem atoi_range {l : List UInt8} {v : Int} (h : Lib.atoiAll l = .ok v) : -9223372036854775808 ≤ v ∧ v ≤ 9223372036854775807 := by
  unfold Lib.atoiAll at h
  split at h
  · cases h
  · rename_i c r
    simp only at h
    split at h
    · cases h
    · cases h
    · rename_i u hu
      split at h
      · cases h
      · split at h
        · cases h
        · rename_i h1 h2
          injection h with h
          subst h
          split <;> rename_i h3
          · omega
          · omega

theorem atoi_ok {l : List UInt8} {v : Int} (hs : l.length ≤ 281474976710656) (ha : Lib.atoiAll l = .ok v) (w : World) : Calls Tryz.prog 123 #[tv l] w fun e w' => e = .returned (.tuple #[.int .i64 v, .nilIface]) ∧ Hid (Below w.heap.size w w') := by
  have hsz : (⟨l.toArray⟩ : ByteArray).size = l.length := by simp [ByteArray.size]
  have hdl : (⟨l.toArray⟩ : ByteArray).data.toList = l := by simp
  refine (Tryz.strconv_Atoi_ok ⟨l.toArray⟩ (by rw [hsz]; omega) v (by rw [hdl]; exact ha) w).mono ?_
  rintro e w' ⟨he, hw | ⟨t, hw⟩⟩
  · exact ⟨he, by rw [hw]; exact Below.refl _ _⟩
  · exact ⟨he, by rw [hw]; exact Lib.bytesWorld_below w 5 t⟩
theorem atoi_bad {l : List UInt8} (hs : l.length ≤ 281474976710656) (ha : ∀ v, Lib.atoiAll l ≠ .ok v) (w : World) (hG : Glob T er w) : Calls Tryz.prog 123 #[tv l] w fun e w' => ∃ (v : Int) (N : Nat), e = .returned (.tuple #[.int .i64 v, .iface 198 (.pointer (some ⟨N, 0, none⟩))]) ∧ Hid (Below w.heap.size w w') := by
  have hsz : (⟨l.toArray⟩ : ByteArray).size = l.length := by simp [ByteArray.size]
  have hdl : (⟨l.toArray⟩ : ByteArray).data.toList = l := by simp
  obtain ⟨t4, p4, h4⟩ := hG.eSyntax
  obtain ⟨t5, p5, h5⟩ := hG.eRange
  cases hc : Lib.atoiAll l with
  | ok v => exact absurd hc (ha v)
  | range =>
    refine (Tryz.strconv_Atoi_range ⟨l.toArray⟩ (by rw [hsz]; exact hs) (by rw [hdl]; exact hc) _ w h5 (.inr ⟨_, _, rfl⟩)).mono ?_
    rintro e w' ⟨N, he, _, _, hb⟩
    exact ⟨_, N, he, hb⟩
  | _ =>
    refine (Any.strconv_Atoi_syntax Tryz.laysC172 ⟨l.toArray⟩ (by rw [hsz]; exact hs) (by rw [hdl]; exact hc) _ w h4 (.inr ⟨_, _, rfl⟩)).mono ?_
    rintro e w' ⟨N, he, _, _, hb⟩
    exact ⟨_, N, he, hb⟩

end Go.Proofs.YtcjfcomadcebnaaGreatDoor
