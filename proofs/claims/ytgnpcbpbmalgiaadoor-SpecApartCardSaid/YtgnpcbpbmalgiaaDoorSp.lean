/- printed, value, the judge of a map's items, alone, at any text, by contracts. -/
import Derived.Test.YtgnpcbpbmalgiaaDoorSo
namespace Go.Proofs.YtgnpcbpbmalgiaaDoor
open Go.RowKit Go.Maps Go.WideMaps Go.WideElems Go.ChangeShapes Go.WideShapes

variable {T : TypeId} {er : Nat → Addr}

/-- The number that Atoi tells, an error or not. -/
def atoiV (l : List UInt8) : Int := match Lib.atoiAll l with
  | .ok v => v
  | .range => Lib.atoiSat l
  | _ => 0
theorem prn_atoiV {l : List UInt8} {x : Int} (h : prn l = some x) : atoiV l = x := by
  unfold prn at h
  split at h
  · rename_i v hv
    split at h
    · unfold atoiV; rw [hv]; exact Option.some.inj h
    · cases h
  · cases h
theorem atoi_badV {l : List UInt8} (hs : l.length ≤ 281474976710656) (ha : ∀ v, Lib.atoiAll l ≠ .ok v) (w : World) (hG : Glob T er w) : Calls Tryd.prog 57 #[tv l] w fun e w' => ∃ (N : Nat), e = .returned (.tuple #[.int .i64 (atoiV l), .iface 109 (.pointer (some ⟨N, 0, none⟩))]) ∧ Hid (Below w.heap.size w w') := by
  have hsz : (⟨l.toArray⟩ : ByteArray).size = l.length := by simp [ByteArray.size]
  have hdl : (⟨l.toArray⟩ : ByteArray).data.toList = l := by simp
  obtain ⟨t4, p4, h4⟩ := hG.eSyntax
  obtain ⟨t5, p5, h5⟩ := hG.eRange
  unfold atoiV
  cases hc : Lib.atoiAll l with
  | ok v => exact absurd hc (ha v)
  | range =>
    refine (Tryd.strconv_Atoi_range ⟨l.toArray⟩ (by rw [hsz]; exact hs) (by rw [hdl]; exact hc) _ w h5 (.inr ⟨_, _, rfl⟩)).mono ?_
    rintro e w' ⟨N, he, _, _, hb⟩
    rw [hdl] at he
    exact ⟨N, he, hb⟩
  | _ =>
    refine (Any.strconv_Atoi_syntax Tryd.laysC172 ⟨l.toArray⟩ (by rw [hsz]; exact hs) (by rw [hdl]; exact hc) _ w h4 (.inr ⟨_, _, rfl⟩)).mono ?_
    rintro e w' ⟨N, he, _, _, hb⟩
    exact ⟨N, he, hb⟩

/-- printed, at any text. -/
theorem printed_all (l : List UInt8) (hl : l.length ≤ 1000000000) (w : World) (hG : Glob T er w) : Calls Tryd.prog 46 #[tv l] w fun e w' => e = .returned (.tuple #[.int .i64 (atoiV l), .bool (prn l).isSome]) ∧ Hid (Below w.heap.size w w') := by
  by_cases ha : ∃ v, Lib.atoiAll l = .ok v
  · obtain ⟨v, ha⟩ := ha
    have hv : atoiV l = v := by unfold atoiV; rw [ha]
    refine (printed_at l v (by omega) ha w hG).mono ?_
    rintro e w' ⟨rfl, hb⟩
    have hp : prn l = if Lib.itoa v = l then some v else none := by unfold prn; rw [ha]
    refine ⟨?_, hb⟩
    rw [hp, hv]
    by_cases h : Lib.itoa v = l
    · rw [if_pos h, decide_eq_true h]; rfl
    · rw [if_neg h, decide_eq_false h]; rfl
  · have hn : ∀ v, Lib.atoiAll l ≠ .ok v := fun v h => ha ⟨v, h⟩
    have hp : prn l = none := by
      unfold prn
      split
      · rename_i v h; exact absurd h (hn v)
      · rfl
    rw [show (prn l).isSome = false by rw [hp]; rfl]
    have Ha := Lib.hid (atoi_badV (by omega) hn w hG)
    generalize atoiV l = v at *
    clear ha hn hp hl
    go_enter Tryd.func46, Tryd.ntmps46
    go_wp2_with (first
      | (go_at_call 57; refine Ha.out.mono ?_; rintro e w2 ⟨N, rfl, hb2⟩))
    go_ret2
    exact ⟨rfl, hb2⟩

/-- value, at any text. -/
theorem value_all (l : List UInt8) (hl : l.length ≤ 1000000000) (w : World) (hG : Glob T er w) : Calls Tryd.prog 27 #[tv l] w fun e w' => e = .returned (.tuple #[.bool (prn l).isSome, .bool (nearB (atoiV l) 1000000000)]) ∧ Hid (Below w.heap.size w w') := by
  have Hp := Lib.hid (printed_all l hl w hG)
  have Ho := Lib.hid (fun W => outside_any (atoiV l) 1000000000 (by decide) (by decide) W)
  generalize (prn l).isSome = s at *
  generalize nearB (atoiV l) 1000000000 = z at *
  generalize atoiV l = v at *
  clear hl hG
  go_enter Tryd.func27, Tryd.ntmps27
  go_wp2_with (first
    | (go_at_call 46; refine Hp.out.mono ?_; rintro e w2 ⟨rfl, hb2⟩)
    | (go_at_call 22; refine (Ho.out _).mono ?_; rintro e w' ⟨rfl, rfl⟩))
  go_ret2
  exact ⟨by simp, hb2.out⟩

/-- What alone tells. -/
def aloneV (T : TypeId) (er : Nat → Addr) (r : Option Int) (b : Int) : Value := match r with
  | none => .tuple #[.int .i64 0, errE T er 1]
  | some n => if nearB n b = true then .tuple #[.int .i64 n, .nilIface] else .tuple #[.int .i64 0, errE T er 4]
theorem alone_all (s : List UInt8) (hs : s = [] ∨ ∃ r, s = 32 :: r) (hl : s.length ≤ 1000000000) (b : Int) (h0 : 0 ≤ b) (h1 : b ≤ 1000000000000000000) (w : World) (hG : Glob T er w) :
    Calls Tryd.prog 25 #[tv s, .int .i64 b] w fun e w' => e = .returned (aloneV T er (prn (s.drop 1)) b) ∧ Hid (Below w.heap.size w w') := by
  have ht := Tryd.strings_TrimPrefix ⟨s.toArray⟩ ⟨#[32]⟩ w
  have hx : Lib.trimPrefix s [32] = s.drop 1 := by
    rcases hs with rfl | ⟨r, rfl⟩
    · rfl
    · unfold Lib.trimPrefix
      rw [if_pos (by simp [Lib.hasPrefix])]; rfl
  rw [tv_data, show (⟨#[32]⟩ : ByteArray).data.toList = [32] from rfl, hx] at ht
  have Ht := Lib.hid ht
  have Hp := Lib.hid (printed_all (T := T) (er := er) (s.drop 1) (by simp; omega) w hG)
  have Ho := Lib.hid (fun v W => outside_any v b h0 h1 W)
  have HG := Lib.hid hG
  generalize s.drop 1 = r at *
  obtain ⟨R, hR⟩ : ∃ R, R = aloneV T er (prn r) b := ⟨_, rfl⟩
  rw [← hR]
  unfold aloneV at hR
  have HR := Lib.hid hR
  clear ht hx hG hl hs hR
  cases hp : prn r with
  | none =>
    rw [hp] at HR Hp
    generalize atoiV r = v at *
    have HR' : Hid (R = .tuple #[.int .i64 0, errE T er 1]) := HR
    clear HR hp
    go_enter Tryd.func25, Tryd.ntmps25
    go_wp2_with (first
      | (go_at_call 47; refine Ht.out.mono ?_; rintro e w2 ⟨rfl, rfl⟩)
      | (go_at_call 46; refine Hp.out.mono ?_; rintro e w2 ⟨rfl, hb2⟩; have HG2 := Lib.hid (HG.out.below' hb2.out); have e1 := HG2.out.eWord))
    go_quiet (fail)
    go_wp2
    go_ret2
    exact ⟨by rw [HR'.out]; rfl, below_drewN hb2.out _⟩
  | some n =>
    have hv := prn_atoiV hp
    rw [hp] at HR Hp
    rw [hv] at Hp
    clear hp hv
    cases hn : nearB n b with
    | false =>
      have HR' : Hid (R = .tuple #[.int .i64 0, errE T er 4]) := by show _ = _; rw [HR.out]; simp [hn]
      have Hn := Lib.hid hn
      clear HR hn
      go_enter Tryd.func25, Tryd.ntmps25
      go_wp2_with (first
        | (go_at_call 47; refine Ht.out.mono ?_; rintro e w2 ⟨rfl, rfl⟩)
        | (go_at_call 46; refine Hp.out.mono ?_; rintro e w2 ⟨rfl, hb2⟩; have HG2 := Lib.hid (HG.out.below' hb2.out); have e1 := HG2.out.eNumber)
        | (go_at_call 22; refine (Ho.out _ _).mono ?_; rintro e w' ⟨rfl, rfl⟩; rw [Hn.out]))
      go_quiet (fail)
      go_wp2
      go_ret2
      exact ⟨by rw [HR'.out]; rfl, below_drewN hb2.out _⟩
    | true =>
      have HR' : Hid (R = .tuple #[.int .i64 n, .nilIface]) := by show _ = _; rw [HR.out]; simp [hn]
      have Hn := Lib.hid hn
      clear HR hn
      go_enter Tryd.func25, Tryd.ntmps25
      go_wp2_with (first
        | (go_at_call 47; refine Ht.out.mono ?_; rintro e w2 ⟨rfl, rfl⟩)
        | (go_at_call 46; refine Hp.out.mono ?_; rintro e w2 ⟨rfl, hb2⟩)
        | (go_at_call 22; refine (Ho.out _ _).mono ?_; rintro e w' ⟨rfl, rfl⟩; rw [Hn.out]))
      go_ret2
      exact ⟨by rw [HR'.out]; rfl, hb2.out⟩
end Go.Proofs.YtgnpcbpbmalgiaaDoor
