/-
  No cell of these rows narrows 'for every input' (looked for: loops, veiled, ifaces, maps, wideKeys, modest, calm, conditions, laid).
  DERIVED. THE GIVEN ROWS OF THIS SEAT. 6 by the template 'for every input the law returns true; each argument reads behind the call as it read before'; 0 by the template 'total and deterministic' (their statements: YtadlgkakjaecdaaTotals.lean).
  GIVEN WITH THE SEED: the statements are not yours to turn. If you find one false, say at which input.
  Laid BY PROGRAM, IN A SANDBOX (cutbox-rows.mjs): the forced cells as the released guide's own fill.sh prints them over the translation d8ac96a940c9de7b… (all of the seat's roots in one cut). By AI agents, Wed Nov 11 2026. No macro, syntax, notation, axiom, sorry.
-/
import Derived.Test.YtadlgkakjaecdaaChecked
import GoSem.Claim
import GoSem.ClaimJoined
import GoSem.ClaimMapViews
import Derived.JoinedTies
import Derived.KernelRfl
namespace Go.Proofs.Ytadlgkakjaecdaa
/- THE CELL 'sum', in the pinned program and in every row, IS THE sha256 OF THE DUMP (.gsa) THAT YtadlgkakjaecdaaProg.lean LOADS. Nothing in Lean hashes anything: it is a label: what it is worth is what the hold of that sum in a sandbox is worth. -/
noncomputable def Try.pinned : Pinned := { name := "ytadlgkakjaecdaa", sum := "d8ac96a940c9de7b94e021dddca3f27b4e9884b72e740d0940f148ad886937a5", checked := Try.checked }
namespace Rows
def none {H : Type} : Left H := { results := [], args := [] }

/-- 'umpirelaw9.RelPlays': WHATEVER THE INPUT: true; the input reads as it did. -/
def relPlaysSpec : ChangeSpec := { name := "relPlays", fn := fun _ => fun
  | [d1, d2, d3] => { results := [.lit (.bool true)], args := [d1, d2, d3] }
  | _ => none }
def relPlaysRow : OpenClaim := { program := "ytadlgkakjaecdaa", sum := "d8ac96a940c9de7b94e021dddca3f27b4e9884b72e740d0940f148ad886937a5", func := "umpire/umpirelaw9.RelPlays", spec := "relPlays", unfollowed := true, recurses := true, plainKeys := false, apart := false }
def RelPlaysSaid : Prop := relPlaysRow.holds Try.pinned (OpenSpec.ofChange relPlaysSpec)

/-- ITS FALSE NEIGHBOUR: 'it returns false'. Refute it at one input. -/
def relPlaysWrong : ChangeSpec := { name := "relPlays", fn := fun _ => fun
  | [d1, d2, d3] => { results := [.lit (.bool false)], args := [d1, d2, d3] }
  | _ => none }
def RelPlaysWrongFalsely : Prop := relPlaysRow.holds Try.pinned (OpenSpec.ofChange relPlaysWrong)

/-- 'umpirelaw9.RelCloses': WHATEVER THE INPUT: true; the input reads as it did. -/
def relClosesSpec : ChangeSpec := { name := "relCloses", fn := fun _ => fun
  | [d1, d2] => { results := [.lit (.bool true)], args := [d1, d2] }
  | _ => none }
def relClosesRow : OpenClaim := { program := "ytadlgkakjaecdaa", sum := "d8ac96a940c9de7b94e021dddca3f27b4e9884b72e740d0940f148ad886937a5", func := "umpire/umpirelaw9.RelCloses", spec := "relCloses", unfollowed := true, recurses := true, plainKeys := false, apart := false }
def RelClosesSaid : Prop := relClosesRow.holds Try.pinned (OpenSpec.ofChange relClosesSpec)

/-- ITS FALSE NEIGHBOUR: 'it returns false'. Refute it at one input. -/
def relClosesWrong : ChangeSpec := { name := "relCloses", fn := fun _ => fun
  | [d1, d2] => { results := [.lit (.bool false)], args := [d1, d2] }
  | _ => none }
def RelClosesWrongFalsely : Prop := relClosesRow.holds Try.pinned (OpenSpec.ofChange relClosesWrong)

/-- 'umpirelaw9.RelTexts': WHATEVER THE INPUT: true; the input reads as it did. -/
def relTextsSpec : ChangeSpec := { name := "relTexts", fn := fun _ => fun
  | [d] => { results := [.lit (.bool true)], args := [d] }
  | _ => none }
def relTextsRow : OpenClaim := { program := "ytadlgkakjaecdaa", sum := "d8ac96a940c9de7b94e021dddca3f27b4e9884b72e740d0940f148ad886937a5", func := "umpire/umpirelaw9.RelTexts", spec := "relTexts", unfollowed := true, recurses := true, plainKeys := false, apart := false }
def RelTextsSaid : Prop := relTextsRow.holds Try.pinned (OpenSpec.ofChange relTextsSpec)

/-- ITS FALSE NEIGHBOUR: 'it returns false'. Refute it at one input. -/
def relTextsWrong : ChangeSpec := { name := "relTexts", fn := fun _ => fun
  | [d] => { results := [.lit (.bool false)], args := [d] }
  | _ => none }
def RelTextsWrongFalsely : Prop := relTextsRow.holds Try.pinned (OpenSpec.ofChange relTextsWrong)

/-- 'umpirelaw9.RelOnce': WHATEVER THE INPUT: true; the input reads as it did. -/
def relOnceSpec : ChangeSpec := { name := "relOnce", fn := fun _ => fun
  | [d] => { results := [.lit (.bool true)], args := [d] }
  | _ => none }
def relOnceRow : OpenClaim := { program := "ytadlgkakjaecdaa", sum := "d8ac96a940c9de7b94e021dddca3f27b4e9884b72e740d0940f148ad886937a5", func := "umpire/umpirelaw9.RelOnce", spec := "relOnce", unfollowed := true, recurses := true, plainKeys := false, apart := false }
def RelOnceSaid : Prop := relOnceRow.holds Try.pinned (OpenSpec.ofChange relOnceSpec)

/-- ITS FALSE NEIGHBOUR: 'it returns false'. Refute it at one input. -/
def relOnceWrong : ChangeSpec := { name := "relOnce", fn := fun _ => fun
  | [d] => { results := [.lit (.bool false)], args := [d] }
  | _ => none }
def RelOnceWrongFalsely : Prop := relOnceRow.holds Try.pinned (OpenSpec.ofChange relOnceWrong)

/-- 'umpirelaw9.RelFits': WHATEVER THE INPUT: true; the input reads as it did. -/
def relFitsSpec : ChangeSpec := { name := "relFits", fn := fun _ => fun
  | [d1, d2] => { results := [.lit (.bool true)], args := [d1, d2] }
  | _ => none }
def relFitsRow : OpenClaim := { program := "ytadlgkakjaecdaa", sum := "d8ac96a940c9de7b94e021dddca3f27b4e9884b72e740d0940f148ad886937a5", func := "umpire/umpirelaw9.RelFits", spec := "relFits", unfollowed := true, recurses := true, plainKeys := false, apart := false }
def RelFitsSaid : Prop := relFitsRow.holds Try.pinned (OpenSpec.ofChange relFitsSpec)

/-- ITS FALSE NEIGHBOUR: 'it returns false'. Refute it at one input. -/
def relFitsWrong : ChangeSpec := { name := "relFits", fn := fun _ => fun
  | [d1, d2] => { results := [.lit (.bool false)], args := [d1, d2] }
  | _ => none }
def RelFitsWrongFalsely : Prop := relFitsRow.holds Try.pinned (OpenSpec.ofChange relFitsWrong)

/-- 'umpirelaw9.RelOwn': WHATEVER THE INPUT: true; the input reads as it did. -/
def relOwnSpec : ChangeSpec := { name := "relOwn", fn := fun _ => fun
  | [d1, d2, d3] => { results := [.lit (.bool true)], args := [d1, d2, d3] }
  | _ => none }
def relOwnRow : OpenClaim := { program := "ytadlgkakjaecdaa", sum := "d8ac96a940c9de7b94e021dddca3f27b4e9884b72e740d0940f148ad886937a5", func := "umpire/umpirelaw9.RelOwn", spec := "relOwn", unfollowed := true, recurses := true, plainKeys := false, apart := false }
def RelOwnSaid : Prop := relOwnRow.holds Try.pinned (OpenSpec.ofChange relOwnSpec)

/-- ITS FALSE NEIGHBOUR: 'it returns false'. Refute it at one input. -/
def relOwnWrong : ChangeSpec := { name := "relOwn", fn := fun _ => fun
  | [d1, d2, d3] => { results := [.lit (.bool false)], args := [d1, d2, d3] }
  | _ => none }
def RelOwnWrongFalsely : Prop := relOwnRow.holds Try.pinned (OpenSpec.ofChange relOwnWrong)

/- THE SECOND FORM. 'bulk': how many values and letters a reading holds, each counted each time it is reached (what is shared counts as often as it is met; a slice's spare places count too). A statement '..UptoSaid' is the law's where the arguments, and the package variables that the reading takes, are together of bulk at most 1048576: NARROWER than '..Said'. Prove '..Said' where nothing that the law and all that it calls make is longer than what came in: it says more and counts as full. Else prove '..UptoSaid'. A law counts once. -/
mutual
def uptoBulk {H : Type} : DataW H → Nat
  | .lit (.string bytes) => bytes.length + 1
  | .lit _ => 1
  | .nil => 1
  | .ptr d => uptoBulk d + 1
  | .slice elems spare => uptoBulkAll elems + uptoBulkAll spare + 1
  | .agg parts => uptoBulkAll parts + 1
  | .iface _ d => uptoBulk d + 1
  | .map entries => uptoBulkEntries entries + 1
  | .held _ => 1
def uptoBulkAll {H : Type} : List (DataW H) → Nat
  | [] => 0
  | d :: r => uptoBulk d + uptoBulkAll r
def uptoBulkEntries {H : Type} : List (Lit × DataW H) → Nat
  | [] => 0
  | x :: r => uptoBulkEntry x + uptoBulkEntries r
def uptoBulkEntry {H : Type} : Lit × DataW H → Nat
  | (.string bytes, d) => bytes.length + uptoBulk d + 1
  | (_, d) => uptoBulk d + 1
 end
def uptoSmall : (H : Type) → List (DataW H) → Bool := fun _ ds => decide (uptoBulkAll ds ≤ 1048576)
def OpenSpec.upto (s : _root_.Go.ChangeSpec) : _root_.Go.OpenSpec := { _root_.Go.OpenSpec.ofChange s with cond := some uptoSmall }

/-- 'umpirelaw9.RelPlays', WHERE WHAT IT READS IS OF BULK AT MOST 1048576: true; the input reads as it did. -/
def relPlaysUptoRow : OpenClaim := { program := "ytadlgkakjaecdaa", sum := "d8ac96a940c9de7b94e021dddca3f27b4e9884b72e740d0940f148ad886937a5", func := "umpire/umpirelaw9.RelPlays", spec := "relPlays", unfollowed := true, recurses := true, plainKeys := false, apart := false, narrowed := true }
def RelPlaysUptoSaid : Prop := relPlaysUptoRow.holds Try.pinned (OpenSpec.upto relPlaysSpec)

/-- 'umpirelaw9.RelCloses', WHERE WHAT IT READS IS OF BULK AT MOST 1048576: true; the input reads as it did. -/
def relClosesUptoRow : OpenClaim := { program := "ytadlgkakjaecdaa", sum := "d8ac96a940c9de7b94e021dddca3f27b4e9884b72e740d0940f148ad886937a5", func := "umpire/umpirelaw9.RelCloses", spec := "relCloses", unfollowed := true, recurses := true, plainKeys := false, apart := false, narrowed := true }
def RelClosesUptoSaid : Prop := relClosesUptoRow.holds Try.pinned (OpenSpec.upto relClosesSpec)

/-- 'umpirelaw9.RelTexts', WHERE WHAT IT READS IS OF BULK AT MOST 1048576: true; the input reads as it did. -/
def relTextsUptoRow : OpenClaim := { program := "ytadlgkakjaecdaa", sum := "d8ac96a940c9de7b94e021dddca3f27b4e9884b72e740d0940f148ad886937a5", func := "umpire/umpirelaw9.RelTexts", spec := "relTexts", unfollowed := true, recurses := true, plainKeys := false, apart := false, narrowed := true }
def RelTextsUptoSaid : Prop := relTextsUptoRow.holds Try.pinned (OpenSpec.upto relTextsSpec)

/-- 'umpirelaw9.RelOnce', WHERE WHAT IT READS IS OF BULK AT MOST 1048576: true; the input reads as it did. -/
def relOnceUptoRow : OpenClaim := { program := "ytadlgkakjaecdaa", sum := "d8ac96a940c9de7b94e021dddca3f27b4e9884b72e740d0940f148ad886937a5", func := "umpire/umpirelaw9.RelOnce", spec := "relOnce", unfollowed := true, recurses := true, plainKeys := false, apart := false, narrowed := true }
def RelOnceUptoSaid : Prop := relOnceUptoRow.holds Try.pinned (OpenSpec.upto relOnceSpec)

/-- 'umpirelaw9.RelFits', WHERE WHAT IT READS IS OF BULK AT MOST 1048576: true; the input reads as it did. -/
def relFitsUptoRow : OpenClaim := { program := "ytadlgkakjaecdaa", sum := "d8ac96a940c9de7b94e021dddca3f27b4e9884b72e740d0940f148ad886937a5", func := "umpire/umpirelaw9.RelFits", spec := "relFits", unfollowed := true, recurses := true, plainKeys := false, apart := false, narrowed := true }
def RelFitsUptoSaid : Prop := relFitsUptoRow.holds Try.pinned (OpenSpec.upto relFitsSpec)

/-- 'umpirelaw9.RelOwn', WHERE WHAT IT READS IS OF BULK AT MOST 1048576: true; the input reads as it did. -/
def relOwnUptoRow : OpenClaim := { program := "ytadlgkakjaecdaa", sum := "d8ac96a940c9de7b94e021dddca3f27b4e9884b72e740d0940f148ad886937a5", func := "umpire/umpirelaw9.RelOwn", spec := "relOwn", unfollowed := true, recurses := true, plainKeys := false, apart := false, narrowed := true }
def RelOwnUptoSaid : Prop := relOwnUptoRow.holds Try.pinned (OpenSpec.upto relOwnSpec)

end Rows
end Go.Proofs.Ytadlgkakjaecdaa
