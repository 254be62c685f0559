/-
  DERIVED. GIVEN WITH THE SEED: THE CARDS: each row of YtgnpcbpbmalgiaaDoorRows.lean that lists a variable, with what it lists TIED to the program's text (the seventh form; the later family's looks); each row that meets fmt, with fmt's text TOLD by the authors' own Lean function (tested against real Go, not proved from fmt's source: count such statements apart). THE CARD IS WHAT COUNTS. Prove the row's statement (the work); the ties are given (YtgnpcbpbmalgiaaDoorTie.lean); close each card by the builder's one call (the guide's Derived/Test/ToyasCard.lean, 'card_holds'). Laid BY PROGRAM, IN A SANDBOX (cutbox-door.mjs). By AI agents, Wed Nov 11 2026. No macro, syntax, notation, axiom, sorry.
-/
import Derived.Test.YtgnpcbpbmalgiaaDoorRows
import GoSem.ClaimSeven
namespace Go.Proofs.YtgnpcbpbmalgiaaDoor
namespace Rows

/-- THE TIED CARD OF 'umpirelaw6.SpecBack'. -/
def specBackCard : Claim7 := { stood := { row := specBackRow, standIns := [], harness := (true, "3fdad43667861db8c63b57ec9c7001fc262dc94f76e9922d9c42a6aca206cb18"), looks := true }, kinds := [], alts := [], laidByText := true, laidKinds := [.data, .data, .data, .data, .sentinel, .sentinel, .sentinel, .sentinel, .sentinel, .sentinel, .sentinel, .data, .data, .pinned], laidTests := true, laidLooks := .later }
def SpecBackCardSaid : Prop := Claim7.holds Tryd.pinned (.plain (OpenSpec.ofChange specBackSpec)) specBackCard

/-- THE TIED CARD OF 'umpirelaw6.SpecLine'. -/
def specLineCard : Claim7 := { stood := { row := specLineRow, standIns := [], harness := (true, "3fdad43667861db8c63b57ec9c7001fc262dc94f76e9922d9c42a6aca206cb18"), looks := true }, kinds := [], alts := [], laidByText := true, laidKinds := [.data, .data, .data, .data, .sentinel, .sentinel, .sentinel, .sentinel, .sentinel, .sentinel, .sentinel, .data, .data, .pinned], laidTests := true, laidLooks := .later }
def SpecLineCardSaid : Prop := Claim7.holds Tryd.pinned (.plain (OpenSpec.ofChange specLineSpec)) specLineCard

/-- THE TIED CARD OF 'umpirelaw6.SpecLast'. -/
def specLastCard : Claim7 := { stood := { row := specLastRow, standIns := [], harness := (true, "3fdad43667861db8c63b57ec9c7001fc262dc94f76e9922d9c42a6aca206cb18"), looks := true }, kinds := [], alts := [], laidByText := true, laidKinds := [.data, .data, .data, .data, .sentinel, .sentinel, .sentinel, .sentinel, .sentinel, .sentinel, .sentinel, .data, .data, .pinned], laidTests := true, laidLooks := .later }
def SpecLastCardSaid : Prop := Claim7.holds Tryd.pinned (.plain (OpenSpec.ofChange specLastSpec)) specLastCard

/-- THE TIED CARD OF 'umpirelaw6.SpecApart'. -/
def specApartCard : Claim7 := { stood := { row := specApartRow, standIns := [], harness := (true, "3fdad43667861db8c63b57ec9c7001fc262dc94f76e9922d9c42a6aca206cb18"), looks := true }, kinds := [], alts := [], laidByText := true, laidKinds := [.data, .data, .data, .data, .sentinel, .sentinel, .sentinel, .sentinel, .sentinel, .sentinel, .sentinel, .data, .data, .pinned], laidTests := true, laidLooks := .later }
def SpecApartCardSaid : Prop := Claim7.holds Tryd.pinned (.plain (OpenSpec.ofChange specApartSpec)) specApartCard

/-- THE SECOND FORM's CARD OF 'umpirelaw6.SpecBack'. -/
def specBackUptoCard : Claim7 := { stood := { row := specBackUptoRow, standIns := [], harness := (true, "3fdad43667861db8c63b57ec9c7001fc262dc94f76e9922d9c42a6aca206cb18"), looks := true }, kinds := [], alts := [], laidByText := true, laidKinds := [.data, .data, .data, .data, .sentinel, .sentinel, .sentinel, .sentinel, .sentinel, .sentinel, .sentinel, .data, .data, .pinned], laidTests := true, laidLooks := .later }
def SpecBackUptoCardSaid : Prop := Claim7.holds Tryd.pinned (.plain (OpenSpec.upto specBackSpec)) specBackUptoCard

/-- THE SECOND FORM's CARD OF 'umpirelaw6.SpecLine'. -/
def specLineUptoCard : Claim7 := { stood := { row := specLineUptoRow, standIns := [], harness := (true, "3fdad43667861db8c63b57ec9c7001fc262dc94f76e9922d9c42a6aca206cb18"), looks := true }, kinds := [], alts := [], laidByText := true, laidKinds := [.data, .data, .data, .data, .sentinel, .sentinel, .sentinel, .sentinel, .sentinel, .sentinel, .sentinel, .data, .data, .pinned], laidTests := true, laidLooks := .later }
def SpecLineUptoCardSaid : Prop := Claim7.holds Tryd.pinned (.plain (OpenSpec.upto specLineSpec)) specLineUptoCard

/-- THE SECOND FORM's CARD OF 'umpirelaw6.SpecLast'. -/
def specLastUptoCard : Claim7 := { stood := { row := specLastUptoRow, standIns := [], harness := (true, "3fdad43667861db8c63b57ec9c7001fc262dc94f76e9922d9c42a6aca206cb18"), looks := true }, kinds := [], alts := [], laidByText := true, laidKinds := [.data, .data, .data, .data, .sentinel, .sentinel, .sentinel, .sentinel, .sentinel, .sentinel, .sentinel, .data, .data, .pinned], laidTests := true, laidLooks := .later }
def SpecLastUptoCardSaid : Prop := Claim7.holds Tryd.pinned (.plain (OpenSpec.upto specLastSpec)) specLastUptoCard

/-- THE SECOND FORM's CARD OF 'umpirelaw6.SpecApart'. -/
def specApartUptoCard : Claim7 := { stood := { row := specApartUptoRow, standIns := [], harness := (true, "3fdad43667861db8c63b57ec9c7001fc262dc94f76e9922d9c42a6aca206cb18"), looks := true }, kinds := [], alts := [], laidByText := true, laidKinds := [.data, .data, .data, .data, .sentinel, .sentinel, .sentinel, .sentinel, .sentinel, .sentinel, .sentinel, .data, .data, .pinned], laidTests := true, laidLooks := .later }
def SpecApartUptoCardSaid : Prop := Claim7.holds Tryd.pinned (.plain (OpenSpec.upto specApartSpec)) specApartUptoCard
end Rows
end Go.Proofs.YtgnpcbpbmalgiaaDoor
