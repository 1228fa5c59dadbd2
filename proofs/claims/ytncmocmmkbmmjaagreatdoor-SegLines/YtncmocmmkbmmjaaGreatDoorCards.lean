/-
  DERIVED. GIVEN WITH THE SEED: THE CARDS: each row of YtncmocmmkbmmjaaGreatDoorRows.lean that lists a variable, with what it lists TIED to the program's text (the seventh form; the later family's looks); each row that meets fmt, with fmt's text TOLD by the authors' own Lean function (tested against real Go, not proved from fmt's source: count such statements apart). THE CARD IS WHAT COUNTS. Prove the row's statement (the work); the ties are given (YtncmocmmkbmmjaaGreatDoorTie.lean); close each card by the builder's one call (the guide's Derived/Test/ToyasCard.lean, 'card_holds'). Laid BY PROGRAM, IN A SANDBOX (cutbox-door.mjs). By AI agents, Wed Nov 11 2026. No macro, syntax, notation, axiom, sorry.
-/
import Derived.Test.YtncmocmmkbmmjaaGreatDoorRows
import GoSem.ClaimSeven
namespace Go.Proofs.YtncmocmmkbmmjaaGreatDoor
namespace Rows

/-- THE TIED CARD OF 'landaulaw4.SegLines'. -/
def segLinesCard : Claim7 := { stood := { row := segLinesRow, standIns := [], harness := (true, "69b8da2a411690d6f593d23bfd388eafe64d3520db68949c8d094bf4d1cd689c"), looks := false }, kinds := [], alts := [], laidByText := true, laidKinds := [.data, .data, .data, .data, .pinned], laidTests := true, laidLooks := .later }
def SegLinesCardSaid : Prop := Claim7.holds Tryz.pinned (.plain (OpenSpec.ofChange segLinesSpec)) segLinesCard

/-- THE TIED CARD OF 'landaulaw4.SegOnce'. -/
def segOnceCard : Claim7 := { stood := { row := segOnceRow, standIns := [], harness := (true, "69b8da2a411690d6f593d23bfd388eafe64d3520db68949c8d094bf4d1cd689c"), looks := false }, kinds := [], alts := [], laidByText := true, laidKinds := [.data, .data, .data, .data, .pinned], laidTests := true, laidLooks := .later }
def SegOnceCardSaid : Prop := Claim7.holds Tryz.pinned (.plain (OpenSpec.ofChange segOnceSpec)) segOnceCard

/-- THE TIED CARD OF 'landaulaw4.SegSeals'. -/
def segSealsCard : Claim7 := { stood := { row := segSealsRow, standIns := [], harness := (true, "69b8da2a411690d6f593d23bfd388eafe64d3520db68949c8d094bf4d1cd689c"), looks := false }, kinds := [], alts := [], laidByText := true, laidKinds := [.data, .data, .data, .data, .pinned], laidTests := true, laidLooks := .later }
def SegSealsCardSaid : Prop := Claim7.holds Tryz.pinned (.plain (OpenSpec.ofChange segSealsSpec)) segSealsCard

/-- THE TIED CARD OF 'landaulaw4.SegCuts'. -/
def segCutsCard : Claim7 := { stood := { row := segCutsRow, standIns := [], harness := (true, "69b8da2a411690d6f593d23bfd388eafe64d3520db68949c8d094bf4d1cd689c"), looks := false }, kinds := [], alts := [], laidByText := true, laidKinds := [.data, .data, .data, .data, .pinned], laidTests := true, laidLooks := .later }
def SegCutsCardSaid : Prop := Claim7.holds Tryz.pinned (.plain (OpenSpec.ofChange segCutsSpec)) segCutsCard

/-- THE SECOND FORM's CARD OF 'landaulaw4.SegLines'. -/
def segLinesUptoCard : Claim7 := { stood := { row := segLinesUptoRow, standIns := [], harness := (true, "69b8da2a411690d6f593d23bfd388eafe64d3520db68949c8d094bf4d1cd689c"), looks := false }, kinds := [], alts := [], laidByText := true, laidKinds := [.data, .data, .data, .data, .pinned], laidTests := true, laidLooks := .later }
def SegLinesUptoCardSaid : Prop := Claim7.holds Tryz.pinned (.plain (OpenSpec.upto segLinesSpec)) segLinesUptoCard

/-- THE SECOND FORM's CARD OF 'landaulaw4.SegOnce'. -/
def segOnceUptoCard : Claim7 := { stood := { row := segOnceUptoRow, standIns := [], harness := (true, "69b8da2a411690d6f593d23bfd388eafe64d3520db68949c8d094bf4d1cd689c"), looks := false }, kinds := [], alts := [], laidByText := true, laidKinds := [.data, .data, .data, .data, .pinned], laidTests := true, laidLooks := .later }
def SegOnceUptoCardSaid : Prop := Claim7.holds Tryz.pinned (.plain (OpenSpec.upto segOnceSpec)) segOnceUptoCard

/-- THE SECOND FORM's CARD OF 'landaulaw4.SegSeals'. -/
def segSealsUptoCard : Claim7 := { stood := { row := segSealsUptoRow, standIns := [], harness := (true, "69b8da2a411690d6f593d23bfd388eafe64d3520db68949c8d094bf4d1cd689c"), looks := false }, kinds := [], alts := [], laidByText := true, laidKinds := [.data, .data, .data, .data, .pinned], laidTests := true, laidLooks := .later }
def SegSealsUptoCardSaid : Prop := Claim7.holds Tryz.pinned (.plain (OpenSpec.upto segSealsSpec)) segSealsUptoCard

/-- THE SECOND FORM's CARD OF 'landaulaw4.SegCuts'. -/
def segCutsUptoCard : Claim7 := { stood := { row := segCutsUptoRow, standIns := [], harness := (true, "69b8da2a411690d6f593d23bfd388eafe64d3520db68949c8d094bf4d1cd689c"), looks := false }, kinds := [], alts := [], laidByText := true, laidKinds := [.data, .data, .data, .data, .pinned], laidTests := true, laidLooks := .later }
def SegCutsUptoCardSaid : Prop := Claim7.holds Tryz.pinned (.plain (OpenSpec.upto segCutsSpec)) segCutsUptoCard
end Rows
end Go.Proofs.YtncmocmmkbmmjaaGreatDoor
