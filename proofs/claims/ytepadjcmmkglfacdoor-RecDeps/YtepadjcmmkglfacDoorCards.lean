/-
  DERIVED. GIVEN WITH THE SEED: THE CARDS: each row of YtepadjcmmkglfacDoorRows.lean that lists a variable, with what it lists TIED to the program's text (the seventh form; the later family's looks); each row that meets fmt, with fmt's text TOLD by the authors' own Lean function (tested against real Go, not proved from fmt's source: count such statements apart). THE CARD IS WHAT COUNTS. Prove the row's statement (the work); the ties are given (YtepadjcmmkglfacDoorTie.lean); close each card by the builder's one call (the guide's Derived/Test/ToyasCard.lean, 'card_holds'). Laid BY PROGRAM, IN A SANDBOX (cutbox-door.mjs). By AI agents, Wed Nov 11 2026. No macro, syntax, notation, axiom, sorry.
-/
import Derived.Test.YtepadjcmmkglfacDoorRows
import GoSem.ClaimSeven
namespace Go.Proofs.YtepadjcmmkglfacDoor
namespace Rows

/-- THE TIED CARD OF 'landaulaw2.RecDeps'. -/
def recDepsCard : Claim7 := { stood := { row := recDepsRow, standIns := [], harness := (true, "9919184acf16ad8adc6db2f670d8658309aafd1618569822357d78a9a1940390"), looks := false }, kinds := [], alts := [], laidByText := true, laidKinds := [.data, .data, .data, .data, .pinned], laidTests := true, laidLooks := .later }
def RecDepsCardSaid : Prop := Claim7.holds Tryd.pinned (.plain (OpenSpec.ofChange recDepsSpec)) recDepsCard

/-- THE TIED CARD OF 'landaulaw2.RecSorted'. -/
def recSortedCard : Claim7 := { stood := { row := recSortedRow, standIns := [], harness := (true, "9919184acf16ad8adc6db2f670d8658309aafd1618569822357d78a9a1940390"), looks := false }, kinds := [], alts := [], laidByText := true, laidKinds := [.data, .data, .data, .data, .pinned], laidTests := true, laidLooks := .later }
def RecSortedCardSaid : Prop := Claim7.holds Tryd.pinned (.plain (OpenSpec.ofChange recSortedSpec)) recSortedCard

/-- THE TIED CARD OF 'landaulaw2.RecForms'. -/
def recFormsCard : Claim7 := { stood := { row := recFormsRow, standIns := [], harness := (true, "9919184acf16ad8adc6db2f670d8658309aafd1618569822357d78a9a1940390"), looks := false }, kinds := [], alts := [], laidByText := true, laidKinds := [.data, .data, .data, .data, .pinned], laidTests := true, laidLooks := .later }
def RecFormsCardSaid : Prop := Claim7.holds Tryd.pinned (.plain (OpenSpec.ofChange recFormsSpec)) recFormsCard

/-- THE SECOND FORM's CARD OF 'landaulaw2.RecDeps'. -/
def recDepsUptoCard : Claim7 := { stood := { row := recDepsUptoRow, standIns := [], harness := (true, "9919184acf16ad8adc6db2f670d8658309aafd1618569822357d78a9a1940390"), looks := false }, kinds := [], alts := [], laidByText := true, laidKinds := [.data, .data, .data, .data, .pinned], laidTests := true, laidLooks := .later }
def RecDepsUptoCardSaid : Prop := Claim7.holds Tryd.pinned (.plain (OpenSpec.upto recDepsSpec)) recDepsUptoCard

/-- THE SECOND FORM's CARD OF 'landaulaw2.RecSorted'. -/
def recSortedUptoCard : Claim7 := { stood := { row := recSortedUptoRow, standIns := [], harness := (true, "9919184acf16ad8adc6db2f670d8658309aafd1618569822357d78a9a1940390"), looks := false }, kinds := [], alts := [], laidByText := true, laidKinds := [.data, .data, .data, .data, .pinned], laidTests := true, laidLooks := .later }
def RecSortedUptoCardSaid : Prop := Claim7.holds Tryd.pinned (.plain (OpenSpec.upto recSortedSpec)) recSortedUptoCard

/-- THE SECOND FORM's CARD OF 'landaulaw2.RecForms'. -/
def recFormsUptoCard : Claim7 := { stood := { row := recFormsUptoRow, standIns := [], harness := (true, "9919184acf16ad8adc6db2f670d8658309aafd1618569822357d78a9a1940390"), looks := false }, kinds := [], alts := [], laidByText := true, laidKinds := [.data, .data, .data, .data, .pinned], laidTests := true, laidLooks := .later }
def RecFormsUptoCardSaid : Prop := Claim7.holds Tryd.pinned (.plain (OpenSpec.upto recFormsSpec)) recFormsUptoCard
end Rows
end Go.Proofs.YtepadjcmmkglfacDoor
