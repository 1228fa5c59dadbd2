/-
  DERIVED. GIVEN WITH THE SEED: THE CARDS: each row of YtepadjcmmkglfabDoorRows.lean that lists a variable, with what it lists TIED to the program's text (the seventh form; the later family's looks); each row that meets fmt, with fmt's text TOLD by the authors' own Lean function (tested against real Go, not proved from fmt's source: count such statements apart). THE CARD IS WHAT COUNTS. Prove the row's statement (the work); the ties are given (YtepadjcmmkglfabDoorTie.lean); close each card by the builder's one call (the guide's Derived/Test/ToyasCard.lean, 'card_holds'). Laid BY PROGRAM, IN A SANDBOX (cutbox-door.mjs). By AI agents, Wed Nov 11 2026. No macro, syntax, notation, axiom, sorry.
-/
import Derived.Test.YtepadjcmmkglfabDoorRows
import GoSem.ClaimSeven
namespace Go.Proofs.YtepadjcmmkglfabDoor
namespace Rows

/-- THE TIED CARD OF 'landaulaw1.VecLimits'. -/
def vecLimitsCard : Claim7 := { stood := { row := vecLimitsRow, standIns := [], harness := (true, "228fe21c54432227be3e67da475784873279d5a187a67db2f6a7de1a327ab58d"), looks := false }, kinds := [], alts := [], laidByText := true, laidKinds := [.data, .data, .data, .data, .pinned], laidTests := true, laidLooks := .later }
def VecLimitsCardSaid : Prop := Claim7.holds Tryd.pinned (.plain (OpenSpec.ofChange vecLimitsSpec)) vecLimitsCard

/-- THE TIED CARD OF 'landaulaw1.VecParts'. -/
def vecPartsCard : Claim7 := { stood := { row := vecPartsRow, standIns := [], harness := (true, "228fe21c54432227be3e67da475784873279d5a187a67db2f6a7de1a327ab58d"), looks := false }, kinds := [], alts := [], laidByText := true, laidKinds := [.data, .data, .data, .data, .pinned], laidTests := true, laidLooks := .later }
def VecPartsCardSaid : Prop := Claim7.holds Tryd.pinned (.plain (OpenSpec.ofChange vecPartsSpec)) vecPartsCard

/-- THE TIED CARD OF 'landaulaw2.RecAny'. -/
def recAnyCard : Claim7 := { stood := { row := recAnyRow, standIns := [], harness := (true, "228fe21c54432227be3e67da475784873279d5a187a67db2f6a7de1a327ab58d"), looks := false }, kinds := [], alts := [], laidByText := true, laidKinds := [.data, .data, .data, .data, .pinned], laidTests := true, laidLooks := .later }
def RecAnyCardSaid : Prop := Claim7.holds Tryd.pinned (.plain (OpenSpec.ofChange recAnySpec)) recAnyCard

/-- THE TIED CARD OF 'landaulaw2.RecTwo'. -/
def recTwoCard : Claim7 := { stood := { row := recTwoRow, standIns := [], harness := (true, "228fe21c54432227be3e67da475784873279d5a187a67db2f6a7de1a327ab58d"), looks := false }, kinds := [], alts := [], laidByText := true, laidKinds := [.data, .data, .data, .data, .pinned], laidTests := true, laidLooks := .later }
def RecTwoCardSaid : Prop := Claim7.holds Tryd.pinned (.plain (OpenSpec.ofChange recTwoSpec)) recTwoCard

/-- THE TIED CARD OF 'landaulaw2.RecOf'. -/
def recOfCard : Claim7 := { stood := { row := recOfRow, standIns := [], harness := (true, "228fe21c54432227be3e67da475784873279d5a187a67db2f6a7de1a327ab58d"), looks := false }, kinds := [], alts := [], laidByText := true, laidKinds := [.data, .data, .data, .data, .pinned], laidTests := true, laidLooks := .later }
def RecOfCardSaid : Prop := Claim7.holds Tryd.pinned (.plain (OpenSpec.ofChange recOfSpec)) recOfCard

/-- THE TIED CARD OF 'landaulaw2.RecKeys'. -/
def recKeysCard : Claim7 := { stood := { row := recKeysRow, standIns := [], harness := (true, "228fe21c54432227be3e67da475784873279d5a187a67db2f6a7de1a327ab58d"), looks := false }, kinds := [], alts := [], laidByText := true, laidKinds := [.data, .data, .data, .data, .pinned], laidTests := true, laidLooks := .later }
def RecKeysCardSaid : Prop := Claim7.holds Tryd.pinned (.plain (OpenSpec.ofChange recKeysSpec)) recKeysCard

/-- THE SECOND FORM's CARD OF 'landaulaw1.VecLimits'. -/
def vecLimitsUptoCard : Claim7 := { stood := { row := vecLimitsUptoRow, standIns := [], harness := (true, "228fe21c54432227be3e67da475784873279d5a187a67db2f6a7de1a327ab58d"), looks := false }, kinds := [], alts := [], laidByText := true, laidKinds := [.data, .data, .data, .data, .pinned], laidTests := true, laidLooks := .later }
def VecLimitsUptoCardSaid : Prop := Claim7.holds Tryd.pinned (.plain (OpenSpec.upto vecLimitsSpec)) vecLimitsUptoCard

/-- THE SECOND FORM's CARD OF 'landaulaw1.VecParts'. -/
def vecPartsUptoCard : Claim7 := { stood := { row := vecPartsUptoRow, standIns := [], harness := (true, "228fe21c54432227be3e67da475784873279d5a187a67db2f6a7de1a327ab58d"), looks := false }, kinds := [], alts := [], laidByText := true, laidKinds := [.data, .data, .data, .data, .pinned], laidTests := true, laidLooks := .later }
def VecPartsUptoCardSaid : Prop := Claim7.holds Tryd.pinned (.plain (OpenSpec.upto vecPartsSpec)) vecPartsUptoCard

/-- THE SECOND FORM's CARD OF 'landaulaw2.RecAny'. -/
def recAnyUptoCard : Claim7 := { stood := { row := recAnyUptoRow, standIns := [], harness := (true, "228fe21c54432227be3e67da475784873279d5a187a67db2f6a7de1a327ab58d"), looks := false }, kinds := [], alts := [], laidByText := true, laidKinds := [.data, .data, .data, .data, .pinned], laidTests := true, laidLooks := .later }
def RecAnyUptoCardSaid : Prop := Claim7.holds Tryd.pinned (.plain (OpenSpec.upto recAnySpec)) recAnyUptoCard

/-- THE SECOND FORM's CARD OF 'landaulaw2.RecTwo'. -/
def recTwoUptoCard : Claim7 := { stood := { row := recTwoUptoRow, standIns := [], harness := (true, "228fe21c54432227be3e67da475784873279d5a187a67db2f6a7de1a327ab58d"), looks := false }, kinds := [], alts := [], laidByText := true, laidKinds := [.data, .data, .data, .data, .pinned], laidTests := true, laidLooks := .later }
def RecTwoUptoCardSaid : Prop := Claim7.holds Tryd.pinned (.plain (OpenSpec.upto recTwoSpec)) recTwoUptoCard

/-- THE SECOND FORM's CARD OF 'landaulaw2.RecOf'. -/
def recOfUptoCard : Claim7 := { stood := { row := recOfUptoRow, standIns := [], harness := (true, "228fe21c54432227be3e67da475784873279d5a187a67db2f6a7de1a327ab58d"), looks := false }, kinds := [], alts := [], laidByText := true, laidKinds := [.data, .data, .data, .data, .pinned], laidTests := true, laidLooks := .later }
def RecOfUptoCardSaid : Prop := Claim7.holds Tryd.pinned (.plain (OpenSpec.upto recOfSpec)) recOfUptoCard

/-- THE SECOND FORM's CARD OF 'landaulaw2.RecKeys'. -/
def recKeysUptoCard : Claim7 := { stood := { row := recKeysUptoRow, standIns := [], harness := (true, "228fe21c54432227be3e67da475784873279d5a187a67db2f6a7de1a327ab58d"), looks := false }, kinds := [], alts := [], laidByText := true, laidKinds := [.data, .data, .data, .data, .pinned], laidTests := true, laidLooks := .later }
def RecKeysUptoCardSaid : Prop := Claim7.holds Tryd.pinned (.plain (OpenSpec.upto recKeysSpec)) recKeysUptoCard
end Rows
end Go.Proofs.YtepadjcmmkglfabDoor
