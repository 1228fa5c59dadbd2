/-
  DERIVED. GIVEN WITH THE SEED: THE CARDS: each row of YtmdnmdfhonnjgabDoorRows.lean that lists a variable, with what it lists TIED to the program's text (the seventh form; the later family's looks); each row that meets fmt, with fmt's text TOLD by the authors' own Lean function (tested against real Go, not proved from fmt's source: count such statements apart). THE CARD IS WHAT COUNTS. Prove the row's statement (the work); the ties are given (YtmdnmdfhonnjgabDoorTie.lean); close each card by the builder's one call (the guide's Derived/Test/ToyasCard.lean, 'card_holds'). Laid BY PROGRAM, IN A SANDBOX (cutbox-door.mjs). By AI agents, Wed Nov 11 2026. No macro, syntax, notation, axiom, sorry.
-/
import Derived.Test.YtmdnmdfhonnjgabDoorRows
import GoSem.ClaimSeven
namespace Go.Proofs.YtmdnmdfhonnjgabDoor
namespace Rows

/-- THE TIED CARD OF 'landaulaw1.VecLimits'. -/
def vecLimitsCard : Claim7 := { stood := { row := vecLimitsRow, standIns := [], harness := (true, "1d534996a594a2f91b9c5c4f21f36fa120418e357e0d3499f90487d902cda236"), looks := false }, kinds := [], alts := [], laidByText := true, laidKinds := [.data, .data, .data, .data, .pinned], laidTests := true, laidLooks := .later }
def VecLimitsCardSaid : Prop := Claim7.holds Tryd.pinned (.plain (OpenSpec.ofChange vecLimitsSpec)) vecLimitsCard

/-- THE TIED CARD OF 'landaulaw1.VecParts'. -/
def vecPartsCard : Claim7 := { stood := { row := vecPartsRow, standIns := [], harness := (true, "1d534996a594a2f91b9c5c4f21f36fa120418e357e0d3499f90487d902cda236"), looks := false }, kinds := [], alts := [], laidByText := true, laidKinds := [.data, .data, .data, .data, .pinned], laidTests := true, laidLooks := .later }
def VecPartsCardSaid : Prop := Claim7.holds Tryd.pinned (.plain (OpenSpec.ofChange vecPartsSpec)) vecPartsCard

/-- THE SECOND FORM's CARD OF 'landaulaw1.VecLimits'. -/
def vecLimitsUptoCard : Claim7 := { stood := { row := vecLimitsUptoRow, standIns := [], harness := (true, "1d534996a594a2f91b9c5c4f21f36fa120418e357e0d3499f90487d902cda236"), looks := false }, kinds := [], alts := [], laidByText := true, laidKinds := [.data, .data, .data, .data, .pinned], laidTests := true, laidLooks := .later }
def VecLimitsUptoCardSaid : Prop := Claim7.holds Tryd.pinned (.plain (OpenSpec.upto vecLimitsSpec)) vecLimitsUptoCard

/-- THE SECOND FORM's CARD OF 'landaulaw1.VecParts'. -/
def vecPartsUptoCard : Claim7 := { stood := { row := vecPartsUptoRow, standIns := [], harness := (true, "1d534996a594a2f91b9c5c4f21f36fa120418e357e0d3499f90487d902cda236"), looks := false }, kinds := [], alts := [], laidByText := true, laidKinds := [.data, .data, .data, .data, .pinned], laidTests := true, laidLooks := .later }
def VecPartsUptoCardSaid : Prop := Claim7.holds Tryd.pinned (.plain (OpenSpec.upto vecPartsSpec)) vecPartsUptoCard
end Rows
end Go.Proofs.YtmdnmdfhonnjgabDoor
