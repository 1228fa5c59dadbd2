/-
  DERIVED. GIVEN WITH THE SEED: THE CARDS: each row of YtepadjcmmkglfaaDoorRows.lean that lists a variable, with what it lists TIED to the program's text (the seventh form; the later family's looks); each row that meets fmt, with fmt's text TOLD by the authors' own Lean function (tested against real Go, not proved from fmt's source: count such statements apart). THE CARD IS WHAT COUNTS. Prove the row's statement (the work); the ties are given (YtepadjcmmkglfaaDoorTie.lean); close each card by the builder's one call (the guide's Derived/Test/ToyasCard.lean, 'card_holds'). Laid BY PROGRAM, IN A SANDBOX (cutbox-door.mjs). By AI agents, Wed Nov 11 2026. No macro, syntax, notation, axiom, sorry.
-/
import Derived.Test.YtepadjcmmkglfaaDoorRows
import GoSem.ClaimSeven
namespace Go.Proofs.YtepadjcmmkglfaaDoor
namespace Rows

/-- THE TIED CARD OF 'landaulaw1.VecTwo'. -/
def vecTwoCard : Claim7 := { stood := { row := vecTwoRow, standIns := [], harness := (true, "962fd5af4d9a53f7d91dd072f23256ebea96d3cb2d1cf291906744beb5b9ca8b"), looks := false }, kinds := [], alts := [], laidByText := true, laidKinds := [.data, .data, .data, .data, .pinned], laidTests := true, laidLooks := .later }
def VecTwoCardSaid : Prop := Claim7.holds Tryd.pinned (.plain (OpenSpec.ofChange vecTwoSpec)) vecTwoCard

/-- THE TIED CARD OF 'landaulaw1.VecWords'. -/
def vecWordsCard : Claim7 := { stood := { row := vecWordsRow, standIns := [], harness := (true, "962fd5af4d9a53f7d91dd072f23256ebea96d3cb2d1cf291906744beb5b9ca8b"), looks := false }, kinds := [], alts := [], laidByText := true, laidKinds := [.data, .data, .data, .data, .pinned], laidTests := true, laidLooks := .later }
def VecWordsCardSaid : Prop := Claim7.holds Tryd.pinned (.plain (OpenSpec.ofChange vecWordsSpec)) vecWordsCard

/-- THE TIED CARD OF 'landaulaw1.VecAll'. -/
def vecAllCard : Claim7 := { stood := { row := vecAllRow, standIns := [], harness := (true, "962fd5af4d9a53f7d91dd072f23256ebea96d3cb2d1cf291906744beb5b9ca8b"), looks := false }, kinds := [], alts := [], laidByText := true, laidKinds := [.data, .data, .data, .data, .pinned], laidTests := true, laidLooks := .later }
def VecAllCardSaid : Prop := Claim7.holds Tryd.pinned (.plain (OpenSpec.ofChange vecAllSpec)) vecAllCard

/-- THE TIED CARD OF 'landaulaw1.VecOrder'. -/
def vecOrderCard : Claim7 := { stood := { row := vecOrderRow, standIns := [], harness := (true, "962fd5af4d9a53f7d91dd072f23256ebea96d3cb2d1cf291906744beb5b9ca8b"), looks := false }, kinds := [], alts := [], laidByText := true, laidKinds := [.data, .data, .data, .data, .pinned], laidTests := true, laidLooks := .later }
def VecOrderCardSaid : Prop := Claim7.holds Tryd.pinned (.plain (OpenSpec.ofChange vecOrderSpec)) vecOrderCard

/-- THE TIED CARD OF 'landaulaw1.VecBack'. -/
def vecBackCard : Claim7 := { stood := { row := vecBackRow, standIns := [], harness := (true, "962fd5af4d9a53f7d91dd072f23256ebea96d3cb2d1cf291906744beb5b9ca8b"), looks := false }, kinds := [], alts := [], laidByText := true, laidKinds := [.data, .data, .data, .data, .pinned], laidTests := true, laidLooks := .later }
def VecBackCardSaid : Prop := Claim7.holds Tryd.pinned (.plain (OpenSpec.ofChange vecBackSpec)) vecBackCard

/-- THE TIED CARD OF 'landaulaw1.VecPuts'. -/
def vecPutsCard : Claim7 := { stood := { row := vecPutsRow, standIns := [], harness := (true, "962fd5af4d9a53f7d91dd072f23256ebea96d3cb2d1cf291906744beb5b9ca8b"), looks := false }, kinds := [], alts := [], laidByText := true, laidKinds := [.data, .data, .data, .data, .pinned], laidTests := true, laidLooks := .later }
def VecPutsCardSaid : Prop := Claim7.holds Tryd.pinned (.plain (OpenSpec.ofChange vecPutsSpec)) vecPutsCard

/-- THE SECOND FORM's CARD OF 'landaulaw1.VecTwo'. -/
def vecTwoUptoCard : Claim7 := { stood := { row := vecTwoUptoRow, standIns := [], harness := (true, "962fd5af4d9a53f7d91dd072f23256ebea96d3cb2d1cf291906744beb5b9ca8b"), looks := false }, kinds := [], alts := [], laidByText := true, laidKinds := [.data, .data, .data, .data, .pinned], laidTests := true, laidLooks := .later }
def VecTwoUptoCardSaid : Prop := Claim7.holds Tryd.pinned (.plain (OpenSpec.upto vecTwoSpec)) vecTwoUptoCard

/-- THE SECOND FORM's CARD OF 'landaulaw1.VecWords'. -/
def vecWordsUptoCard : Claim7 := { stood := { row := vecWordsUptoRow, standIns := [], harness := (true, "962fd5af4d9a53f7d91dd072f23256ebea96d3cb2d1cf291906744beb5b9ca8b"), looks := false }, kinds := [], alts := [], laidByText := true, laidKinds := [.data, .data, .data, .data, .pinned], laidTests := true, laidLooks := .later }
def VecWordsUptoCardSaid : Prop := Claim7.holds Tryd.pinned (.plain (OpenSpec.upto vecWordsSpec)) vecWordsUptoCard

/-- THE SECOND FORM's CARD OF 'landaulaw1.VecAll'. -/
def vecAllUptoCard : Claim7 := { stood := { row := vecAllUptoRow, standIns := [], harness := (true, "962fd5af4d9a53f7d91dd072f23256ebea96d3cb2d1cf291906744beb5b9ca8b"), looks := false }, kinds := [], alts := [], laidByText := true, laidKinds := [.data, .data, .data, .data, .pinned], laidTests := true, laidLooks := .later }
def VecAllUptoCardSaid : Prop := Claim7.holds Tryd.pinned (.plain (OpenSpec.upto vecAllSpec)) vecAllUptoCard

/-- THE SECOND FORM's CARD OF 'landaulaw1.VecOrder'. -/
def vecOrderUptoCard : Claim7 := { stood := { row := vecOrderUptoRow, standIns := [], harness := (true, "962fd5af4d9a53f7d91dd072f23256ebea96d3cb2d1cf291906744beb5b9ca8b"), looks := false }, kinds := [], alts := [], laidByText := true, laidKinds := [.data, .data, .data, .data, .pinned], laidTests := true, laidLooks := .later }
def VecOrderUptoCardSaid : Prop := Claim7.holds Tryd.pinned (.plain (OpenSpec.upto vecOrderSpec)) vecOrderUptoCard

/-- THE SECOND FORM's CARD OF 'landaulaw1.VecBack'. -/
def vecBackUptoCard : Claim7 := { stood := { row := vecBackUptoRow, standIns := [], harness := (true, "962fd5af4d9a53f7d91dd072f23256ebea96d3cb2d1cf291906744beb5b9ca8b"), looks := false }, kinds := [], alts := [], laidByText := true, laidKinds := [.data, .data, .data, .data, .pinned], laidTests := true, laidLooks := .later }
def VecBackUptoCardSaid : Prop := Claim7.holds Tryd.pinned (.plain (OpenSpec.upto vecBackSpec)) vecBackUptoCard

/-- THE SECOND FORM's CARD OF 'landaulaw1.VecPuts'. -/
def vecPutsUptoCard : Claim7 := { stood := { row := vecPutsUptoRow, standIns := [], harness := (true, "962fd5af4d9a53f7d91dd072f23256ebea96d3cb2d1cf291906744beb5b9ca8b"), looks := false }, kinds := [], alts := [], laidByText := true, laidKinds := [.data, .data, .data, .data, .pinned], laidTests := true, laidLooks := .later }
def VecPutsUptoCardSaid : Prop := Claim7.holds Tryd.pinned (.plain (OpenSpec.upto vecPutsSpec)) vecPutsUptoCard
end Rows
end Go.Proofs.YtepadjcmmkglfaaDoor
