/-
  DERIVED. GIVEN WITH THE SEED: THE CARDS: each row of YthpahkcncjieiaaDoorRows.lean that lists a variable, with what it lists TIED to the program's text (the seventh form; the later family's looks); each row that meets fmt, with fmt's text TOLD by the authors' own Lean function (tested against real Go, not proved from fmt's source: count such statements apart). THE CARD IS WHAT COUNTS. Prove the row's statement (the work); the ties are given (YthpahkcncjieiaaDoorTie.lean); close each card by the builder's one call (the guide's Derived/Test/ToyasCard.lean, 'card_holds'). Laid BY PROGRAM, IN A SANDBOX (cutbox-door.mjs). By AI agents, Wed Nov 11 2026. No macro, syntax, notation, axiom, sorry.
-/
import Derived.Test.YthpahkcncjieiaaDoorRows
import GoSem.ClaimSeven
namespace Go.Proofs.YthpahkcncjieiaaDoor
namespace Rows

/-- THE TIED CARD OF 'landaulaw2.RecOf'. -/
def recOfCard : Claim7 := { stood := { row := recOfRow, standIns := [], harness := (true, "8a8779af77bccb95402a747b31ff74e7f643fd0ca17851af97bb398a81143541"), looks := false }, kinds := [], alts := [], laidByText := true, laidKinds := [.data, .data, .data, .data, .pinned], laidTests := true, laidLooks := .later }
def RecOfCardSaid : Prop := Claim7.holds Tryd.pinned (.plain (OpenSpec.ofChange recOfSpec)) recOfCard

/-- THE TIED CARD OF 'landaulaw2.RecForms'. -/
def recFormsCard : Claim7 := { stood := { row := recFormsRow, standIns := [], harness := (true, "8a8779af77bccb95402a747b31ff74e7f643fd0ca17851af97bb398a81143541"), looks := false }, kinds := [], alts := [], laidByText := true, laidKinds := [.data, .data, .data, .data, .pinned], laidTests := true, laidLooks := .later }
def RecFormsCardSaid : Prop := Claim7.holds Tryd.pinned (.plain (OpenSpec.ofChange recFormsSpec)) recFormsCard

/-- THE SECOND FORM's CARD OF 'landaulaw2.RecOf'. -/
def recOfUptoCard : Claim7 := { stood := { row := recOfUptoRow, standIns := [], harness := (true, "8a8779af77bccb95402a747b31ff74e7f643fd0ca17851af97bb398a81143541"), looks := false }, kinds := [], alts := [], laidByText := true, laidKinds := [.data, .data, .data, .data, .pinned], laidTests := true, laidLooks := .later }
def RecOfUptoCardSaid : Prop := Claim7.holds Tryd.pinned (.plain (OpenSpec.upto recOfSpec)) recOfUptoCard

/-- THE SECOND FORM's CARD OF 'landaulaw2.RecForms'. -/
def recFormsUptoCard : Claim7 := { stood := { row := recFormsUptoRow, standIns := [], harness := (true, "8a8779af77bccb95402a747b31ff74e7f643fd0ca17851af97bb398a81143541"), looks := false }, kinds := [], alts := [], laidByText := true, laidKinds := [.data, .data, .data, .data, .pinned], laidTests := true, laidLooks := .later }
def RecFormsUptoCardSaid : Prop := Claim7.holds Tryd.pinned (.plain (OpenSpec.upto recFormsSpec)) recFormsUptoCard
end Rows
end Go.Proofs.YthpahkcncjieiaaDoor
