/- vec's Parse: a text as a vector. Own work; no statement. -/
import Derived.Test.YtompaldhnbcikaaW13
set_option linter.unusedSimpArgs false
set_option linter.unusedVariables false
namespace Go.Proofs.Ytompaldhnbcikaa
open Go.RowKit Go.Shelf

/-- What is between the brackets. -/
def innerL (s : List UInt8) : List UInt8 := Lib.trimSuffix (Lib.trimPrefix s [91]) [93]
def bracketB (s : List UInt8) : Bool := Lib.hasPrefix s [91] && Lib.hasSuffix (Lib.trimPrefix s [91]) [93]
/-- A text as a vector and the error's number. -/
def parseL (s : List UInt8) : List Int × Int := if bracketB s then (if innerL s = [] then ([], 0) else parseN (splitL (innerL s))) else ([], 2)

theorem trimPrefix_length (s p : List UInt8) : (Lib.trimPrefix s p).length ≤ s.length := by unfold Lib.trimPrefix; split <;> simp
theorem trimSuffix_length (s p : List UInt8) : (Lib.trimSuffix s p).length ≤ s.length := by unfold Lib.trimSuffix; split <;> simp

end Go.Proofs.Ytompaldhnbcikaa
