/- The walks of vec's With, Check, written, and of the laws' few, Ints, up. Own work; no statement. -/
import Derived.Test.YtpkjkhpnhcbciaaW3
set_option linter.unusedSimpArgs false
set_option linter.unusedVariables false
namespace Go.Proofs.Ytpkjkhpnhcbciaa
open Go.RowKit

/-- v with n at site i. -/
def withL (l : List Int) (i n : Int) : List Int := if i < 0 ∨ 63 < i then l else (stretchL l (max l.length (i.toNat + 1))).set i.toNat n

theorem stretchL_self (l : List Int) : stretchL l l.length = l := by simp [stretchL]
theorem stretchL_length (l : List Int) (n : Nat) (h : l.length ≤ n) : (stretchL l n).length = n := by simp [stretchL]; omega

end Go.Proofs.Ytpkjkhpnhcbciaa
