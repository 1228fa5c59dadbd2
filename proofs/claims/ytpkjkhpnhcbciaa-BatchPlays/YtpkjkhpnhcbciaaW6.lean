/- The walk of the laws' up: numbers as a vector. Own work; no statement. -/
import Derived.Test.YtpkjkhpnhcbciaaW5
set_option linter.unusedSimpArgs false
set_option linter.unusedVariables false
namespace Go.Proofs.Ytpkjkhpnhcbciaa
open Go.RowKit

theorem wrap64_small (x : Int) (h0 : 0 ≤ x) (h1 : x < 4294967296) : wrap64 x = x := by unfold wrap64; omega

end Go.Proofs.Ytpkjkhpnhcbciaa
