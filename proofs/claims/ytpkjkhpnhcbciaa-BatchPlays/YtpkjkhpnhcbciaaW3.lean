/- The walks of vec's Covers, Same, With, Check, written, and of the laws' Ints, few, up. Own work; no statement. -/
import Derived.Test.YtpkjkhpnhcbciaaW2
set_option linter.unusedSimpArgs false
set_option linter.unusedVariables false
namespace Go.Proofs.Ytpkjkhpnhcbciaa
open Go.RowKit
end Go.Proofs.Ytpkjkhpnhcbciaa
