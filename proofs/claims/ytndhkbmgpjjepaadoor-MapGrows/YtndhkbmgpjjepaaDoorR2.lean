/- rec's Check, Before, Same; the laws' Of and Few. Own work; no statement. -/
import Derived.Test.YtndhkbmgpjjepaaDoorR1
import Derived.Deep.RegionWith
set_option linter.unusedSimpArgs false
set_option linter.unusedVariables false
namespace Go.Proofs.YtndhkbmgpjjepaaDoor
open Go.RowKit
end Go.Proofs.YtndhkbmgpjjepaaDoor
