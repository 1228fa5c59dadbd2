/- The laws' Pairs: what a range over pairs of numbers tells. Own work; no statement. -/
import Derived.Test.YtndhkbmgpjjepaaDoorW9
set_option linter.unusedSimpArgs false
set_option linter.unusedVariables false
namespace Go.Proofs.YtndhkbmgpjjepaaDoor
open Go.RowKit Go.Shelf

attribute [local go_sem] Oper.semAt_some
end Go.Proofs.YtndhkbmgpjjepaaDoor
