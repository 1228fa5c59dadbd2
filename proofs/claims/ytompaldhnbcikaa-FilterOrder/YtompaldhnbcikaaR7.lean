/- rec's Parse: a text as a record. Own work; no statement. -/
import Derived.Test.YtompaldhnbcikaaR6
import Derived.Outline
set_option linter.unusedSimpArgs false
set_option linter.unusedVariables false
namespace Go.Proofs.Ytompaldhnbcikaa
open Go.RowKit Go.Sort


end Go.Proofs.Ytompaldhnbcikaa
