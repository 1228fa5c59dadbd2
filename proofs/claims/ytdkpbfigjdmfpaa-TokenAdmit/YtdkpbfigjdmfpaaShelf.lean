/- No contract of the library is wanted here. Own work. -/
import Derived.Test.YtdkpbfigjdmfpaaProg
namespace Go.Proofs
end Go.Proofs
