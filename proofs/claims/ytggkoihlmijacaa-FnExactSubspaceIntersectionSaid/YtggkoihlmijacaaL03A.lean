/- The model's ReduceRows. -/
import Derived.Test.YtggkoihlmijacaaL02X
import Derived.Test.YtggkoihlmijacaaL02M
namespace Go.Proofs.Ytggkoihlmijacaa
open Go.RowKit
set_option linter.unusedVariables false
set_option linter.unusedSimpArgs false

end Go.Proofs.Ytggkoihlmijacaa
