/- Words: letters and words, of the program and of the model. -/
import Derived.Test.YtnjilcdbcagkpaaNumWe
import Derived.Test.YtnjilcdbcagkpaaKB
namespace Go.Proofs.Ytnjilcdbcagkpaa
open Go.RowKit
set_option linter.unusedVariables false
set_option linter.unusedSimpArgs false

/-! ### Of the program -/
/-! ### Of the model -/
end Go.Proofs.Ytnjilcdbcagkpaa
