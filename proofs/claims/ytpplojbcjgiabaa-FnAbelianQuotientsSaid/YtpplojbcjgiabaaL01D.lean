/- Contracts of the exported functions of chapter 1 that return numbers, of the program and of the model. -/
import Derived.Test.YtpplojbcjgiabaaKB
import Derived.Deep.QuietTactic
import Derived.BigQuiet
namespace Go.Proofs.Ytpplojbcjgiabaa
open Go.RowKit
set_option linter.unusedVariables false
set_option linter.unusedSimpArgs false

/-! ### ModPower -/
def MpBad (x m : Int) : Prop := (m < 1 ∨ 1000000 < m) ∨ x < 0 ∨ 1000000 < x
/-! ### ModInverse, UnitOrder's ends, RationalMod, Bezout -/
end Go.Proofs.Ytpplojbcjgiabaa
