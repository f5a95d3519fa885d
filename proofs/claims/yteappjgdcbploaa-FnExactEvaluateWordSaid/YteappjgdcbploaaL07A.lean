/- Abelian groups: what comes in; chains of divisors; IsAbelian of the program and of the model. -/
import Derived.Test.YteappjgdcbploaaNumJ
import Derived.Test.YteappjgdcbploaaKB
import Derived.Test.YteappjgdcbploaaShAb
namespace Go.Proofs.Yteappjgdcbploaa
open Go.RowKit Go.ChangeShapes Go.WideShapes Go.ChangeAt
set_option linter.unusedVariables false
set_option linter.unusedSimpArgs false

theorem rdAb_of {w : World} {K : Int} {A : Option Addr} {c : Nat} {xs : List Int} (h : RdI w A xs ∧ xs.length ≤ maxLen) : spAb.rd w (.agg #[.slice A xs.length c, .int .i64 K]) ⟨xs, K⟩ := ⟨_, rfl, A, c, rfl, h.2, h.1⟩

def Ab.ok (x : Ab) : Bool := Num.abB x.F x.K

/-! ### The model -/
/-- The result of IsAbelian. -/
def rIsAbelian (x : Ab) : Bool := x.ok
end Go.Proofs.Yteappjgdcbploaa
