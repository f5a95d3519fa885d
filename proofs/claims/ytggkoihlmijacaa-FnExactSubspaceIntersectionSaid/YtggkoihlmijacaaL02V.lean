/- The model's MatrixProduct. -/
import Derived.Test.YtggkoihlmijacaaL02U
import Derived.Test.YtggkoihlmijacaaL02L
namespace Go.Proofs.Ytggkoihlmijacaa
open Go.RowKit
set_option linter.unusedVariables false
set_option linter.unusedSimpArgs false

theorem sProduct_at (p C : Int) (av bv : Value) (a b : List (List Int)) (n m : Nat) (w : World) (ha : spII.rd w av a) (hb : spII.rd w bv b) (hp1 : 2 ≤ p) (hp2 : p ≤ 7) (hav : ∀ i, i < a.length → Num.Vec p m (a.getD i [])) (hbv : ∀ i, i < b.length → Num.Vec p n (b.getD i [])) (hm : b.length = m) (hn : n ≤ 1000) (hml : m ≤ 1000) (hal : a.length ≤ 1000) (hC : C = (n : Int)) :
    Calls Try.prog 78 #[.int .i64 p, av, bv, .int .i64 C] w (Made spII (Num.prodR p a b n) w) := by
  subst hC
  exact sProduct_any p av bv a b n m w ha hb hp1 hp2 hav hbv hm hn hml hal
end Go.Proofs.Ytggkoihlmijacaa
