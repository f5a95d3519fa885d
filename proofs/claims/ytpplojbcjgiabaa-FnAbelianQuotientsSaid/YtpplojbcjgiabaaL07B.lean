/- Products with a limit, the greatest finite factor, the common divisor of the model. -/
import Derived.Test.YtpplojbcjgiabaaL07A
import Derived.Test.YtpplojbcjgiabaaKB
namespace Go.Proofs.Ytpplojbcjgiabaa
open Go.RowKit
set_option linter.unusedVariables false
set_option linter.unusedSimpArgs false

/-- The state of a product with a limit. -/
def Num.LimInv (xs : List Int) (n : Int) (k : Nat) : Prop := 1 ≤ n ∧ n ≤ 1000000000000000 ∧ Num.prodLim 1 xs = Num.prodLim n (xs.drop k)
theorem Num.limInv_start (xs : List Int) : Num.LimInv xs 1 0 := ⟨by omega, by omega, by simp⟩
theorem Num.limInv_over {xs : List Int} {n : Int} {k : Nat} (h : Num.LimInv xs n k) (hk : k < xs.length) (hc : 1000000000000000 / n < xs.getD k 0) : Num.cnt xs = 0 ∧ Num.cntC xs = 3 ∧ Num.prodLim 1 xs = none := by
  have e : Num.prodLim 1 xs = none := by rw [h.2.2, Num.prodLim_drop hk, if_pos hc]
  unfold Num.cnt Num.cntC
  rw [e]
  exact ⟨rfl, rfl, rfl⟩
theorem Num.limInv_step {xs : List Int} {n : Int} {k : Nat} (h : Num.LimInv xs n k) (hk : k < xs.length) (hx : 1 ≤ xs.getD k 0) (hc : ¬ 1000000000000000 / n < xs.getD k 0) : Num.LimInv xs (n * xs.getD k 0) (k + 1) := by
  have hs := Num.prodLim_step h.1 hx hc
  exact ⟨hs.1, hs.2, by rw [h.2.2, Num.prodLim_drop hk, if_neg hc]⟩
theorem Num.limInv_end {xs : List Int} {n : Int} (h : Num.LimInv xs n xs.length) : Num.cnt xs = n ∧ Num.cntC xs = 0 ∧ Num.prodLim 1 xs = some n := by
  have e : Num.prodLim 1 xs = some n := by rw [h.2.2, List.drop_length]; rfl
  unfold Num.cnt Num.cntC
  rw [e]
  exact ⟨rfl, rfl, rfl⟩

/-- The greatest finite factor. -/
def Num.lastF (F : List Int) : Int := if F.length = 0 then 1 else F.getD (F.length - 1) 0
end Go.Proofs.Ytpplojbcjgiabaa
