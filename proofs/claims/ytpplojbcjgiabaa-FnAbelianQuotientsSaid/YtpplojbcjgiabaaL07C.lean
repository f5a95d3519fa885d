/- AbelianOrder and ExponentOf of the program and of the model. -/
import Derived.Test.YtpplojbcjgiabaaL07B
namespace Go.Proofs.Ytpplojbcjgiabaa
open Go.RowKit
set_option linter.unusedVariables false
set_option linter.unusedSimpArgs false

theorem Ab.ok_out {x : Ab} (h : x.ok = true) : x.F.length ≤ 10 ∧ 0 ≤ x.K ∧ x.K ≤ 10 - (x.F.length : Int) ∧ (∀ j, j < x.F.length → Num.Rng x.F j) ∧ Num.chainB x.F = true := Num.abB_out h
theorem Ab.ok_pos {x : Ab} (h : x.ok = true) : ∀ j, j < x.F.length → 1 ≤ x.F.getD j 0 := fun j hj => by have := ((Ab.ok_out h).2.2.2.1 j hj).1; omega
def rAbelianOrder (x : Ab) : Int := if x.ok = true then (if 0 < x.K then 0 else Num.cnt x.F) else 0
def cAbelianOrder (x : Ab) : Int := if x.ok = true then (if 0 < x.K then 0 else Num.cntC x.F) else 1
theorem Ab.order_bad {x : Ab} (h : x.ok = false) : rAbelianOrder x = 0 ∧ cAbelianOrder x = 1 := by unfold rAbelianOrder cAbelianOrder; simp [h]
theorem Ab.order_inf {x : Ab} (h : x.ok = true) (h' : 0 < x.K) : rAbelianOrder x = 0 ∧ cAbelianOrder x = 0 := by unfold rAbelianOrder cAbelianOrder; simp [h, h']
theorem Ab.order_fin {x : Ab} (h : x.ok = true) (h' : ¬ 0 < x.K) : rAbelianOrder x = Num.cnt x.F ∧ cAbelianOrder x = Num.cntC x.F := by unfold rAbelianOrder cAbelianOrder; rw [if_pos h, if_pos h, if_neg h', if_neg h']; exact ⟨rfl, rfl⟩
def rExponentOf (x : Ab) : Int := if x.ok = true then (if 0 < x.K then 0 else Num.lastF x.F) else 0
def cExponentOf (x : Ab) : Int := if x.ok = true then 0 else 1
theorem Ab.expo_bad {x : Ab} (h : x.ok = false) : rExponentOf x = 0 ∧ cExponentOf x = 1 := by unfold rExponentOf cExponentOf; simp [h]
theorem Ab.expo_inf {x : Ab} (h : x.ok = true) (h' : 0 < x.K) : rExponentOf x = 0 ∧ cExponentOf x = 0 := by unfold rExponentOf cExponentOf; simp [h, h']
theorem Ab.expo_fin {x : Ab} (h : x.ok = true) (h' : ¬ 0 < x.K) : rExponentOf x = Num.lastF x.F ∧ cExponentOf x = 0 := by unfold rExponentOf cExponentOf; rw [if_pos h, if_pos h, if_neg h']; exact ⟨rfl, rfl⟩
end Go.Proofs.Ytpplojbcjgiabaa
