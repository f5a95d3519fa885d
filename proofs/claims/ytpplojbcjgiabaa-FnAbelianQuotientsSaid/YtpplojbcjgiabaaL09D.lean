/- FromPrimary of the program. -/
import Derived.Test.YtpplojbcjgiabaaL09C
import Derived.Test.YtpplojbcjgiabaaL07J
import Derived.Test.YtpplojbcjgiabaaL01G
namespace Go.Proofs.Ytpplojbcjgiabaa
open Go.RowKit
set_option linter.unusedVariables false
set_option linter.unusedSimpArgs false

/-- A power of a prime within the limits. -/
def Num.ppB (z : Int) : Bool := decide (2 ≤ z ∧ z ≤ 1000000 ∧ Num.baseN z ≠ 0)
def Num.ppsB (x : List Int) : Bool := decide (∀ z ∈ x, Num.ppB z = true)
def cFromPrimary (x : List Int) : Int := if Num.ppsB x = true then (if 100 < x.length then 3 else cDir x) else 2
def rFromPrimary (x : List Int) : Ab := if Num.ppsB x = true then (if 100 < x.length then ⟨[], 0⟩ else rDir x) else ⟨[], 0⟩
theorem fromP_bad {x : List Int} {j : Nat} (hj : j < x.length) (h : Num.ppB (x.getD j 0) = false) : rFromPrimary x = ⟨[], 0⟩ ∧ cFromPrimary x = 2 := by
  have : Num.ppsB x = false := decide_eq_false fun hh => by
    have := hh (x.getD j 0) (by rw [List.getD_eq_getElem?_getD, List.getElem?_eq_getElem hj]; exact List.getElem_mem hj)
    rw [h] at this; cases this
  unfold rFromPrimary cFromPrimary
  simp [this]
theorem fromP_long {x : List Int} (h : Num.ppsB x = true) (hl : 100 < x.length) : rFromPrimary x = ⟨[], 0⟩ ∧ cFromPrimary x = 3 := by
  unfold rFromPrimary cFromPrimary
  rw [if_pos h, if_pos h, if_pos hl, if_pos hl]
  exact ⟨rfl, rfl⟩
theorem fromP_good {x : List Int} (h : Num.ppsB x = true) (hl : ¬ 100 < x.length) : rFromPrimary x = rDir x ∧ cFromPrimary x = cDir x := by
  unfold rFromPrimary cFromPrimary
  rw [if_pos h, if_pos h, if_neg hl, if_neg hl]
  exact ⟨rfl, rfl⟩
theorem ppB_bd {z : Int} (h : Num.ppB z = true) : 2 ≤ z ∧ z ≤ 1000000 := by
  have := of_decide_eq_true h
  exact ⟨this.1, this.2.1⟩
theorem ppsB_at {x : List Int} (h : ∀ j, j < x.length → Num.ppB (x.getD j 0) = true) : Num.ppsB x = true := decide_eq_true (Num.mem_at h)
/-- The zero group, in memory of nobody. -/
theorem MadeC.zero {w w' : World} {c : Int} (hb : Below w.heap.size w w') : MadeC spAb ⟨[], 0⟩ c w (.returned (.tuple #[.agg #[.slice none 0 0, .int .i64 0], .int .i64 c])) w' :=
  ⟨_, (fun k => (Value.slice none 0 0).ownBlock = some k), rfl, ⟨.slice none 0 0, _, rfl, spI_of (World.ownsRow_nil _ 0 _ _ : OwnI _ 0 (.slice none 0 0) []), fun k hk => hk, fun k hk => (by cases hk)⟩, (fun k hk => (by cases hk)), (by show 0 ≤ _; omega), hb⟩
end Go.Proofs.Ytpplojbcjgiabaa
