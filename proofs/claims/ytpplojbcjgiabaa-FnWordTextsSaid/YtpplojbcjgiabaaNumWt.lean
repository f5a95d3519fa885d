/- Plain arithmetic without Go: texts of words, as lists of bytes. -/
import Derived.Test.YtpplojbcjgiabaaNumWe
namespace Go.Proofs.Ytpplojbcjgiabaa.Num
set_option linter.unusedVariables false

/-- The letter that a byte or a rune stands for, 0 if for none. -/
def letB (b : Int) : Int := if 97 ≤ b ∧ b ≤ 102 then b - 96 else if 65 ≤ b ∧ b ≤ 70 then 64 - b else 0
def OkL (k b : Int) : Prop := letB b ≠ 0 ∧ -k ≤ letB b ∧ letB b ≤ k
instance (k b : Int) : Decidable (OkL k b) := by unfold OkL; infer_instance
def lets (L : List Int) : List Int := L.map letB
def okT (k : Int) (L : List Int) : Bool := decide (∀ b ∈ L, OkL k b)
theorem letB_small {b : Int} (h : 97 ≤ b ∧ b ≤ 102) : letB b = b - 96 := if_pos h
theorem letB_large {b : Int} (h : 65 ≤ b ∧ b ≤ 70) : letB b = 64 - b := by unfold letB; rw [if_neg (by omega), if_pos h]
theorem letB_none {b : Int} (h1 : ¬ (97 ≤ b ∧ b ≤ 102)) (h2 : ¬ (65 ≤ b ∧ b ≤ 70)) : letB b = 0 := by unfold letB; rw [if_neg h1, if_neg h2]
theorem letB_high {b : Int} (h : 128 ≤ b) : letB b = 0 := letB_none (by omega) (by omega)
theorem letB_bd (b : Int) : -6 ≤ letB b ∧ letB b ≤ 6 := by
  unfold letB
  by_cases h1 : 97 ≤ b ∧ b ≤ 102
  · rw [if_pos h1]; omega
  · rw [if_neg h1]
    by_cases h2 : 65 ≤ b ∧ b ≤ 70
    · rw [if_pos h2]; omega
    · rw [if_neg h2]; omega
/-- The model's two tests. -/
theorem okL_small {k b : Int} (hk : 0 ≤ k ∧ k ≤ 6) (h : 1 ≤ b - 96 ∧ b - 96 ≤ k) : OkL k b ∧ letB b = b - 96 := by
  have e := letB_small (b := b) (by omega)
  refine ⟨?_, e⟩
  unfold OkL
  rw [e]; omega
theorem okL_large {k b : Int} (hk : 0 ≤ k ∧ k ≤ 6) (h : 1 ≤ b - 64 ∧ b - 64 ≤ k) : OkL k b ∧ letB b = -(b - 64) := by
  have e := letB_large (b := b) (by omega)
  refine ⟨?_, by omega⟩
  unfold OkL
  rw [e]; omega
theorem okL_none {k b : Int} (hk : 0 ≤ k ∧ k ≤ 6) (h1 : ¬ (1 ≤ b - 96 ∧ b - 96 ≤ k)) (h2 : ¬ (1 ≤ b - 64 ∧ b - 64 ≤ k)) : ¬ OkL k b := by
  intro h
  unfold OkL at h
  by_cases g1 : 97 ≤ b ∧ b ≤ 102
  · rw [letB_small g1] at h; omega
  · by_cases g2 : 65 ≤ b ∧ b ≤ 70
    · rw [letB_large g2] at h; omega
    · rw [letB_none g1 g2] at h; exact h.1 rfl
theorem okL_ascii {k b : Int} (h : OkL k b) : b < 128 := by
  by_cases h1 : b < 128
  · exact h1
  · exact absurd (letB_high (b := b) (by omega)) h.1
theorem lets_take (L : List Int) (j : Nat) (h : j < L.length) : lets (L.take (j + 1)) = lets (L.take j) ++ [letB (L.getD j 0)] := by
  rw [takeW_snoc L j h]; simp [lets]
theorem okT_bad {k : Int} {L : List Int} {j : Nat} (hj : j < L.length) (h : ¬ OkL k (L.getD j 0)) : okT k L = false := decide_eq_false fun hh => h (by
  rw [List.getD_eq_getElem?_getD, List.getElem?_eq_getElem hj]
  exact hh _ (List.getElem_mem hj))
theorem okT_yes {k : Int} {L : List Int} (h : ∀ j, j < L.length → OkL k (L.getD j 0)) : okT k L = true := decide_eq_true fun b hb => by
  obtain ⟨j, hj, rfl⟩ := List.mem_iff_getElem.mp hb
  have := h j hj
  rwa [List.getD_eq_getElem?_getD, List.getElem?_eq_getElem hj] at this
end Go.Proofs.Ytpplojbcjgiabaa.Num
namespace Go.Proofs.Ytpplojbcjgiabaa
open Num
/-- What follows the tests on the text itself. -/
def tailC (k : Int) (L : List Int) : Int := if okT k L = true then (if 64 < L.length then 3 else 0) else 6
def tailR (k : Int) (L : List Int) : List Int := if okT k L = true then (if 64 < L.length then [] else lets L) else []
def cParseWord (k : Int) (L : List Int) : Int := if 0 ≤ k ∧ k ≤ 6 then (if L = [49] then 0 else if L = [] then 6 else tailC k L) else 2
def rParseWord (k : Int) (L : List Int) : List Int := if 0 ≤ k ∧ k ≤ 6 then (if L = [49] then [] else if L = [] then [] else tailR k L) else []
end Go.Proofs.Ytpplojbcjgiabaa
