/- Vectors and matrices as lists: what makes them valid. -/
import Derived.Test.YtggkoihlmijacaaNumA
namespace Go.Proofs.Ytggkoihlmijacaa.Num
set_option linter.unusedVariables false

/-- A vector over p of length n. -/
def vecB (p n : Int) (xs : List Int) : Bool := decide ((xs.length : Int) = n) && xs.all fun x => decide (0 ≤ x ∧ x < p)
def matB (P C : Int) (xss : List (List Int)) : Bool := gp P && decide (0 ≤ C ∧ C ≤ 8) && decide (xss.length ≤ 8) && xss.all (vecB P C)
theorem all_get {α : Type} {f : α → Bool} {l : List α} (h : l.all f = true) {i : Nat} (hi : i < l.length) : f l[i] = true := by
  rw [List.all_eq_true] at h
  exact h _ (List.getElem_mem hi)
theorem vecB_len {p n : Int} {xs : List Int} (h : ¬ ((xs.length : Int) = n)) : vecB p n xs = false := by simp [vecB, h]
theorem vecB_bad {p n : Int} {xs : List Int} {k : Nat} (hk : k < xs.length) (h : ¬ (0 ≤ xs.getD k 0 ∧ xs.getD k 0 < p)) : vecB p n xs = false := by
  cases hv : vecB p n xs with
  | false => rfl
  | true =>
    exfalso
    simp only [vecB, Bool.and_eq_true] at hv
    have := all_get hv.2 hk
    simp at this
    apply h
    simpa [hk] using this
theorem vecB_ok {p n : Int} {xs : List Int} (h0 : (xs.length : Int) = n) (h : ∀ k, k < xs.length → 0 ≤ xs.getD k 0 ∧ xs.getD k 0 < p) : vecB p n xs = true := by
  simp only [vecB, Bool.and_eq_true, List.all_eq_true, decide_eq_true_eq]
  refine ⟨h0, fun x hx => ?_⟩
  obtain ⟨k, hk, rfl⟩ := List.mem_iff_getElem.mp hx
  simpa [hk] using h k hk
theorem vecB_out {p n : Int} {xs : List Int} (h : vecB p n xs = true) : (xs.length : Int) = n ∧ ∀ k, k < xs.length → 0 ≤ xs.getD k 0 ∧ xs.getD k 0 < p := by
  simp only [vecB, Bool.and_eq_true, decide_eq_true_eq] at h
  refine ⟨h.1, fun k hk => ?_⟩
  have := all_get h.2 hk
  simp at this
  simpa [hk] using this
theorem matB_bad {P C : Int} {xss : List (List Int)} {k : Nat} (hk : k < xss.length) (h : vecB P C (xss.getD k []) = false) : matB P C xss = false := by
  cases hv : matB P C xss with
  | false => rfl
  | true =>
    exfalso
    simp only [matB, Bool.and_eq_true] at hv
    have := all_get hv.2 hk
    simp [hk] at h
    simp [h] at this
theorem matB_ok {P C : Int} {xss : List (List Int)} (h0 : gp P = true) (h1 : 0 ≤ C) (h2 : C ≤ 8) (h3 : xss.length ≤ 8) (h : ∀ k, k < xss.length → vecB P C (xss.getD k []) = true) : matB P C xss = true := by
  simp only [matB, Bool.and_eq_true, List.all_eq_true, decide_eq_true_eq]
  refine ⟨⟨⟨h0, h1, h2⟩, h3⟩, fun x hx => ?_⟩
  obtain ⟨k, hk, rfl⟩ := List.mem_iff_getElem.mp hx
  simpa [hk] using h k hk
theorem matB_out {P C : Int} {xss : List (List Int)} (h : matB P C xss = true) : gp P = true ∧ 0 ≤ C ∧ C ≤ 8 ∧ xss.length ≤ 8 ∧ ∀ k, k < xss.length → vecB P C (xss.getD k []) = true := by
  simp only [matB, Bool.and_eq_true, decide_eq_true_eq] at h
  obtain ⟨⟨⟨h0, h1⟩, h2⟩, h3⟩ := h
  refine ⟨h0, h1.1, h1.2, h2, fun k hk => ?_⟩
  have := all_get h3 hk
  simpa [hk] using this
theorem matB_no1 {P C : Int} {xss : List (List Int)} (h : gp P = false) : matB P C xss = false := by simp [matB, h]
theorem matB_no2 {P C : Int} {xss : List (List Int)} (h : ¬ (0 ≤ C ∧ C ≤ 8)) : matB P C xss = false := by simp [matB, h]
theorem matB_no3 {P C : Int} {xss : List (List Int)} (h : 8 < xss.length) : matB P C xss = false := by
  have : ¬ xss.length ≤ 8 := by omega
  simp [matB, this]
/-- How a matrix fails. -/
theorem matB_cases (P C : Int) (xss : List (List Int)) : gp P = false ∨ (gp P = true ∧ ¬ (0 ≤ C ∧ C ≤ 8)) ∨ (gp P = true ∧ 0 ≤ C ∧ C ≤ 8 ∧ 8 < xss.length) ∨ (gp P = true ∧ 0 ≤ C ∧ C ≤ 8 ∧ xss.length ≤ 8) := by
  cases gp P <;> by_cases h1 : 0 ≤ C <;> by_cases h2 : C ≤ 8 <;> by_cases h3 : xss.length ≤ 8 <;> simp [h1, h2, h3]
  all_goals omega
theorem gp_le {P : Int} (h : gp P = true) : 2 ≤ P ∧ P ≤ 7 := by
  simp [gp] at h; omega
end Go.Proofs.Ytggkoihlmijacaa.Num
