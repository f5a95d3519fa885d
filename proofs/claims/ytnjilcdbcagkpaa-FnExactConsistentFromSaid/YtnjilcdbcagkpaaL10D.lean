/- Words: slices.Equal at whole numbers, ReduceWord, IsReducedWord. -/
import Derived.Test.YtnjilcdbcagkpaaL10C
namespace Go.Proofs.Ytnjilcdbcagkpaa
open Go.RowKit
set_option linter.unusedVariables false
set_option linter.unusedSimpArgs false

theorem Num.extW {xs ys : List Int} (hl : xs.length = ys.length) (h : ∀ i, i < xs.length → xs.getD i 0 = ys.getD i 0) : xs = ys := by
  refine List.ext_getElem hl fun i h1 h2 => ?_
  have := h i h1
  rwa [List.getD_eq_getElem?_getD, List.getD_eq_getElem?_getD, List.getElem?_eq_getElem h1, List.getElem?_eq_getElem h2] at this
theorem word_bd {k : Int} {x : List Int} (h : Num.codeW k [x] = 0) : x.length ≤ 64 ∧ Num.SmallW x := by
  obtain ⟨h1, h2⟩ := Num.codeW_zero h
  have := h2 x (by simp)
  exact ⟨(Num.isWB_iff.mp this).1, Num.isWB_small h1.2 this⟩
theorem one_bd {x : List Int} (h : x.length ≤ 64) : ∀ i, i < [x].length → ([x].getD i []).length ≤ 64 := by
  intro i hi; match i, hi with
  | 0, _ => exact h
  | i + 1, hi => simp at hi
theorem one_sm {x : List Int} (h : Num.SmallW x) : ∀ i, i < [x].length → Num.SmallW ([x].getD i []) := by
  intro i hi; match i, hi with
  | 0, _ => exact h
  | i + 1, hi => simp at hi
end Go.Proofs.Ytnjilcdbcagkpaa
