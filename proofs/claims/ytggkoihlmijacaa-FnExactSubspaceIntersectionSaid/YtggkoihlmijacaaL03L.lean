/- The model's TransposeMatrix. -/
import Derived.Test.YtggkoihlmijacaaL02M
import Derived.Test.YtggkoihlmijacaaL02L
import Derived.Test.YtggkoihlmijacaaL02H
import Derived.Test.YtggkoihlmijacaaKA
namespace Go.Proofs.Ytggkoihlmijacaa
open Go.RowKit
set_option linter.unusedVariables false
set_option linter.unusedSimpArgs false

theorem Num.transR_length (rows : List (List Int)) (C : Nat) : (Num.transR rows C).length = C := by simp [Num.transR]
theorem Num.colV_length (rows : List (List Int)) (j : Nat) : (Num.colV rows j).length = rows.length := by simp [Num.colV]
theorem Num.transR_get {rows : List (List Int)} {C j : Nat} (h : j < C) : (Num.transR rows C).getD j [] = Num.colV rows j := by
  unfold Num.transR
  rw [List.getD_eq_getElem?_getD, List.getElem?_map, List.getElem?_range h]
  rfl
theorem Num.transR_take {rows : List (List Int)} {C j : Nat} (h : j < C) : (Num.transR rows C).take (j + 1) = (Num.transR rows C).take j ++ [Num.colV rows j] := by
  rw [Num.take_snoc _ [] (by rw [Num.transR_length]; exact h), Num.transR_get h]
theorem Num.colV_take {rows : List (List Int)} {i j : Nat} (h : i < rows.length) : (Num.colV rows j).take (i + 1) = (Num.colV rows j).take i ++ [(rows.getD i []).getD j 0] := by
  rw [Num.take_snoc _ 0 (by rw [Num.colV_length]; exact h)]
  congr 2
  unfold Num.colV
  rw [List.getD_eq_getElem?_getD, List.getElem?_map, List.getElem?_eq_getElem h]
  simp [List.getD_eq_getElem?_getD, h]
theorem Num.transR_len {rows : List (List Int)} {C : Nat} : ∀ i, i < (Num.transR rows C).length → ((Num.transR rows C).getD i []).length = rows.length := fun i hi => by
  rw [Num.transR_get (by rw [Num.transR_length] at hi; exact hi), Num.colV_length]
end Go.Proofs.Ytggkoihlmijacaa
