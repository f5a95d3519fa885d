/- The model's LeftKernel. -/
import Derived.Test.YtggkoihlmijacaaL03D
import Derived.Test.YtggkoihlmijacaaL02M
namespace Go.Proofs.Ytggkoihlmijacaa
open Go.RowKit
set_option linter.unusedVariables false
set_option linter.unusedSimpArgs false

theorem nullR_len {p : Int} {C : Nat} {rows : List (List Int)} (hp : Num.gp p = true) (h : ∀ i, i < rows.length → Num.Vec p C (rows.getD i [])) : ∀ i, i < (Num.nullR p rows C).length → ((Num.nullR p rows C).getD i []).length = rows.length := fun i hi => by
  have E := Num.wide_ech hp h
  unfold Num.nullR at hi ⊢
  have hi' : i < ((Num.wideE p rows).drop (Num.place (Num.wideE p rows) C)).length := by simpa using hi
  have hi2 : Num.place (Num.wideE p rows) C + i < (Num.wideE p rows).length := by simp at hi'; omega
  have e : ((Num.wideE p rows).drop (Num.place (Num.wideE p rows) C)).getD i [] = (Num.wideE p rows).getD (Num.place (Num.wideE p rows) C + i) [] := by simp [List.getD_eq_getElem?_getD, List.getElem?_drop]
  rw [Num.map_getD hi', e, List.length_drop, (E.vec _ hi2).len]
  omega
theorem sNull_at (p C' : Int) (rv : Value) (rows : List (List Int)) (C : Nat) (w : World) (hr : spII.rd w rv rows) (hgp : Num.gp p = true) (hrv : ∀ i, i < rows.length → Num.Vec p C (rows.getD i [])) (hC : C ≤ 100) (hrl : rows.length ≤ 100) (e : C' = (C : Int)) :
    Calls Try.prog 69 #[.int .i64 p, rv, .int .i64 C'] w (Made spII (Num.nullR p rows C) w) := by
  subst e
  exact sNull_any p rv rows C w hr hgp hrv hC hrl
end Go.Proofs.Ytggkoihlmijacaa
