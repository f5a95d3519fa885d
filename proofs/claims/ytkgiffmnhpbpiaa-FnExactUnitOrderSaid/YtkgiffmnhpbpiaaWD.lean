/- The walk of the exact law of UnitOrder. -/
import Derived.Test.YtkgiffmnhpbpiaaL01H
namespace Go.Proofs.Ytkgiffmnhpbpiaa
open Go.RowKit
set_option linter.unusedVariables false
set_option linter.unusedSimpArgs false

theorem fnExactUnitOrder_walk (a0 a1 : Int) (w : World) (w0 : (Lit.int .i64 a0).wf = true) (w1 : (Lit.int .i64 a1).wf = true) :
    Calls Try.prog 10 #[.int .i64 a0, .int .i64 a1] w fun e w' => e = .returned (.bool true) ∧ Below w.heap.size w w' := by
  clear w0 w1
  by_cases h : a1 < 1 ∨ 1000000 < a1
  · have H := Lib.hid h
    clear h
    go_enter Try.func10, Try.ntmps10
    go_wp2_with (first | (go_at_call 32; refine (sUnitOrder_bad _ _ _ H.out).mono ?_; rintro e w' ⟨rfl, rfl⟩) | (go_at_call 24; refine (unitOrder_bad _ _ _ H.out).mono ?_; rintro e w' ⟨rfl, rfl⟩))
    go_ret
    exact ⟨rfl, Below.refl _ _⟩
  · have m1 : 1 ≤ a1 := by omega
    have m2 : a1 ≤ 1000000 := by omega
    clear h
    by_cases hg : Int.gcd (a0 % a1) a1 = 1
    · have H := Lib.hid hg
      clear hg
      go_enter Try.func10, Try.ntmps10
      go_wp2_with (first | (go_at_call 32; refine (sUnitOrder_ok _ _ _ m1 m2 H.out).mono ?_; rintro e wx ⟨rfl, hx⟩) | (go_at_call 24; refine (unitOrder_ok _ _ _ m1 m2 H.out).mono ?_; rintro e w' ⟨rfl, hb⟩))
      go_ret
      exact ⟨rfl, hx.trans (hb.mono hx.size)⟩
    · have H := Lib.hid hg
      clear hg
      go_enter Try.func10, Try.ntmps10
      go_wp2_with (first | (go_at_call 32; refine (sUnitOrder_none _ _ _ m1 m2 H.out).mono ?_; rintro e w' ⟨rfl, rfl⟩) | (go_at_call 24; refine (unitOrder_none _ _ _ m1 m2 H.out).mono ?_; rintro e w' ⟨rfl, hb⟩))
      go_ret
      exact ⟨rfl, hb⟩
end Go.Proofs.Ytkgiffmnhpbpiaa
