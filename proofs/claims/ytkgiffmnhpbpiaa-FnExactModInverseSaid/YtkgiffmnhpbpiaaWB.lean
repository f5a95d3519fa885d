/- The walks of the laws of chapter 1 that compare numbers with the model's: PrimePart, ModPower, ModInverse, Bezout, RationalMod. -/
import Derived.Test.YtkgiffmnhpbpiaaL01F
namespace Go.Proofs.Ytkgiffmnhpbpiaa
open Go.RowKit
set_option linter.unusedVariables false
set_option linter.unusedSimpArgs false

theorem fnExactPrimePart_walk (a0 a1 : Int) (w : World) (w0 : (Lit.int .i64 a0).wf = true) (w1 : (Lit.int .i64 a1).wf = true) :
    Calls Try.prog 7 #[.int .i64 a0, .int .i64 a1] w fun e w' => e = .returned (.bool true) ∧ Below w.heap.size w w' := by
  clear w0 w1
  by_cases h : (a0 < 1 ∨ 1000000 < a0) ∨ Num.gp a1 = false
  · have H := Lib.hid h
    clear h
    go_enter Try.func7, Try.ntmps7
    go_wp2_with (first | (go_at_call 30; refine (sPrimePart_bad _ _ _ H.out).mono ?_; rintro e w' ⟨rfl, rfl⟩) | (go_at_call 19; refine (primePart_bad _ _ _ H.out).mono ?_; rintro e w' ⟨rfl, rfl⟩))
    go_ret
    exact ⟨rfl, Below.refl _ _⟩
  · have n1 : 1 ≤ a0 := by omega
    have n2 : a0 ≤ 1000000 := by omega
    have HP : Hid (Num.gp a1 = true) := Lib.hid (by cases hh : Num.gp a1 <;> simp_all)
    clear h
    go_enter Try.func7, Try.ntmps7
    go_wp2_with (first | (go_at_call 30; refine (sPrimePart_ok _ _ _ n1 n2 HP.out).mono ?_; rintro e w' ⟨rfl, rfl⟩) | (go_at_call 19; refine (primePart_ok _ _ _ n1 n2 HP.out).mono ?_; rintro e w' ⟨rfl, rfl⟩))
    go_ret
    exact ⟨rfl, Below.refl _ _⟩
theorem fnExactModPower_walk (a0 a1 a2 : Int) (w : World) (w0 : (Lit.int .i64 a0).wf = true) (w1 : (Lit.int .i64 a1).wf = true) (w2 : (Lit.int .i64 a2).wf = true) :
    Calls Try.prog 8 #[.int .i64 a0, .int .i64 a1, .int .i64 a2] w fun e w' => e = .returned (.bool true) ∧ Below w.heap.size w w' := by
  clear w0 w1 w2
  by_cases h : MpBad a1 a2
  · go_enter Try.func8, Try.ntmps8
    go_wp2_with (first | (go_at_call 31; refine (sModPower_bad _ _ _ _ h).mono ?_; rintro e w' ⟨rfl, rfl⟩) | (go_at_call 18; refine (modPower_bad _ _ _ _ h).mono ?_; rintro e w' ⟨rfl, rfl⟩))
    go_ret
    exact ⟨rfl, Below.refl _ _⟩
  · unfold MpBad at h
    have m1 : 1 ≤ a2 := by omega
    have m2 : a2 ≤ 1000000 := by omega
    have n1 : 0 ≤ a1 := by omega
    have n2 : a1 ≤ 1000000 := by omega
    clear h
    go_enter Try.func8, Try.ntmps8
    go_wp2_with (first | (go_at_call 31; refine (sModPower_ok _ _ _ _ m1 m2 n1 n2).mono ?_; rintro e w' ⟨rfl, rfl⟩) | (go_at_call 18; refine (modPower_ok _ _ _ _ m1 m2 n1 n2).mono ?_; rintro e w' ⟨rfl, hb⟩))
    go_ret
    exact ⟨rfl, hb⟩
theorem fnExactModInverse_walk (a0 a1 : Int) (w : World) (w0 : (Lit.int .i64 a0).wf = true) (w1 : (Lit.int .i64 a1).wf = true) :
    Calls Try.prog 9 #[.int .i64 a0, .int .i64 a1] w fun e w' => e = .returned (.bool true) ∧ Below w.heap.size w w' := by
  clear w0 w1
  by_cases h : a1 < 1 ∨ 1000000 < a1
  · have H := Lib.hid h
    clear h
    go_enter Try.func9, Try.ntmps9
    go_wp2_with (first | (go_at_call 23; refine (sModInverse_bad _ _ _ H.out).mono ?_; rintro e w' ⟨rfl, rfl⟩) | (go_at_call 22; refine (modInverse_bad _ _ _ H.out).mono ?_; rintro e w' ⟨rfl, rfl⟩))
    go_ret
    exact ⟨rfl, Below.refl _ _⟩
  · have m1 : 1 ≤ a1 := by omega
    have m2 : a1 ≤ 1000000 := by omega
    clear h
    by_cases hg : Int.gcd (a0 % a1) a1 = 1
    · have H := Lib.hid hg
      clear hg
      go_enter Try.func9, Try.ntmps9
      go_wp2_with (first | (go_at_call 23; refine (sModInverse_ok _ _ _ m1 m2 H.out).mono ?_; rintro e w' ⟨rfl, rfl⟩) | (go_at_call 22; refine (modInverse_ok _ _ _ m1 m2 H.out).mono ?_; rintro e w' ⟨rfl, hb⟩))
      go_ret
      exact ⟨rfl, hb⟩
    · have H := Lib.hid hg
      clear hg
      go_enter Try.func9, Try.ntmps9
      go_wp2_with (first | (go_at_call 23; refine (sModInverse_none _ _ _ m1 m2 H.out).mono ?_; rintro e w' ⟨rfl, rfl⟩) | (go_at_call 22; refine (modInverse_none _ _ _ m1 m2 H.out).mono ?_; rintro e w' ⟨rfl, hb⟩))
      go_ret
      exact ⟨rfl, hb⟩
theorem fnExactBezout_walk (a0 a1 : Int) (w : World) (w0 : (Lit.int .i64 a0).wf = true) (w1 : (Lit.int .i64 a1).wf = true) :
    Calls Try.prog 11 #[.int .i64 a0, .int .i64 a1] w fun e w' => e = .returned (.bool true) ∧ Below w.heap.size w w' := by
  clear w0 w1
  by_cases h : BzBad a0 a1
  · go_enter Try.func11, Try.ntmps11
    go_wp2_with (first | (go_at_call 33; refine (sBezoutF_bad _ _ _ h).mono ?_; rintro e w' ⟨rfl, rfl⟩) | (go_at_call 25; refine (bezout_bad _ _ _ h).mono ?_; rintro e w' ⟨rfl, rfl⟩))
    go_ret
    exact ⟨rfl, Below.refl _ _⟩
  · unfold BzBad at h
    have m1 : -1000000 ≤ a0 := by omega
    have m2 : a0 ≤ 1000000 := by omega
    have n1 : -1000000 ≤ a1 := by omega
    have n2 : a1 ≤ 1000000 := by omega
    clear h
    by_cases hb : a1 = 0
    · subst hb
      go_enter Try.func11, Try.ntmps11
      go_wp2_with (first | (go_at_call 33; refine (sBezoutF_zero _ _ m1 m2).mono ?_; rintro e w' ⟨rfl, rfl⟩) | (go_at_call 25; refine (bezout_zero _ _ m1 m2).mono ?_; rintro e w' ⟨rfl, hb⟩))
      go_ret
      exact ⟨rfl, hb⟩
    · have H := Lib.hid hb
      clear hb
      go_enter Try.func11, Try.ntmps11
      go_wp2_with (first | (go_at_call 33; refine (sBezoutF_ok _ _ _ m1 m2 n1 n2 H.out).mono ?_; rintro e w1 ⟨rfl, hb1⟩) | (go_at_call 25; refine (bezout_ok _ _ _ m1 m2 n1 n2 H.out).mono ?_; rintro e w2 ⟨rfl, hb2⟩))
      go_ret
      exact ⟨rfl, hb1.trans (hb2.mono hb1.size)⟩
theorem fnExactRationalMod_walk (a0 a1 a2 : Int) (w : World) (w0 : (Lit.int .i64 a0).wf = true) (w1 : (Lit.int .i64 a1).wf = true) (w2 : (Lit.int .i64 a2).wf = true) :
    Calls Try.prog 12 #[.int .i64 a0, .int .i64 a1, .int .i64 a2] w fun e w' => e = .returned (.bool true) ∧ Below w.heap.size w w' := by
  clear w0 w1 w2
  by_cases h : RmBad a0 a1 a2
  · go_enter Try.func12, Try.ntmps12
    go_wp2_with (first | (go_at_call 34; refine (sRational_bad _ _ _ _ h).mono ?_; rintro e w' ⟨rfl, rfl⟩) | (go_at_call 35; refine (rational_bad _ _ _ _ h).mono ?_; rintro e w' ⟨rfl, rfl⟩))
    go_ret
    exact ⟨rfl, Below.refl _ _⟩
  · unfold RmBad at h
    have m1 : -1000000 ≤ a0 := by omega
    have m2 : a0 ≤ 1000000 := by omega
    have n1 : -1000000 ≤ a1 := by omega
    have n2 : a1 ≤ 1000000 := by omega
    have HP : Hid (Num.gp a2 = true) := Lib.hid (by cases hh : Num.gp a2 <;> simp_all)
    clear h
    by_cases h0 : a1 % a2 = 0
    · have H := Lib.hid h0
      clear h0
      go_enter Try.func12, Try.ntmps12
      go_wp2_with (first | (go_at_call 34; refine (sRational_none _ _ _ _ m1 m2 n1 n2 HP.out H.out).mono ?_; rintro e w' ⟨rfl, rfl⟩) | (go_at_call 35; refine (rational_none _ _ _ _ m1 m2 n1 n2 HP.out H.out).mono ?_; rintro e w' ⟨rfl, hb⟩))
      go_ret
      exact ⟨rfl, hb⟩
    · have H := Lib.hid h0
      clear h0
      go_enter Try.func12, Try.ntmps12
      go_wp2_with (first | (go_at_call 34; refine (sRational_ok _ _ _ _ m1 m2 n1 n2 HP.out H.out).mono ?_; rintro e w1 ⟨rfl, hb1⟩) | (go_at_call 35; refine (rational_ok _ _ _ _ m1 m2 n1 n2 HP.out H.out).mono ?_; rintro e w2 ⟨rfl, hb2⟩))
      go_ret
      exact ⟨rfl, hb1.trans (hb2.mono hb1.size)⟩
end Go.Proofs.Ytkgiffmnhpbpiaa
