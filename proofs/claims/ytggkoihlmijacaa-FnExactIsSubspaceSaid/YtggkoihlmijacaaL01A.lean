/- Contracts of the plain functions of chapter 1: what each call returns, in any world; those that return numbers or bools leave the world as it is. -/
import Derived.Test.YtggkoihlmijacaaRows
import Derived.Test.YtggkoihlmijacaaNumA
import Derived.WalkKit
import Derived.WalkSpells
import Derived.WalkLawsBesides
namespace Go.Proofs.Ytggkoihlmijacaa
open Go.RowKit
set_option linter.unusedVariables false
set_option linter.unusedSimpArgs false

theorem ret_int {k : IntKind} {a b : Int} (h : a = b) : Ending.returned (.int k a) = .returned (.int k b) := by rw [h]

theorem ret_int2 {k l : IntKind} {a b c d : Int} (h : a = b) (h' : c = d) : Ending.returned (.tuple #[.int k a, .int l c]) = .returned (.tuple #[.int k b, .int l d]) := by rw [h, h']
/-! ### impl -/
theorem gp_any (n : Int) (w : World) :
    Calls Try.prog 102 #[.int .i64 n] w fun e w' => e = .returned (.bool (Num.gp n)) ∧ w = w' := by
  by_cases h2 : n = 2
  · subst h2; go_enter Try.func102, Try.ntmps102; go_wp2; go_ret; exact ⟨rfl, rfl⟩
  by_cases h3 : n = 3
  · subst h3; go_enter Try.func102, Try.ntmps102; go_wp2; go_ret; exact ⟨rfl, rfl⟩
  by_cases h5 : n = 5
  · subst h5; go_enter Try.func102, Try.ntmps102; go_wp2; go_ret; exact ⟨rfl, rfl⟩
  by_cases h7 : n = 7
  · subst h7; go_enter Try.func102, Try.ntmps102; go_wp2; go_ret; exact ⟨rfl, rfl⟩
  rw [Num.gp_mk' h2 h3 h5 h7]
  have e2 : (n == 2) = false := by simpa using h2
  have e3 : (n == 3) = false := by simpa using h3
  have e5 : (n == 5) = false := by simpa using h5
  have e7 : (n == 7) = false := by simpa using h7
  clear h2 h3 h5 h7
  go_enter Try.func102, Try.ntmps102
  go_wp2
  go_ret
  exact ⟨rfl, rfl⟩
theorem gp_yes (n : Int) (w : World) (h : Num.gp n = true) :
    Calls Try.prog 102 #[.int .i64 n] w fun e w' => e = .returned (.bool true) ∧ w = w' := by
  have := gp_any n w; rwa [h] at this
theorem gp_no (n : Int) (w : World) (h : Num.gp n = false) :
    Calls Try.prog 102 #[.int .i64 n] w fun e w' => e = .returned (.bool false) ∧ w = w' := by
  have := gp_any n w; rwa [h] at this
theorem residueOf_any (a m : Int) (w : World) (h1 : 1 ≤ m) (h2 : m ≤ 1000000) :
    Calls Try.prog 86 #[.int .i64 a, .int .i64 m] w fun e w' => e = .returned (.agg #[.int .i64 (a % m), .int .i64 m]) ∧ Below w.heap.size w w' := by
  have ⟨b1, b2⟩ := Num.mod_bd a (m := m) (by omega)
  by_cases h : 0 ≤ a
  · go_enter Try.func86, Try.ntmps86
    go_wp2
    refine bodyPost_ret (v := .agg #[.int .i64 (a % m), .int .i64 m]) (by simp [results, Try.results86, go_sem]) rfl ⟨rfl, ?_⟩
    exact (Below.refl _ _).alloc (Nat.le_refl _) _
  · have ⟨b3, b4⟩ := Num.tmod_bd a (m := m) (by omega)
    by_cases h' : a.tmod m < 0
    · rw [Num.tmod_neg (by omega) h'] at *
      go_enter Try.func86, Try.ntmps86
      go_wp2
      refine bodyPost_ret (v := .agg #[.int .i64 (a.tmod m + m), .int .i64 m]) (by simp [results, Try.results86, go_sem]) rfl ⟨rfl, ?_⟩
      exact (Below.refl _ _).alloc (Nat.le_refl _) _
    · rw [Num.tmod_pos (by omega) (by omega)] at *
      go_enter Try.func86, Try.ntmps86
      go_wp2
      refine bodyPost_ret (v := .agg #[.int .i64 (a.tmod m), .int .i64 m]) (by simp [results, Try.results86, go_sem]) rfl ⟨rfl, ?_⟩
      exact (Below.refl _ _).alloc (Nat.le_refl _) _
end Go.Proofs.Ytggkoihlmijacaa
