/- Contracts of the model's functions of chapter 1 that only compute: the world stays as it is. -/
import Derived.Test.YtggkoihlmijacaaNumB
import Derived.Test.YtggkoihlmijacaaL01A
import Derived.Deep.QuietTactic
import Derived.BigQuiet
import Derived.Lib.Hide
namespace Go.Proofs.Ytggkoihlmijacaa
open Go.RowKit
set_option linter.unusedVariables false
set_option linter.unusedSimpArgs false

theorem sIn_yes (n l h : Int) (w : World) (h1 : l ≤ n) (h2 : n ≤ h) :
    Calls Try.prog 97 #[.int .i64 n, .int .i64 l, .int .i64 h] w fun e w' => e = .returned (.bool true) ∧ w = w' := by
  go_enter Try.func97, Try.ntmps97
  go_wp2
  go_ret
  exact ⟨rfl, rfl⟩
theorem sIn_no (n l h : Int) (w : World) (h1 : n < l ∨ h < n) :
    Calls Try.prog 97 #[.int .i64 n, .int .i64 l, .int .i64 h] w fun e w' => e = .returned (.bool false) ∧ w = w' := by
  by_cases h3 : l ≤ n
  · have h2 : decide (n ≤ h) = false := by simp; omega
    clear h1
    go_enter Try.func97, Try.ntmps97
    go_wp2
    go_ret
    exact ⟨rfl, rfl⟩
  · clear h1
    go_enter Try.func97, Try.ntmps97
    go_wp2
    go_ret
    exact ⟨rfl, rfl⟩
theorem sPrime_any (n : Int) (w : World) :
    Calls Try.prog 96 #[.int .i64 n] w fun e w' => e = .returned (.bool (Num.gp n)) ∧ w = w' := by
  by_cases h2 : n = 2
  · subst h2; go_enter Try.func96, Try.ntmps96; go_wp2; go_ret; exact ⟨rfl, rfl⟩
  by_cases h3 : n = 3
  · subst h3; go_enter Try.func96, Try.ntmps96; go_wp2; go_ret; exact ⟨rfl, rfl⟩
  by_cases h5 : n = 5
  · subst h5; go_enter Try.func96, Try.ntmps96; go_wp2; go_ret; exact ⟨rfl, rfl⟩
  by_cases h7 : n = 7
  · subst h7; go_enter Try.func96, Try.ntmps96; go_wp2; go_ret; exact ⟨rfl, rfl⟩
  rw [Num.gp_mk' h2 h3 h5 h7]
  have e2 : (n == 2) = false := by simpa using h2
  have e3 : (n == 3) = false := by simpa using h3
  have e5 : (n == 5) = false := by simpa using h5
  have e7 : (n == 7) = false := by simpa using h7
  clear h2 h3 h5 h7
  go_enter Try.func96, Try.ntmps96
  go_wp2
  go_ret
  exact ⟨rfl, rfl⟩
theorem sPrime_yes (n : Int) (w : World) (h : Num.gp n = true) :
    Calls Try.prog 96 #[.int .i64 n] w fun e w' => e = .returned (.bool true) ∧ w = w' := by
  have := sPrime_any n w; rwa [h] at this
theorem sPrime_no (n : Int) (w : World) (h : Num.gp n = false) :
    Calls Try.prog 96 #[.int .i64 n] w fun e w' => e = .returned (.bool false) ∧ w = w' := by
  have := sPrime_any n w; rwa [h] at this
theorem sMod_any (a m : Int) (w : World) (h1 : 1 ≤ m) (h2 : m ≤ 1000000) :
    Calls Try.prog 115 #[.int .i64 a, .int .i64 m] w fun e w' => e = .returned (.int .i64 (a % m)) ∧ w = w' := by
  have ⟨b1, b2⟩ := Num.mod_bd a (m := m) (by omega)
  by_cases h : 0 ≤ a
  · go_enter Try.func115, Try.ntmps115
    go_wp2
    go_ret
    exact ⟨rfl, rfl⟩
  · have ⟨b3, b4⟩ := Num.tmod_bd a (m := m) (by omega)
    by_cases h' : a.tmod m < 0
    · rw [Num.tmod_neg (by omega) h'] at *
      go_enter Try.func115, Try.ntmps115
      go_wp2
      go_ret
      exact ⟨rfl, rfl⟩
    · rw [Num.tmod_pos (by omega) (by omega)] at *
      go_enter Try.func115, Try.ntmps115
      go_wp2
      go_ret
      exact ⟨rfl, rfl⟩
theorem sInv_any (a p : Int) (w : World) (hp : Num.gp p = true) (h0 : a % p ≠ 0) :
    Calls Try.prog 100 #[.int .i64 a, .int .i64 p] w fun e w' => e = .returned (.int .i64 (Num.bez (a % p) p)) ∧ w = w' := by
  obtain ⟨p1, p2⟩ := Num.gp_bd hp
  obtain ⟨v0, v1⟩ := Num.mod_bd a (m := p) (by omega)
  go_enter Try.func100, Try.ntmps100
  go_wp2
  go_loop [5] (fun s5 => ∃ x : Int, s5 = .int .i64 x ∧ 1 ≤ x ∧ x ≤ p ∧ ∀ y, 1 ≤ y → y < x → a % p * y % p ≠ 1) (fun s5 => (p - intOf s5).toNat)
  case atStart => exact ⟨1, rfl, by omega, by omega, fun y h1 h2 => by omega⟩
  case round =>
    obtain ⟨x, rfl, x1, x2, hy⟩ := hrel
    have HY := Lib.hid hy
    clear hy
    by_cases hx : x = p
    · exfalso
      obtain ⟨z1, z2, z3⟩ := Num.bez_inv v0 v1 (Num.gp_gcd hp (by omega) v1)
      have : Num.bez (a % p) p ≠ 0 := by
        intro h
        rw [h] at z3
        simp at z3
        have := Int.emod_eq_of_lt (a := 1) (b := p) (by omega) (by omega)
        omega
      exact HY.out (Num.bez (a % p) p) (by omega) (by omega) (by rw [z3]; exact Int.emod_eq_of_lt (by omega) (by omega))
    · have hlt : x < p := by omega
      obtain ⟨x3, x4⟩ := Num.mul_fits v0 v1 (by omega : 0 ≤ x) hlt (by omega)
      by_cases ht : a % p * x % p = 1
      · have HB := Lib.hid (Num.bez_is (v := a % p) (m := p) (x := x) (by omega) (Num.gp_gcd hp (by omega) v1) (by omega) hlt (by rw [ht]; exact (Int.emod_eq_of_lt (by omega) (by omega)).symm))
        have ht' : (a % p * x % p == 1) = true := by simp [ht]
        clear ht
        go_wp2_with (go_at_call 115; refine (sMod_any _ _ _ (by omega) (by omega)).mono ?_; rintro e w' ⟨rfl, rfl⟩)
        go_ret
        exact ⟨ret_int HB.out.symm, rfl⟩
      · have ht' : (a % p * x % p == 1) = false := by simp [ht]
        have HT := Lib.hid ht
        clear ht
        go_wp2_with (go_at_call 115; refine (sMod_any _ _ _ (by omega) (by omega)).mono ?_; rintro e w' ⟨rfl, rfl⟩)
        refine ⟨⟨x + 1, rfl, by omega, by omega, fun y h1 h2 => ?_⟩, by simp [intOf]; omega⟩
        by_cases hyx : y = x
        · rw [hyx]; exact HT.out
        · exact HY.out y h1 (by omega)
end Go.Proofs.Ytggkoihlmijacaa
