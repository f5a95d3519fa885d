/- slices.IndexFunc and slices.ContainsFunc at the closures of chapter 8. -/
import Derived.Test.YtahmhdpgdhfjnaaPk
namespace Go.Proofs.Ytahmhdpgdhfjnaa
open Go.RowKit
set_option linter.unusedVariables false
set_option linter.unusedSimpArgs false

theorem rdI_takeZ {w : World} {A : Option Addr} {x : List Int} (h : RdI w A x) (k : Nat) : RdI w A (x.take k) := fun j hj => by
  have hj' : j < k ∧ j < x.length := by rw [List.length_take] at hj; omega
  have e : (x.take k).getD j 0 = x.getD j 0 := by simp [List.getD_eq_getElem?_getD, List.getElem?_take, hj'.1]
  rw [e]
  exact h j hj'.2
def Num.nzB (xs : List Int) : Bool := decide (∃ j, j < xs.length ∧ xs.getD j 0 ≠ 0)
theorem nz_any (y : Int) (w : World) : Calls Try.prog 126 #[.int .i64 y] w fun e w' => e = .returned (.bool (decide (y ≠ 0))) ∧ w = w' := by
  by_cases h : y ≠ 0
  · have T : Hid (decide (y ≠ 0) = true) := Lib.hid (decide_eq_true h)
    have T2 : (y != 0) = true ∨ True := .inr trivial
    have T3 : ∀ (_ : y ≠ 0), (y != 0) = true := fun h => by simpa using h
    have T4 := T3
    have T5 := T3 h
    clear T2 T3 T4
    go_enter Try.func126, Try.ntmps126
    go_wp2_with (fail)
    go_ret
    exact ⟨ret_b T.out.symm, rfl⟩
  · have T : Hid (decide (y ≠ 0) = false) := Lib.hid (decide_eq_false h)
    have T5 : (y != 0) = false := by simpa using h
    go_enter Try.func126, Try.ntmps126
    go_wp2_with (fail)
    go_ret
    exact ⟨ret_b T.out.symm, rfl⟩
set_option maxHeartbeats 1000000 in
theorem nz_index (A : Option Addr) (c : Nat) (xs : List Int) (w : World) (h : RdI w A xs) (hl : xs.length ≤ 100000) :
    Calls Try.prog 150 #[.slice A xs.length c, .func (.func 126) #[] #[]] w fun e w' => ∃ r : Int, e = .returned (.int .i64 r) ∧ decide (0 ≤ r) = Num.nzB xs ∧ w = w' := by
  have HA := Lib.hid h
  clear h
  go_enter Try.func150, Try.ntmps150
  go_wp2_with (fail)
  go_loopw [8] (fun s8 wr => ∃ k : Nat, s8 = .int .i64 k ∧ k ≤ xs.length ∧ Hid (∀ j, j < k → ¬ (xs.getD j 0 ≠ 0)) ∧ w = wr) (fun s8 _ => xs.length - (intOf s8).toNat)
  case atStart => exact ⟨0, rfl, by omega, Lib.hid (fun j hj => by omega), rfl⟩
  case round =>
    obtain ⟨k, rfl, hk, hf, rfl⟩ := hrel
    by_cases hlt : k < xs.length
    · obtain ⟨g, o, rfl, hg, hc⟩ := HA.out k hlt
      have i0 : (0 : Int) ≤ (k : Int) := by omega
      have i1 : (k : Int) < (xs.length : Int) := by omega
      have HC := Lib.hid (nz_any (xs.getD k 0) w)
      by_cases hp : xs.getD k 0 ≠ 0
      · have HR : Hid (decide (0 ≤ (k : Int)) = Num.nzB xs) := Lib.hid (by unfold Num.nzB; rw [decide_eq_true i0, decide_eq_true ⟨k, hlt, hp⟩])
        rw [decide_eq_true hp] at HC
        clear hp hf
        generalize xs.getD k 0 = y at *
        go_wp2_with (fail)
        refine HC.out.mono ?_; rintro e w' ⟨rfl, rfl⟩
        go_wp2_with (fail)
        go_ret
        exact ⟨_, rfl, HR.out, rfl⟩
      · have HN : Hid (∀ j, j < k + 1 → ¬ (xs.getD j 0 ≠ 0)) := Lib.hid fun j hj => by
          rcases Nat.lt_succ_iff_lt_or_eq.mp hj with h1 | rfl
          · exact hf.out j h1
          · exact hp
        rw [decide_eq_false hp] at HC
        clear hp hf
        generalize xs.getD k 0 = y at *
        go_wp2_with (fail)
        refine HC.out.mono ?_; rintro e w' ⟨rfl, rfl⟩
        go_wp2_with (fail)
        exact ⟨⟨k + 1, by go_num, by omega, by first | exact HN | exact Lib.hid (fun j hj => by have := HN.out j hj; omega), by first | rfl | trivial⟩, by simp [intOf]; omega⟩
    · have hge : ¬ ((k : Int) < (xs.length : Int)) := by omega
      obtain rfl : k = xs.length := by omega
      have HR : Hid (decide (0 ≤ (-1 : Int)) = Num.nzB xs) := Lib.hid (by unfold Num.nzB; rw [decide_eq_false (show ¬ (0 : Int) ≤ -1 by omega), decide_eq_false (fun ⟨j, hj, hp⟩ => hf.out j hj hp)])
      go_wp2_with (fail)
      go_ret
      exact ⟨_, rfl, HR.out, rfl⟩
theorem nz_contains (A : Option Addr) (c : Nat) (xs : List Int) (w : World) (h : RdI w A xs) (hl : xs.length ≤ 100000) :
    Calls Try.prog 125 #[.slice A xs.length c, .func (.func 126) #[] #[]] w fun e w' => e = .returned (.bool (Num.nzB xs)) ∧ w = w' := by
  have HC := Lib.hid (nz_index A c xs w h hl)
  clear h
  generalize Num.nzB xs = b at *
  go_enter Try.func125, Try.ntmps125
  go_wp2_with (fail)
  refine HC.out.mono ?_; rintro e w' ⟨r, rfl, hr, rfl⟩
  have HR := Lib.hid hr
  clear hr
  go_wp2_with (fail)
  go_ret
  exact ⟨ret_b HR.out, rfl⟩
end Go.Proofs.Ytahmhdpgdhfjnaa
