/- For the model's SolveRows: whether a list is 0; the head of a list. -/
import Derived.Test.YtggkoihlmijacaaL02H
namespace Go.Proofs.Ytggkoihlmijacaa
open Go.RowKit
set_option linter.unusedVariables false
set_option linter.unusedSimpArgs false

set_option maxHeartbeats 400000 in
theorem sZero_any (v : Value) (xs : List Int) (w : World) (h : spI.rd w v xs) (hl : xs.length ≤ 1000) :
    Calls Try.prog 54 #[v] w fun e w' => e = .returned (.bool (decide (xs.length ≤ Num.lead xs))) ∧ w = w' := by
  obtain ⟨A, c, rfl, -, -⟩ := spI_form h
  have HR := Lib.hid h
  clear h
  go_enter Try.func54, Try.ntmps54
  go_wp2_with (fail)
  go_loop [3] (fun s => ∃ j : Nat, s = .int .i64 j ∧ j ≤ xs.length ∧ Hid (∀ i, i < j → xs.getD i 0 = 0)) (fun s => xs.length - (intOf s).toNat)
  case atStart => exact ⟨0, rfl, by omega, Lib.hid fun i hi => by omega⟩
  case round =>
    obtain ⟨j, rfl, hj, hz⟩ := hrel
    by_cases hlt : j < xs.length
    · obtain ⟨g, o, rfl, hg, hc⟩ := spI_at HR.out hlt
      have i0 : (0 : Int) ≤ (j : Int) := by omega
      have i1 : (j : Int) < (xs.length : Int) := by omega
      by_cases hy : xs.getD j 0 = 0
      · have HZ : Hid (∀ i, i < j + 1 → xs.getD i 0 = 0) := Lib.hid fun i hi => by
          by_cases e : i = j
          · rw [e]; exact hy
          · exact hz.out i (by omega)
        rw [hy] at hc
        clear hy
        go_wp2_with (fail)
        exact ⟨⟨j + 1, by go_num, by omega, HZ⟩, by simp [intOf]; omega⟩
      · have E : Hid (decide (xs.length ≤ Num.lead xs) = false) := Lib.hid (by rw [Num.lead_eq hj hz.out fun _ => hy]; simpa using hlt)
        have hy' : (xs.getD j 0 != 0) = true := by simpa using hy
        generalize xs.getD j 0 = y at *
        go_wp2_with (fail)
        go_ret
        exact ⟨by rw [E.out]; rfl, rfl⟩
    · have hge : ¬ ((j : Int) < (xs.length : Int)) := by omega
      obtain rfl : j = xs.length := by omega
      have E : Hid (decide (xs.length ≤ Num.lead xs) = true) := Lib.hid (by rw [Num.lead_eq hj hz.out fun h => absurd h (by omega)]; simp)
      go_wp2_with (fail)
      go_ret
      exact ⟨by rw [E.out]; rfl, rfl⟩
theorem Num.lead_take {v : List Int} {C : Nat} (hC : C ≤ v.length) : (v.take C).length ≤ Num.lead (v.take C) ↔ ∀ c, c < C → v.getD c 0 = 0 := by
  have hl : (v.take C).length = C := by rw [List.length_take]; omega
  have hg : ∀ c, c < C → (v.take C).getD c 0 = v.getD c 0 := fun c hc => by
    rw [List.getD_eq_getElem?_getD, List.getD_eq_getElem?_getD, List.getElem?_take_of_lt hc]
  rw [hl]
  constructor
  · intro h c hc
    rw [← hg c hc]
    exact Num.lead_zero (by omega)
  · intro h
    refine Nat.le_of_not_lt fun hlt => ?_
    have hne := Num.lead_ne (v := v.take C) (by omega)
    rw [hg _ hlt, h _ hlt] at hne
    exact hne rfl
end Go.Proofs.Ytggkoihlmijacaa
