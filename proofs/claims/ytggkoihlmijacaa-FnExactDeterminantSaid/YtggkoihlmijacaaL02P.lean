/- Where a row belongs among rows in reduced form. -/
import Derived.Test.YtggkoihlmijacaaL02D
import Derived.Test.YtggkoihlmijacaaL02E
import Derived.Test.YtggkoihlmijacaaKC
namespace Go.Proofs.Ytggkoihlmijacaa
open Go.RowKit
set_option linter.unusedVariables false
set_option linter.unusedSimpArgs false

set_option maxRecDepth 100000 in
set_option maxHeartbeats 1000000 in
theorem place_any (p : Int) (v : Value) (e : List (List Int)) (k : Nat) (w : World) (h : (spRR p).rd w v e) (hl : e.length ≤ 1000) (hr : ∀ i, i < e.length → (e.getD i []).length ≤ 1000) (hk : k ≤ 1000) :
    Calls Try.prog 92 #[v, .int .i64 k] w fun e' w' => e' = .returned (.int .i64 (Num.place e k : Nat)) ∧ w = w' := by
  have h0 := h
  obtain ⟨A, c, rfl, -, -⟩ := h0
  have HR := Lib.hid h
  have HRL := Lib.hid hr
  clear h hr
  go_enter Try.func92, Try.ntmps92
  go_wp2_with (fail)
  go_loop [5] (fun s => ∃ j : Nat, s = .int .i64 j ∧ j ≤ e.length ∧ Hid (∀ i, i < j → Num.lead (e.getD i []) < k)) (fun s => e.length - (intOf s).toNat)
  case atStart => exact ⟨0, rfl, by omega, Lib.hid fun i hi => by omega⟩
  case round =>
    obtain ⟨j, rfl, hj, hz⟩ := hrel
    by_cases hlt : j < e.length
    · obtain ⟨g, o, u, rfl, hg, hc, hru⟩ := spL_row HR.out hlt
      have i0 : (0 : Int) ≤ (j : Int) := by omega
      have i1 : (j : Int) < (e.length : Int) := by omega
      have HP : Hid (∀ W, w = W → Calls Try.prog 59 #[u] W fun e' w' => e' = .returned (.int .i64 (Num.lead (e.getD j []) : Nat)) ∧ W = w') := Lib.hid fun W hW => hW ▸ pivotOf_any p u _ w hru (HRL.out j hlt)
      have hle := Num.lead_le (e.getD j [])
      have hb := HRL.out j hlt
      by_cases hy : Num.lead (e.getD j []) < k
      · have HZ : Hid (∀ i, i < j + 1 → Num.lead (e.getD i []) < k) := Lib.hid fun i hi => by
          by_cases e1 : i = j
          · rw [e1]; exact hy
          · exact hz.out i (by omega)
        clear hru
        generalize Num.lead (e.getD j []) = d at *
        have hy' : (d : Int) < (k : Int) := by omega
        have hd : (d : Int) ≤ 1000 := by omega
        go_wp2_with (fail)
        refine (HP.out _ rfl).mono ?_; rintro e' w2 ⟨rfl, rfl⟩
        go_wp2_with (fail)
        exact ⟨⟨j + 1, by go_num, by omega, HZ⟩, by simp [intOf]; omega⟩
      · have E : Hid (Num.place e k = j) := Lib.hid (Num.place_eq hj hz.out fun _ => by omega)
        clear hru
        generalize Num.lead (e.getD j []) = d at *
        have hy' : ¬ ((d : Int) < (k : Int)) := by omega
        have hd : (d : Int) ≤ 1000 := by omega
        go_wp2_with (fail)
        refine (HP.out _ rfl).mono ?_; rintro e' w2 ⟨rfl, rfl⟩
        go_wp2_with (fail)
        go_ret
        exact ⟨by rw [E.out]; rfl, rfl⟩
    · have hge : ¬ ((j : Int) < (e.length : Int)) := by omega
      obtain rfl : j = e.length := by omega
      have E : Hid (Num.place e k = e.length) := Lib.hid (Num.place_eq hj hz.out fun h => absurd h (by omega))
      go_wp2_with (fail)
      go_ret
      exact ⟨by rw [E.out]; rfl, rfl⟩
end Go.Proofs.Ytggkoihlmijacaa
