/- The model's l01Same. -/
import Derived.Test.YteappjgdcbploaaKB
import Derived.BigQuiet
namespace Go.Proofs.Yteappjgdcbploaa
open Go.RowKit
set_option linter.unusedVariables false
set_option linter.unusedSimpArgs false

theorem Num.ext_at' {α : Type} (d : α) {xs ys : List α} (h : xs.length = ys.length) (k : ∀ i, i < xs.length → xs.getD i d = ys.getD i d) : xs = ys := by
  apply List.ext_getElem h
  intro i h1 h2
  have := k i h1
  simpa [List.getD_eq_getElem?_getD, List.getElem?_eq_getElem h1, List.getElem?_eq_getElem h2] using this
theorem Num.ne_at {α : Type} (d : α) {xs ys : List α} {j : Nat} (h : xs.getD j d ≠ ys.getD j d) : ¬ xs = ys := fun e => h (by rw [e])
set_option maxRecDepth 100000 in
set_option maxHeartbeats 1000000 in
theorem sSame_any (v u : Value) (xs ys : List Int) (w : World) (h : spI.rd w v xs) (k : spI.rd w u ys) :
    Calls Try.prog 99 #[v, u] w fun e w' => e = .returned (.bool (decide (xs = ys))) ∧ Below w.heap.size w w' := by
  obtain ⟨A, c, rfl, mA, -⟩ := spI_form h
  obtain ⟨B, d, rfl, mB, -⟩ := spI_form k
  have HR := Lib.hid h
  have HK := Lib.hid k
  unfold maxLen at mA mB
  clear h k
  by_cases hl : xs.length = ys.length
  · have el : ((xs.length : Int) != (ys.length : Int)) = false := by simp [hl]
    have HL := Lib.hid hl
    have l1 : xs.length ≤ ys.length := by omega
    clear hl
    go_enter Try.func99, Try.ntmps99
    go_wp2_with (fail)
    go_loopw [5] (fun s wr => ∃ j : Nat, s = .int .i64 j ∧ j ≤ xs.length ∧ Hid (∀ i, i < j → xs.getD i 0 = ys.getD i 0) ∧ Below w.heap.size w wr) (fun s _ => xs.length - (intOf s).toNat)
    case atStart => exact ⟨0, rfl, by omega, Lib.hid fun i hi => by omega, Below.refl _ _⟩
    case round =>
      obtain ⟨j, rfl, hj, hz, bel⟩ := hrel
      clear el
      by_cases hlt : j < xs.length
      · obtain ⟨g, o, rfl, hg, hc⟩ := spI_at (spI.rd_below HR.out bel) hlt
        obtain ⟨g', o', rfl, hg', hc'⟩ := spI_at (spI.rd_below HK.out bel) (by omega : j < ys.length)
        have i0 : (0 : Int) ≤ (j : Int) := by omega
        have i1 : (j : Int) < (xs.length : Int) := by omega
        have i2 : (j : Int) < (ys.length : Int) := by omega
        by_cases hy : xs.getD j 0 = ys.getD j 0
        · have HZ : Hid (∀ i, i < j + 1 → xs.getD i 0 = ys.getD i 0) := Lib.hid fun i hi => by
            by_cases e : i = j
            · rw [e]; exact hy
            · exact hz.out i (by omega)
          rw [← hy] at hc'
          clear hy
          generalize xs.getD j 0 = y at *
          go_wp2
          go_quiet (fail)
          go_wp2
          exact ⟨⟨j + 1, by go_num, by omega, HZ, below_drewN bel _⟩, by simp [intOf]; omega⟩
        · have E : Hid (decide (xs = ys) = false) := Lib.hid (by simpa using Num.ne_at 0 hy)
          have hy' : (xs.getD j 0 != ys.getD j 0) = true := by simpa using hy
          generalize xs.getD j 0 = y at *
          generalize ys.getD j 0 = z at *
          go_wp2
          go_quiet (fail)
          go_wp2
          go_ret
          exact ⟨by rw [E.out]; rfl, below_drewN bel _⟩
      · have hge : ¬ ((j : Int) < (xs.length : Int)) := by omega
        obtain rfl : j = xs.length := by omega
        have E : Hid (decide (xs = ys) = true) := Lib.hid (by simpa using Num.ext_at' 0 HL.out hz.out)
        go_wp2_with (fail)
        go_ret
        exact ⟨by rw [E.out]; rfl, bel⟩
  · have el : ((xs.length : Int) != (ys.length : Int)) = true := by simp; omega
    have E : Hid (decide (xs = ys) = false) := Lib.hid (by simp; intro e; exact hl (by rw [e]))
    go_enter Try.func99, Try.ntmps99
    go_wp2_with (fail)
    go_ret
    exact ⟨by rw [E.out]; rfl, Below.refl _ _⟩
end Go.Proofs.Yteappjgdcbploaa
