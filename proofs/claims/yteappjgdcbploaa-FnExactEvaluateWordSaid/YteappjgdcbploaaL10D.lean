/- Words: slices.Equal at whole numbers, ReduceWord, IsReducedWord. -/
import Derived.Test.YteappjgdcbploaaL10C
namespace Go.Proofs.Yteappjgdcbploaa
open Go.RowKit
set_option linter.unusedVariables false
set_option linter.unusedSimpArgs false

theorem Num.extW {xs ys : List Int} (hl : xs.length = ys.length) (h : ∀ i, i < xs.length → xs.getD i 0 = ys.getD i 0) : xs = ys := by
  refine List.ext_getElem hl fun i h1 h2 => ?_
  have := h i h1
  rwa [List.getD_eq_getElem?_getD, List.getD_eq_getElem?_getD, List.getElem?_eq_getElem h1, List.getElem?_eq_getElem h2] at this
set_option maxRecDepth 100000 in
set_option maxHeartbeats 1000000 in
theorem equalI_any (A B : Option Addr) (c d : Nat) (xs ys : List Int) (w : World) (h : RdI w A xs) (k : RdI w B ys) (mA : xs.length ≤ maxLen) (mB : ys.length ≤ maxLen) :
    Calls Try.prog 102 #[.slice A xs.length c, .slice B ys.length d] w fun e w' => e = .returned (.bool (decide (xs = ys))) ∧ Below w.heap.size w w' := by
  have HR := Lib.hid h
  have HK := Lib.hid k
  unfold maxLen at mA mB
  clear h k
  by_cases hl : xs.length = ys.length
  · have el : ((xs.length : Int) != (ys.length : Int)) = false := by simp [hl]
    have HL := Lib.hid hl
    have l1 : xs.length ≤ ys.length := by omega
    clear hl
    go_enter Try.func102, Try.ntmps102
    go_wp2_with (fail)
    go_loopw [13] (fun s wr => ∃ j : Nat, s = .int .i64 j ∧ j ≤ xs.length ∧ Hid (∀ i, i < j → xs.getD i 0 = ys.getD i 0) ∧ Below w.heap.size w wr) (fun s _ => xs.length - (intOf s).toNat)
    case atStart => exact ⟨0, rfl, by omega, Lib.hid fun i hi => by omega, Below.refl _ _⟩
    case round =>
      obtain ⟨j, rfl, hj, hz, bel⟩ := hrel
      clear el
      by_cases hlt : j < xs.length
      · obtain ⟨g, o, rfl, hg, hc⟩ := (HR.out.below' bel) j hlt
        obtain ⟨g', o', rfl, hg', hc'⟩ := (HK.out.below' bel) j (by omega : j < ys.length)
        have i0 : (0 : Int) ≤ (j : Int) := by omega
        have i1 : (j : Int) < (xs.length : Int) := by omega
        have i2 : (j : Int) < (ys.length : Int) := by omega
        by_cases hy : xs.getD j 0 = ys.getD j 0
        · have HZ : Hid (∀ i, i < j + 1 → xs.getD i 0 = ys.getD i 0) := Lib.hid fun i hi => by
            by_cases e : i = j
            · rw [e]; exact hy
            · exact hz.out i (by omega)
          rw [← hy] at hc'
          clear hy
          generalize xs.getD j 0 = y at *
          have ee : (y == y) = true := by simp
          go_wp2
          go_quiet (fail)
          go_wp2
          exact ⟨⟨j + 1, by go_num, by omega, HZ, below_drewN bel _⟩, by simp [intOf]; omega⟩
        · have E : Hid (decide (xs = ys) = false) := Lib.hid (by
            refine decide_eq_false fun e => hy ?_
            rw [e])
          have hy' : (xs.getD j 0 != ys.getD j 0) = true := by simpa using hy
          generalize xs.getD j 0 = y at *
          generalize ys.getD j 0 = z at *
          go_wp2
          go_quiet (fail)
          go_wp2
          go_ret
          exact ⟨by rw [E.out]; rfl, below_drewN bel _⟩
      · have hge : ¬ ((j : Int) < (xs.length : Int)) := by omega
        obtain rfl : j = xs.length := by omega
        have E : Hid (decide (xs = ys) = true) := Lib.hid (by simpa using Num.extW HL.out hz.out)
        go_wp2_with (fail)
        go_ret
        exact ⟨by rw [E.out]; rfl, bel⟩
  · have el : ((xs.length : Int) != (ys.length : Int)) = true := by simp; omega
    have E : Hid (decide (xs = ys) = false) := Lib.hid (by simp; intro e; exact hl (by rw [e]))
    go_enter Try.func102, Try.ntmps102
    go_wp2_with (fail)
    go_ret
    exact ⟨by rw [E.out]; rfl, Below.refl _ _⟩

theorem word_bd {k : Int} {x : List Int} (h : Num.codeW k [x] = 0) : x.length ≤ 64 ∧ Num.SmallW x := by
  obtain ⟨h1, h2⟩ := Num.codeW_zero h
  have := h2 x (by simp)
  exact ⟨(Num.isWB_iff.mp this).1, Num.isWB_small h1.2 this⟩
theorem one_bd {x : List Int} (h : x.length ≤ 64) : ∀ i, i < [x].length → ([x].getD i []).length ≤ 64 := by
  intro i hi; match i, hi with
  | 0, _ => exact h
  | i + 1, hi => simp at hi
theorem one_sm {x : List Int} (h : Num.SmallW x) : ∀ i, i < [x].length → Num.SmallW ([x].getD i []) := by
  intro i hi; match i, hi with
  | 0, _ => exact h
  | i + 1, hi => simp at hi
end Go.Proofs.Yteappjgdcbploaa
