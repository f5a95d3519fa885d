/- Comparisons of rows: the program's slices.Equal, slices.EqualFunc. -/
import Derived.Test.YtggkoihlmijacaaL02E
import Derived.Test.YtggkoihlmijacaaKC
namespace Go.Proofs.Ytggkoihlmijacaa
open Go.RowKit
set_option linter.unusedVariables false
set_option linter.unusedSimpArgs false

theorem Num.ne_at' {α : Type} (d : α) {xs ys : List α} {j : Nat} (h : xs.getD j d ≠ ys.getD j d) : ¬ xs = ys := fun e => h (by rw [e])
set_option maxRecDepth 100000 in
set_option maxHeartbeats 1000000 in
theorem equalR_any (p : Int) (v u : Value) (xs ys : List Int) (w : World) (h : (spR p).rd w v xs) (k : (spR p).rd w u ys) :
    Calls Try.prog 51 #[v, u] w fun e w' => e = .returned (.bool (decide (xs = ys))) ∧ Below w.heap.size w w' := by
  obtain ⟨A, c, rfl, mA⟩ := spR_form h
  obtain ⟨B, d, rfl, mB⟩ := spR_form k
  have HR := Lib.hid h
  have HK := Lib.hid k
  unfold maxLen at mA mB
  clear h k
  by_cases hl : xs.length = ys.length
  · have el : ((xs.length : Int) != (ys.length : Int)) = false := by simp [hl]
    have HL := Lib.hid hl
    have l1 : xs.length ≤ ys.length := by omega
    clear hl
    go_enter Try.func51, Try.ntmps51
    go_wp2_with (fail)
    go_loopw [13] (fun s wr => ∃ j : Nat, s = .int .i64 j ∧ j ≤ xs.length ∧ Hid (∀ i, i < j → xs.getD i 0 = ys.getD i 0) ∧ Below w.heap.size w wr) (fun s _ => xs.length - (intOf s).toNat)
    case atStart => exact ⟨0, rfl, by omega, Lib.hid fun i hi => by omega, Below.refl _ _⟩
    case round =>
      obtain ⟨j, rfl, hj, hz, bel⟩ := hrel
      clear el
      by_cases hlt : j < xs.length
      · obtain ⟨g, o, rfl, hg, hc, hd⟩ := spR_at ((spR p).rd_below HR.out bel) hlt
        obtain ⟨g', o', rfl, hg', hc', hd'⟩ := spR_at ((spR p).rd_below HK.out bel) (by omega : j < ys.length)
        have i0 : (0 : Int) ≤ (j : Int) := by omega
        have i1 : (j : Int) < (xs.length : Int) := by omega
        have i2 : (j : Int) < (ys.length : Int) := by omega
        by_cases hy : xs.getD j 0 = ys.getD j 0
        · have HZ : Hid (∀ i, i < j + 1 → xs.getD i 0 = ys.getD i 0) := Lib.hid fun i hi => by
            by_cases e : i = j
            · rw [e]; exact hy
            · exact hz.out i (by omega)
          rw [← hy] at hc'
          clear hy
          generalize xs.getD j 0 = y at *
          have ee : (y == y) = true := by simp
          have ep : (p == p) = true := by simp
          go_wp2
          go_quiet (fail)
          go_wp2
          exact ⟨⟨j + 1, by go_num, by omega, HZ, below_drewN bel _⟩, by simp [intOf]; omega⟩
        · have E : Hid (decide (xs = ys) = false) := Lib.hid (by simpa using Num.ne_at' 0 hy)
          have hy' : (xs.getD j 0 == ys.getD j 0) = false := by simpa using hy
          generalize xs.getD j 0 = y at *
          generalize ys.getD j 0 = z at *
          go_wp2
          go_quiet (fail)
          go_wp2
          go_ret
          exact ⟨by rw [E.out]; rfl, below_drewN bel _⟩
      · have hge : ¬ ((j : Int) < (xs.length : Int)) := by omega
        obtain rfl : j = xs.length := by omega
        have E : Hid (decide (xs = ys) = true) := Lib.hid (by simpa using Num.ext_getD 0 HL.out hz.out)
        go_wp2_with (fail)
        go_ret
        exact ⟨by rw [E.out]; rfl, bel⟩
  · have el : ((xs.length : Int) != (ys.length : Int)) = true := by simp; omega
    have E : Hid (decide (xs = ys) = false) := Lib.hid (by simp; intro e; exact hl (by rw [e]))
    go_enter Try.func51, Try.ntmps51
    go_wp2_with (fail)
    go_ret
    exact ⟨by rw [E.out]; rfl, Below.refl _ _⟩
theorem equalR_yes (p : Int) (v u : Value) (xs ys : List Int) (w : World) (h : (spR p).rd w v xs) (k : (spR p).rd w u ys) (e : xs = ys) : Calls Try.prog 51 #[v, u] w (RetB true w) := by
  have := equalR_any p v u xs ys w h k
  simp only [e, decide_true] at this; exact this
theorem equalR_no (p : Int) (v u : Value) (xs ys : List Int) (w : World) (h : (spR p).rd w v xs) (k : (spR p).rd w u ys) (e : ¬ xs = ys) : Calls Try.prog 51 #[v, u] w (RetB false w) := by
  have := equalR_any p v u xs ys w h k
  simp only [e, decide_false] at this; exact this
set_option maxRecDepth 100000 in
set_option maxHeartbeats 1000000 in
theorem equalRR_any (p : Int) (v u : Value) (xs ys : List (List Int)) (w : World) (h : (spRR p).rd w v xs) (k : (spRR p).rd w u ys) :
    Calls Try.prog 49 #[v, u, .func (.func 51) #[] #[]] w fun e w' => e = .returned (.bool (decide (xs = ys))) ∧ Below w.heap.size w w' := by
  obtain ⟨A, c, rfl, mA, -⟩ := id h
  obtain ⟨B, d, rfl, mB, -⟩ := id k
  have HR := Lib.hid h
  have HK := Lib.hid k
  unfold maxLen at mA mB
  clear h k
  by_cases hl : xs.length = ys.length
  · have el : ((xs.length : Int) != (ys.length : Int)) = false := by simp [hl]
    have HL := Lib.hid hl
    have l1 : xs.length ≤ ys.length := by omega
    clear hl
    go_enter Try.func49, Try.ntmps49
    go_wp2_with (fail)
    go_loopw [17] (fun s wr => ∃ j : Nat, s = .int .i64 j ∧ j ≤ xs.length ∧ Hid (∀ i, i < j → xs.getD i [] = ys.getD i []) ∧ Below w.heap.size w wr) (fun s _ => xs.length - (intOf s).toNat)
    case atStart => exact ⟨0, rfl, by omega, Lib.hid fun i hi => by omega, Below.refl _ _⟩
    case round =>
      obtain ⟨j, rfl, hj, hz, bel⟩ := hrel
      clear el
      by_cases hlt : j < xs.length
      · obtain ⟨g, o, a, rfl, hg, hc, hra⟩ := spL_row ((spRR p).rd_below HR.out bel) hlt
        obtain ⟨g', o', b, rfl, hg', hc', hrb⟩ := spL_row ((spRR p).rd_below HK.out bel) (by omega : j < ys.length)
        have i0 : (0 : Int) ≤ (j : Int) := by omega
        have i1 : (j : Int) < (xs.length : Int) := by omega
        have i2 : (j : Int) < (ys.length : Int) := by omega
        by_cases hy : xs.getD j [] = ys.getD j []
        · have HZ : Hid (∀ i, i < j + 1 → xs.getD i [] = ys.getD i []) := Lib.hid fun i hi => by
            by_cases e : i = j
            · rw [e]; exact hy
            · exact hz.out i (by omega)
          have HC := Lib.hid (equalR_yes p a b _ _ wr hra hrb hy)
          clear hra hrb hy
          go_wp2_with (fail)
          refine HC.out.mono ?_; rintro e w2 ⟨rfl, hb2⟩
          have bel2 := bstep bel bel.size hb2
          clear HC hb2
          go_wp2_with (fail)
          exact ⟨⟨j + 1, by go_num, by omega, HZ, bel2⟩, by simp [intOf]; omega⟩
        · have E : Hid (decide (xs = ys) = false) := Lib.hid (by simpa using Num.ne_at' [] hy)
          have HC := Lib.hid (equalR_no p a b _ _ wr hra hrb hy)
          clear hra hrb hy
          go_wp2_with (fail)
          refine HC.out.mono ?_; rintro e w2 ⟨rfl, hb2⟩
          have bel2 := bstep bel bel.size hb2
          clear HC hb2
          go_wp2_with (fail)
          go_ret
          exact ⟨by rw [E.out]; rfl, bel2⟩
      · have hge : ¬ ((j : Int) < (xs.length : Int)) := by omega
        obtain rfl : j = xs.length := by omega
        have E : Hid (decide (xs = ys) = true) := Lib.hid (by simpa using Num.ext_getD [] HL.out hz.out)
        go_wp2_with (fail)
        go_ret
        exact ⟨by rw [E.out]; rfl, bel⟩
  · have el : ((xs.length : Int) != (ys.length : Int)) = true := by simp; omega
    have E : Hid (decide (xs = ys) = false) := Lib.hid (by simp; intro e; exact hl (by rw [e]))
    go_enter Try.func49, Try.ntmps49
    go_wp2_with (fail)
    go_ret
    exact ⟨by rw [E.out]; rfl, Below.refl _ _⟩
end Go.Proofs.Ytggkoihlmijacaa
