/- Comparisons of rows: the model's l01Same, l01Same2, the program's slices.Equal, slices.EqualFunc. -/
import Derived.Test.YtggkoihlmijacaaL02H
import Derived.Test.YtggkoihlmijacaaL02E
import Derived.Test.YtggkoihlmijacaaKC
namespace Go.Proofs.Ytggkoihlmijacaa
open Go.RowKit
set_option linter.unusedVariables false
set_option linter.unusedSimpArgs false

theorem Num.ne_at {α : Type} (d : α) {xs ys : List α} {j : Nat} (h : xs.getD j d ≠ ys.getD j d) : ¬ xs = ys := fun e => h (by rw [e])
set_option maxRecDepth 100000 in
set_option maxHeartbeats 1000000 in
theorem sSame_any (v u : Value) (xs ys : List Int) (w : World) (h : spI.rd w v xs) (k : spI.rd w u ys) :
    Calls Try.prog 98 #[v, u] w fun e w' => e = .returned (.bool (decide (xs = ys))) ∧ Below w.heap.size w w' := by
  obtain ⟨A, c, rfl, mA, -⟩ := spI_form h
  obtain ⟨B, d, rfl, mB, -⟩ := spI_form k
  have HR := Lib.hid h
  have HK := Lib.hid k
  unfold maxLen at mA mB
  clear h k
  by_cases hl : xs.length = ys.length
  · have el : ((xs.length : Int) != (ys.length : Int)) = false := by simp [hl]
    have HL := Lib.hid hl
    have l1 : xs.length ≤ ys.length := by omega
    clear hl
    go_enter Try.func98, Try.ntmps98
    go_wp2_with (fail)
    go_loopw [5] (fun s wr => ∃ j : Nat, s = .int .i64 j ∧ j ≤ xs.length ∧ Hid (∀ i, i < j → xs.getD i 0 = ys.getD i 0) ∧ Below w.heap.size w wr) (fun s _ => xs.length - (intOf s).toNat)
    case atStart => exact ⟨0, rfl, by omega, Lib.hid fun i hi => by omega, Below.refl _ _⟩
    case round =>
      obtain ⟨j, rfl, hj, hz, bel⟩ := hrel
      clear el
      by_cases hlt : j < xs.length
      · obtain ⟨g, o, rfl, hg, hc⟩ := spI_at (spI.rd_below HR.out bel) hlt
        obtain ⟨g', o', rfl, hg', hc'⟩ := spI_at (spI.rd_below HK.out bel) (by omega : j < ys.length)
        have i0 : (0 : Int) ≤ (j : Int) := by omega
        have i1 : (j : Int) < (xs.length : Int) := by omega
        have i2 : (j : Int) < (ys.length : Int) := by omega
        by_cases hy : xs.getD j 0 = ys.getD j 0
        · have HZ : Hid (∀ i, i < j + 1 → xs.getD i 0 = ys.getD i 0) := Lib.hid fun i hi => by
            by_cases e : i = j
            · rw [e]; exact hy
            · exact hz.out i (by omega)
          rw [← hy] at hc'
          clear hy
          generalize xs.getD j 0 = y at *
          go_wp2
          go_quiet (fail)
          go_wp2
          exact ⟨⟨j + 1, by go_num, by omega, HZ, below_drewN bel _⟩, by simp [intOf]; omega⟩
        · have E : Hid (decide (xs = ys) = false) := Lib.hid (by simpa using Num.ne_at 0 hy)
          have hy' : (xs.getD j 0 != ys.getD j 0) = true := by simpa using hy
          generalize xs.getD j 0 = y at *
          generalize ys.getD j 0 = z at *
          go_wp2
          go_quiet (fail)
          go_wp2
          go_ret
          exact ⟨by rw [E.out]; rfl, below_drewN bel _⟩
      · have hge : ¬ ((j : Int) < (xs.length : Int)) := by omega
        obtain rfl : j = xs.length := by omega
        have E : Hid (decide (xs = ys) = true) := Lib.hid (by simpa using Num.ext_getD 0 HL.out hz.out)
        go_wp2_with (fail)
        go_ret
        exact ⟨by rw [E.out]; rfl, bel⟩
  · have el : ((xs.length : Int) != (ys.length : Int)) = true := by simp; omega
    have E : Hid (decide (xs = ys) = false) := Lib.hid (by simp; intro e; exact hl (by rw [e]))
    go_enter Try.func98, Try.ntmps98
    go_wp2_with (fail)
    go_ret
    exact ⟨by rw [E.out]; rfl, Below.refl _ _⟩
theorem sSame_yes (v u : Value) (xs ys : List Int) (w : World) (h : spI.rd w v xs) (k : spI.rd w u ys) (e : xs = ys) : Calls Try.prog 98 #[v, u] w (RetB true w) := by
  have := sSame_any v u xs ys w h k
  simp only [e, decide_true] at this; exact this
theorem sSame_no (v u : Value) (xs ys : List Int) (w : World) (h : spI.rd w v xs) (k : spI.rd w u ys) (e : ¬ xs = ys) : Calls Try.prog 98 #[v, u] w (RetB false w) := by
  have := sSame_any v u xs ys w h k
  simp only [e, decide_false] at this; exact this
set_option maxRecDepth 100000 in
set_option maxHeartbeats 1000000 in
theorem sSame2_any (v u : Value) (xs ys : List (List Int)) (w : World) (h : spII.rd w v xs) (k : spII.rd w u ys) :
    Calls Try.prog 44 #[v, u] w fun e w' => e = .returned (.bool (decide (xs = ys))) ∧ Below w.heap.size w w' := by
  obtain ⟨A, c, rfl, mA, -⟩ := id h
  obtain ⟨B, d, rfl, mB, -⟩ := id k
  have HR := Lib.hid h
  have HK := Lib.hid k
  unfold maxLen at mA mB
  clear h k
  by_cases hl : xs.length = ys.length
  · have el : ((xs.length : Int) != (ys.length : Int)) = false := by simp [hl]
    have HL := Lib.hid hl
    have l1 : xs.length ≤ ys.length := by omega
    clear hl
    go_enter Try.func44, Try.ntmps44
    go_wp2_with (fail)
    go_loopw [5] (fun s wr => ∃ j : Nat, s = .int .i64 j ∧ j ≤ xs.length ∧ Hid (∀ i, i < j → xs.getD i [] = ys.getD i []) ∧ Below w.heap.size w wr) (fun s _ => xs.length - (intOf s).toNat)
    case atStart => exact ⟨0, rfl, by omega, Lib.hid fun i hi => by omega, Below.refl _ _⟩
    case round =>
      obtain ⟨j, rfl, hj, hz, bel⟩ := hrel
      clear el
      by_cases hlt : j < xs.length
      · obtain ⟨g, o, a, rfl, hg, hc, hra⟩ := spL_row (spII.rd_below HR.out bel) hlt
        obtain ⟨g', o', b, rfl, hg', hc', hrb⟩ := spL_row (spII.rd_below HK.out bel) (by omega : j < ys.length)
        have i0 : (0 : Int) ≤ (j : Int) := by omega
        have i1 : (j : Int) < (xs.length : Int) := by omega
        have i2 : (j : Int) < (ys.length : Int) := by omega
        by_cases hy : xs.getD j [] = ys.getD j []
        · have HZ : Hid (∀ i, i < j + 1 → xs.getD i [] = ys.getD i []) := Lib.hid fun i hi => by
            by_cases e : i = j
            · rw [e]; exact hy
            · exact hz.out i (by omega)
          have HC : Hid (∀ n, Calls Try.prog 98 #[a, b] (wr.drewN n) (RetB true (wr.drewN n))) := Lib.hid fun n => sSame_yes a b _ _ (wr.drewN n) (spI.rd_below hra (below_drewN (Below.refl _ _) _)) (spI.rd_below hrb (below_drewN (Below.refl _ _) _)) hy
          have HC0 : Hid (Calls Try.prog 98 #[a, b] wr.drew (RetB true wr.drew)) := Lib.hid (sSame_yes a b _ _ wr.drew (spI.rd_drew hra) (spI.rd_drew hrb) hy)
          clear hra hrb hy
          go_wp2
          go_region_with (go_at_call 98; (first | (with_reducible refine HC0.out.mono ?_) | (refine (HC.out _).mono ?_)); rintro e w2 ⟨rfl, hb2⟩)
          all_goals
            have bel2 := bstep bel.drew bel.size hb2
            go_wp2
            exact ⟨⟨j + 1, by go_num, by omega, HZ, bel2⟩, by simp [intOf]; omega⟩
        · have E : Hid (decide (xs = ys) = false) := Lib.hid (by simpa using Num.ne_at [] hy)
          have HC0 : Hid (Calls Try.prog 98 #[a, b] wr.drew (RetB false wr.drew)) := Lib.hid (sSame_no a b _ _ wr.drew (spI.rd_drew hra) (spI.rd_drew hrb) hy)
          clear hra hrb hy
          go_wp2
          go_region_with (go_at_call 98; (with_reducible refine HC0.out.mono ?_); rintro e w2 ⟨rfl, hb2⟩)
          all_goals
            have bel2 := bstep bel.drew bel.size hb2
            go_wp2
            go_ret
            exact ⟨by rw [E.out]; rfl, bel2⟩
      · have hge : ¬ ((j : Int) < (xs.length : Int)) := by omega
        obtain rfl : j = xs.length := by omega
        have E : Hid (decide (xs = ys) = true) := Lib.hid (by simpa using Num.ext_getD [] HL.out hz.out)
        go_wp2_with (fail)
        go_ret
        exact ⟨by rw [E.out]; rfl, bel⟩
  · have el : ((xs.length : Int) != (ys.length : Int)) = true := by simp; omega
    have E : Hid (decide (xs = ys) = false) := Lib.hid (by simp; intro e; exact hl (by rw [e]))
    go_enter Try.func44, Try.ntmps44
    go_wp2_with (fail)
    go_ret
    exact ⟨by rw [E.out]; rfl, Below.refl _ _⟩
end Go.Proofs.Ytggkoihlmijacaa
