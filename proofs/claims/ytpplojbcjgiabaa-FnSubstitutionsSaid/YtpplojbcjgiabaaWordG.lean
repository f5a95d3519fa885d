/- The law of the group of reduced words: what it asks of the data; likeInts. -/
import Derived.Test.YtpplojbcjgiabaaL10D
import Derived.Test.YtpplojbcjgiabaaL10F
import Derived.Test.YtpplojbcjgiabaaL10G
import Derived.Test.YtpplojbcjgiabaaD6B
namespace Go.Proofs.Ytpplojbcjgiabaa
open Go.RowKit
set_option linter.unusedVariables false
set_option linter.unusedSimpArgs false

theorem limC_cases (w : List Int) : Num.limC w = 0 ∨ Num.limC w = 3 := by
  by_cases h : 64 < (Num.redW w).length
  · exact .inr (if_pos h)
  · exact .inl (if_neg h)
theorem limC_zero {w : List Int} (h : Num.limC w = 0) : (Num.redW w).length ≤ 64 ∧ Num.limR w = Num.redW w := by
  by_cases h1 : 64 < (Num.redW w).length
  · have := lim_long h1; omega
  · exact ⟨by omega, (lim_fits h1).2⟩
theorem lim_eq {x y : List Int} (h : Num.redW x = Num.redW y) : Num.limC x = Num.limC y ∧ Num.limR x = Num.limR y := by
  unfold Num.limC Num.limR
  rw [h]
  exact ⟨rfl, rfl⟩
theorem code_two_of {k : Int} {a b : List Int} (hk : 0 ≤ k ∧ k ≤ 6) (ha : Num.isWB k a = true) (hb : Num.isWB k b = true) : Num.codeW k [a, b] = 0 := by
  rw [Num.codeW_two, if_pos hk, if_pos ⟨ha, hb⟩]
theorem code_one_of {k : Int} {a : List Int} (hk : 0 ≤ k ∧ k ≤ 6) (ha : Num.isWB k a = true) : Num.codeW k [a] = 0 := by
  rw [Num.codeW_one, if_pos hk, if_pos ha]
theorem mul_of {k : Int} {a b : List Int} (h : Num.codeW k [a, b] = 0) : cMultiplyWords k a b = Num.limC (a ++ b) ∧ rMultiplyWords k a b = Num.limR (a ++ b) := ⟨if_pos h, if_pos h⟩
theorem com_of {k : Int} {a b : List Int} (h : Num.codeW k [a, b] = 0) : cWordCommutator k a b = Num.limC (comW a b) ∧ rWordCommutator k a b = Num.limR (comW a b) := ⟨if_pos h, if_pos h⟩
theorem red_word {k : Int} {a b : List Int} (ha : Num.isWB k a = true) (hb : Num.isWB k b = true) (hl : (Num.redW (a ++ b)).length ≤ 64) : Num.isWB k (Num.redW (a ++ b)) = true :=
  isWB_red (fun z hz => by
    rcases List.mem_append.mp hz with h | h
    · exact (Num.isWB_iff.mp ha).2 z h
    · exact (Num.isWB_iff.mp hb).2 z h) hl
/-- Where both products fit. -/
theorem group_ok {k : Int} {a b : List Int} (hz : Num.codeW k [a, b] = 0) (hA : cMultiplyWords k a b = 0) (hB : cMultiplyWords k b a = 0) :
    (cWordCommutator k a b = 0 → ((((rWordCommutator k a b).length : Int) == 0) = decide (rMultiplyWords k a b = rMultiplyWords k b a))) ∧
    cInvertWord k a = 0 ∧ cMultiplyWords k a (rInvertWord k a) = 0 ∧ rMultiplyWords k a (rInvertWord k a) = [] ∧
    cMultiplyWords k a (rMultiplyWords k b a) = cMultiplyWords k (rMultiplyWords k a b) a ∧ rMultiplyWords k a (rMultiplyWords k b a) = rMultiplyWords k (rMultiplyWords k a b) a ∧
    (cMultiplyWords k (rMultiplyWords k a b) a = 0 ∨ cMultiplyWords k (rMultiplyWords k a b) a = 3) ∧
    (cMultiplyWords k (rMultiplyWords k a b) a = 0 → rIsReducedWord k (rMultiplyWords k (rMultiplyWords k a b) a) = true) := by
  obtain ⟨hk, hw⟩ := Num.codeW_zero hz
  have ha := hw a (by simp)
  have hb := hw b (by simp)
  have hz' := code_two_of hk hb ha
  rw [(mul_of hz).1] at hA
  rw [(mul_of hz').1] at hB
  obtain ⟨lA, eA⟩ := limC_zero hA
  obtain ⟨lB, eB⟩ := limC_zero hB
  have rA : rMultiplyWords k a b = Num.redW (a ++ b) := by rw [(mul_of hz).2, eA]
  have rB : rMultiplyWords k b a = Num.redW (b ++ a) := by rw [(mul_of hz').2, eB]
  have wA := red_word ha hb lA
  have wB := red_word hb ha lB
  have hi : rInvertWord k a = Num.invW a := if_pos (code_one_of hk ha)
  have z1 := code_two_of hk ha (isWB_inv ha)
  have z2 := code_two_of hk wA ha
  have z3 := code_two_of hk ha wB
  have e0 : Num.redW (a ++ Num.invW a) = [] := mul_inv a
  have f0 : ¬ 64 < (Num.redW (a ++ Num.invW a)).length := by rw [e0]; simp
  have eq := lim_eq (x := a ++ Num.redW (b ++ a)) (y := Num.redW (a ++ b) ++ a) (mul_assoc' a b a).symm
  refine ⟨fun hc => ?_, code_one_of hk ha, ?_, ?_, ?_, ?_, ?_, fun h0 => ?_⟩
  · rw [(com_of hz).1] at hc
    rw [(com_of hz).2, (limC_zero hc).2, rA, rB]
    have := com_empty a b
    by_cases he : Num.redW (comW a b) = []
    · rw [he, decide_eq_true (this.mp he)]; rfl
    · rw [decide_eq_false (fun h => he (this.mpr h))]
      have hl : (Num.redW (comW a b)).length ≠ 0 := fun h => he (List.eq_nil_of_length_eq_zero h)
      simp; exact he
  · rw [hi, (mul_of z1).1]; exact (lim_fits f0).1
  · rw [hi, (mul_of z1).2, (lim_fits f0).2, e0]
  · rw [rA, rB, (mul_of z3).1, (mul_of z2).1]; exact eq.1
  · rw [rA, rB, (mul_of z3).2, (mul_of z2).2]; exact eq.2
  · rw [rA, (mul_of z2).1]; exact limC_cases _
  · rw [rA, (mul_of z2).1] at h0
    obtain ⟨l0, e1⟩ := limC_zero h0
    rw [rA, (mul_of z2).2, e1]
    have w0 := red_word wA ha l0
    unfold rIsReducedWord
    rw [Num.isW_iff.mpr ⟨hk, w0⟩, red_red]
    simp
theorem mul_bad {k : Int} {a b : List Int} (hz : ¬ Num.codeW k [a, b] = 0) : cMultiplyWords k a b = Num.codeW k [a, b] ∧ cWordCommutator k a b = Num.codeW k [a, b] := ⟨if_neg hz, if_neg hz⟩

set_option maxHeartbeats 1000000 in
theorem likeS_any (v u : Value) (xs ys : List Int) (w : World) (hv : spI.rd w v xs) (hu : spI.rd w u ys) :
    Calls Try.prog 10 #[v, u] w fun e w' => e = .returned (.bool (decide (xs = ys))) ∧ Below w.heap.size w w' := by
  obtain ⟨A, c, rfl, mA, h⟩ := hv
  obtain ⟨B, d, rfl, mB, k⟩ := hu
  have HR := Lib.hid h
  have HK := Lib.hid k
  unfold maxLen at mA mB
  clear h k
  by_cases hl : xs.length = ys.length
  · have el : ((xs.length : Int) != (ys.length : Int)) = false := by simp [hl]
    have HL := Lib.hid hl
    have l1 : xs.length ≤ ys.length := by omega
    clear hl
    go_enter Try.func10, Try.ntmps10
    go_wp2_with (fail)
    go_loopw [5] (fun s wr => ∃ j : Nat, s = .int .i64 j ∧ j ≤ xs.length ∧ Hid (∀ i, i < j → xs.getD i 0 = ys.getD i 0) ∧ Below w.heap.size w wr) (fun s _ => xs.length - (intOf s).toNat)
    case atStart => exact ⟨0, rfl, by omega, Lib.hid fun i hi => by omega, Below.refl _ _⟩
    case round =>
      obtain ⟨j, rfl, hj, hz, bel⟩ := hrel
      clear el
      by_cases hlt : j < xs.length
      · obtain ⟨g, o, rfl, hg, hc⟩ := (HR.out.below' bel) j hlt
        obtain ⟨g', o', rfl, hg', hc'⟩ := (HK.out.below' bel) j (by omega : j < ys.length)
        have i0 : (0 : Int) ≤ (j : Int) := by omega
        have i1 : (j : Int) < (xs.length : Int) := by omega
        have i2 : (j : Int) < (ys.length : Int) := by omega
        by_cases hy : xs.getD j 0 = ys.getD j 0
        · have HZ : Hid (∀ i, i < j + 1 → xs.getD i 0 = ys.getD i 0) := Lib.hid fun i hi => by
            by_cases e : i = j
            · rw [e]; exact hy
            · exact hz.out i (by omega)
          rw [← hy] at hc'
          clear hy
          generalize xs.getD j 0 = y at *
          have ee : (y != y) = false := by simp
          go_wp2
          go_quiet (fail)
          go_wp2
          exact ⟨⟨j + 1, by go_num, by omega, HZ, below_drewN bel _⟩, by simp [intOf]; omega⟩
        · have E : Hid (decide (xs = ys) = false) := Lib.hid (by
            refine decide_eq_false fun e => hy ?_
            rw [e])
          have hy' : (xs.getD j 0 != ys.getD j 0) = true := by simpa using hy
          generalize xs.getD j 0 = y at *
          generalize ys.getD j 0 = z at *
          go_wp2
          go_quiet (fail)
          go_wp2
          go_ret
          exact ⟨by rw [E.out]; rfl, below_drewN bel _⟩
      · have hge : ¬ ((j : Int) < (xs.length : Int)) := by omega
        obtain rfl : j = xs.length := by omega
        have E : Hid (decide (xs = ys) = true) := Lib.hid (by simpa using Num.extW HL.out hz.out)
        go_wp2_with (fail)
        go_ret
        exact ⟨by rw [E.out]; rfl, bel⟩
  · have el : ((xs.length : Int) != (ys.length : Int)) = true := by simp; omega
    have E : Hid (decide (xs = ys) = false) := Lib.hid (by simp; intro e; exact hl (by rw [e]))
    go_enter Try.func10, Try.ntmps10
    go_wp2_with (fail)
    go_ret
    exact ⟨by rw [E.out]; rfl, Below.refl _ _⟩
theorem likeS_same (v u : Value) (xs ys : List Int) (w : World) (hv : spI.rd w v xs) (hu : spI.rd w u ys) (e : xs = ys) : Calls Try.prog 10 #[v, u] w (RetB true w) := by
  have := likeS_any v u xs ys w hv hu
  rw [decide_eq_true e] at this
  exact this
end Go.Proofs.Ytpplojbcjgiabaa
