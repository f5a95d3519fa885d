/- Words: slices.Equal at whole numbers, ReduceWord, IsReducedWord. -/
import Derived.Test.YthakglpgcpkpaaaL10C
namespace Go.Proofs.Ythakglpgcpkpaaa
open Go.RowKit
set_option linter.unusedVariables false
set_option linter.unusedSimpArgs false

theorem Num.extW {xs ys : List Int} (hl : xs.length = ys.length) (h : ∀ i, i < xs.length → xs.getD i 0 = ys.getD i 0) : xs = ys := by
  refine List.ext_getElem hl fun i h1 h2 => ?_
  have := h i h1
  rwa [List.getD_eq_getElem?_getD, List.getD_eq_getElem?_getD, List.getElem?_eq_getElem h1, List.getElem?_eq_getElem h2] at this
set_option maxRecDepth 100000 in
set_option maxHeartbeats 1000000 in
theorem equalI_any (A B : Option Addr) (c d : Nat) (xs ys : List Int) (w : World) (h : RdI w A xs) (k : RdI w B ys) (mA : xs.length ≤ maxLen) (mB : ys.length ≤ maxLen) :
    Calls Try.prog 57 #[.slice A xs.length c, .slice B ys.length d] w fun e w' => e = .returned (.bool (decide (xs = ys))) ∧ Below w.heap.size w w' := by
  have HR := Lib.hid h
  have HK := Lib.hid k
  unfold maxLen at mA mB
  clear h k
  by_cases hl : xs.length = ys.length
  · have el : ((xs.length : Int) != (ys.length : Int)) = false := by simp [hl]
    have HL := Lib.hid hl
    have l1 : xs.length ≤ ys.length := by omega
    clear hl
    go_enter Try.func57, Try.ntmps57
    go_wp2_with (fail)
    go_loopw [13] (fun s wr => ∃ j : Nat, s = .int .i64 j ∧ j ≤ xs.length ∧ Hid (∀ i, i < j → xs.getD i 0 = ys.getD i 0) ∧ Below w.heap.size w wr) (fun s _ => xs.length - (intOf s).toNat)
    case atStart => exact ⟨0, rfl, by omega, Lib.hid fun i hi => by omega, Below.refl _ _⟩
    case round =>
      obtain ⟨j, rfl, hj, hz, bel⟩ := hrel
      clear el
      by_cases hlt : j < xs.length
      · obtain ⟨g, o, rfl, hg, hc⟩ := (HR.out.below' bel) j hlt
        obtain ⟨g', o', rfl, hg', hc'⟩ := (HK.out.below' bel) j (by omega : j < ys.length)
        have i0 : (0 : Int) ≤ (j : Int) := by omega
        have i1 : (j : Int) < (xs.length : Int) := by omega
        have i2 : (j : Int) < (ys.length : Int) := by omega
        by_cases hy : xs.getD j 0 = ys.getD j 0
        · have HZ : Hid (∀ i, i < j + 1 → xs.getD i 0 = ys.getD i 0) := Lib.hid fun i hi => by
            by_cases e : i = j
            · rw [e]; exact hy
            · exact hz.out i (by omega)
          rw [← hy] at hc'
          clear hy
          generalize xs.getD j 0 = y at *
          have ee : (y == y) = true := by simp
          go_wp2
          go_quiet (fail)
          go_wp2
          exact ⟨⟨j + 1, by go_num, by omega, HZ, below_drewN bel _⟩, by simp [intOf]; omega⟩
        · have E : Hid (decide (xs = ys) = false) := Lib.hid (by
            refine decide_eq_false fun e => hy ?_
            rw [e])
          have hy' : (xs.getD j 0 != ys.getD j 0) = true := by simpa using hy
          generalize xs.getD j 0 = y at *
          generalize ys.getD j 0 = z at *
          go_wp2
          go_quiet (fail)
          go_wp2
          go_ret
          exact ⟨by rw [E.out]; rfl, below_drewN bel _⟩
      · have hge : ¬ ((j : Int) < (xs.length : Int)) := by omega
        obtain rfl : j = xs.length := by omega
        have E : Hid (decide (xs = ys) = true) := Lib.hid (by simpa using Num.extW HL.out hz.out)
        go_wp2_with (fail)
        go_ret
        exact ⟨by rw [E.out]; rfl, bel⟩
  · have el : ((xs.length : Int) != (ys.length : Int)) = true := by simp; omega
    have E : Hid (decide (xs = ys) = false) := Lib.hid (by simp; intro e; exact hl (by rw [e]))
    go_enter Try.func57, Try.ntmps57
    go_wp2_with (fail)
    go_ret
    exact ⟨by rw [E.out]; rfl, Below.refl _ _⟩

theorem word_bd {k : Int} {x : List Int} (h : Num.codeW k [x] = 0) : x.length ≤ 64 ∧ Num.SmallW x := by
  obtain ⟨h1, h2⟩ := Num.codeW_zero h
  have := h2 x (by simp)
  exact ⟨(Num.isWB_iff.mp this).1, Num.isWB_small h1.2 this⟩
theorem one_bd {x : List Int} (h : x.length ≤ 64) : ∀ i, i < [x].length → ([x].getD i []).length ≤ 64 := by
  intro i hi; match i, hi with
  | 0, _ => exact h
  | i + 1, hi => simp at hi
theorem one_sm {x : List Int} (h : Num.SmallW x) : ∀ i, i < [x].length → Num.SmallW ([x].getD i []) := by
  intro i hi; match i, hi with
  | 0, _ => exact h
  | i + 1, hi => simp at hi
/-- The product of one word in a literal. -/
theorem product_one (A : Option Addr) (c : Nat) (x : List Int) (w : World) (h : RdI w A x) (hl : x.length ≤ 64) (hs : Num.SmallW x) :
    Calls Try.prog 58 #[.slice (some ⟨w.heap.size, 0, none⟩) 1 1] (w.alloc (.cells #[.slice A x.length c] 24)) fun e w' => ∃ v, e = .returned v ∧ OwnI w' w.heap.size v (Num.redW x) ∧ Below w.heap.size w w' := by
  have := wordProduct_any (some ⟨w.heap.size, 0, none⟩) 1 [x] _ (RdW.lit1 c 24 h (by unfold maxLen; omega)) (by simp) (one_bd hl) (one_sm hs)
  refine this.mono ?_
  rintro e w' ⟨v, rfl, own, bel⟩
  have b0 : Below w.heap.size w (w.alloc (.cells #[.slice A x.length c] 24)) := by go_grown
  refine ⟨v, rfl, ?_, bstep b0 b0.size bel⟩
  have e1 : [x].flatten = x := by simp
  rw [e1] at own
  exact own.base_ b0.size
theorem codes_one (k : Int) (A : Option Addr) (c : Nat) (x : List Int) (w : World) (h : RdI w A x) (hl : x.length ≤ maxLen) :
    Calls Try.prog 51 #[.int .i64 k, .slice (some ⟨w.heap.size, 0, none⟩) 1 1] (w.alloc (.cells #[.slice A x.length c] 24)) fun e w' => e = .returned (.int .i64 (Num.codeW k [x])) ∧ (w.alloc (.cells #[.slice A x.length c] 24)) = w' :=
  wordsCode_any k _ 1 1 [x] _ (RdW.lit1 c 24 h hl) rfl (by unfold maxLen; simp)
set_option maxHeartbeats 1000000 in
theorem iReduceWord_any (k : Int) (v : Value) (x : List Int) (w : World) (h : spI.rd w v x) : Calls Try.prog 29 #[.int .i64 k, v] w (MadeC spI (rReduceWord k x) (cReduceWord k x) w) := by
  obtain ⟨A, c, rfl, hm, hA⟩ := h
  have b0 : Below w.heap.size w (w.alloc (.cells #[.slice A x.length c] 24)) := by go_grown
  have HC := Lib.hid (codes_one k A c x w hA hm)
  by_cases hz : Num.codeW k [x] = 0
  · obtain ⟨hl, hs⟩ := word_bd hz
    have hp := product_one A c x _ (hA.below' b0) hl hs
    have HR : Hid (rReduceWord k x = Num.redW x ∧ cReduceWord k x = 0) := Lib.hid ⟨if_pos hz, hz⟩
    have hrl : (Num.redW x).length ≤ 64 := Nat.le_trans (Num.redW_len x) hl
    simp only [World.size_alloc] at hp
    have HP := Lib.hid hp
    rw [hz] at HC
    clear hp hz hA
    go_enter Try.func29, Try.ntmps29
    go_wp2_with (fail)
    refine HC.out.mono ?_; rintro e w' ⟨rfl, rfl⟩
    go_wp2_with (fail)
    refine HP.out.mono ?_; rintro e w1 ⟨u, rfl, own, bel⟩
    go_wp2_with (fail)
    go_ret2
    have bel2 : Below w.heap.size w w1 := b0.trans (bel.mono (by omega))
    rw [HR.out.1, HR.out.2]
    exact MadeC.list (own.base_ (by omega)) (by omega) bel2
  · have HR : Hid (rReduceWord k x = [] ∧ cReduceWord k x = Num.codeW k [x]) := Lib.hid ⟨if_neg hz, rfl⟩
    have T1 : (Num.codeW k [x] != 0) = true := by simpa using hz
    clear hz hA
    generalize Num.codeW k [x] = cd at *
    go_enter Try.func29, Try.ntmps29
    go_wp2_with (fail)
    refine HC.out.mono ?_; rintro e w' ⟨rfl, rfl⟩
    go_wp2_with (fail)
    go_ret2
    rw [HR.out.1, HR.out.2]
    exact MadeC.nilW b0
set_option maxHeartbeats 1000000 in
theorem sReduceWord_any (k : Int) (v : Value) (x : List Int) (w : World) (h : spI.rd w v x) : Calls Try.prog 28 #[.int .i64 k, v] w (MadeC spI (rReduceWord k x) (cReduceWord k x) w) := by
  obtain ⟨A, c, rfl, hm, hA⟩ := h
  have HC := Lib.hid (sCode_any k A none c 0 _ 0 x [] w hA rfl hm (RdI.nil _ _) rfl (by simp))
  rw [Num.codeW_pad] at HC
  by_cases hz : Num.codeW k [x] = 0
  · obtain ⟨hl, hs⟩ := word_bd hz
    have HP := Lib.hid (sReduce_any A c x w hA (by omega) hs)
    have HR : Hid (rReduceWord k x = Num.redW x ∧ cReduceWord k x = 0) := Lib.hid ⟨if_pos hz, hz⟩
    have hrl : (Num.redW x).length ≤ 64 := Nat.le_trans (Num.redW_len x) hl
    rw [hz] at HC
    clear hz hA
    go_enter Try.func28, Try.ntmps28
    go_wp2_with (fail)
    refine HC.out.mono ?_; rintro e w' ⟨rfl, rfl⟩
    go_wp2_with (fail)
    refine HP.out.mono ?_; rintro e w1 ⟨u, rfl, own, bel⟩
    go_wp2_with (fail)
    go_ret2
    rw [HR.out.1, HR.out.2]
    exact MadeC.list own (by omega) bel
  · have HR : Hid (rReduceWord k x = [] ∧ cReduceWord k x = Num.codeW k [x]) := Lib.hid ⟨if_neg hz, rfl⟩
    have T1 : (Num.codeW k [x] != 0) = true := by simpa using hz
    clear hz hA
    generalize Num.codeW k [x] = cd at *
    go_enter Try.func28, Try.ntmps28
    go_wp2_with (fail)
    refine HC.out.mono ?_; rintro e w' ⟨rfl, rfl⟩
    go_wp2_with (fail)
    go_ret2
    rw [HR.out.1, HR.out.2]
    exact MadeC.nilW (Below.refl _ _)
theorem iReduceWord_ok (k : Int) (v : Value) (x : List Int) (w : World) (h : spI.rd w v x) (s : spI.sz x ≤ 1048576) : Calls Try.prog 29 #[.int .i64 k, v] w (MadeC spI (rReduceWord k x) (cReduceWord k x) w) := iReduceWord_any k v x w h
theorem sReduceWord_ok (k : Int) (v : Value) (x : List Int) (w : World) (h : spI.rd w v x) (s : spI.sz x ≤ 1048576) : Calls Try.prog 28 #[.int .i64 k, v] w (MadeC spI (rReduceWord k x) (cReduceWord k x) w) := sReduceWord_any k v x w h

set_option maxHeartbeats 1000000 in
theorem iIsReducedWord_any (k : Int) (v : Value) (x : List Int) (w : World) (h : spI.rd w v x) : Calls Try.prog 22 #[.int .i64 k, v] w (RetB (rIsReducedWord k x) w) := by
  obtain ⟨A, c, rfl, hm, hA⟩ := h
  have b0 : Below w.heap.size w (w.alloc (.cells #[.slice A x.length c] 24)) := by go_grown
  have HC := Lib.hid (isWord_any k A c x w hA hm)
  cases hz : Num.isW k x with
  | true =>
    obtain ⟨hl, hs⟩ := word_bd (of_decide_eq_true (Num.isW_code.symm.trans hz))
    have HP := Lib.hid (product_one A c x w hA hl hs)
    have HR : Hid (rIsReducedWord k x = decide (Num.redW x = x)) := Lib.hid (by unfold rIsReducedWord; rw [hz, Bool.true_and])
    have hrl : (Num.redW x).length ≤ 64 := Nat.le_trans (Num.redW_len x) hl
    have HA := Lib.hid hA
    rw [hz] at HC
    clear hz hA
    go_enter Try.func22, Try.ntmps22
    go_wp2_with (fail)
    refine HC.out.mono ?_; rintro e w' ⟨rfl, rfl⟩
    go_wp2_with (fail)
    refine HP.out.mono ?_; rintro e w1 ⟨u, rfl, own, bel⟩
    obtain ⟨U, cU, rfl⟩ := own.form
    have HQ := Lib.hid (equalI_any U A cU c (Num.redW x) x w1 own.reads (HA.out.below' bel) (by unfold maxLen; omega) hm)
    go_wp2_with (fail)
    refine HQ.out.mono ?_; rintro e w2 ⟨rfl, bel2⟩
    go_wp2_with (fail)
    go_ret
    exact ⟨ret_b HR.out.symm, bstep bel bel.size bel2⟩
  | false =>
    have HR : Hid (rIsReducedWord k x = false) := Lib.hid (by unfold rIsReducedWord; rw [hz, Bool.false_and])
    rw [hz] at HC
    clear hz hA
    go_enter Try.func22, Try.ntmps22
    go_wp2_with (fail)
    refine HC.out.mono ?_; rintro e w' ⟨rfl, rfl⟩
    go_wp2_with (fail)
    go_ret
    exact ⟨ret_b HR.out.symm, Below.refl _ _⟩
set_option maxHeartbeats 1000000 in
theorem sIsReducedWord_any (k : Int) (v : Value) (x : List Int) (w : World) (h : spI.rd w v x) : Calls Try.prog 27 #[.int .i64 k, v] w (RetB (rIsReducedWord k x) w) := by
  obtain ⟨A, c, rfl, hm, hA⟩ := h
  have HC := Lib.hid (sIsWord_any k A c x w hA hm)
  cases hz : Num.isW k x with
  | true =>
    obtain ⟨hl, hs⟩ := word_bd (of_decide_eq_true (Num.isW_code.symm.trans hz))
    have HP := Lib.hid (sReduce_any A c x w hA (by omega) hs)
    have hrl : (Num.redW x).length ≤ 64 := Nat.le_trans (Num.redW_len x) hl
    have HR : Hid (rIsReducedWord k x = (((Num.redW x).length : Int) == (x.length : Int))) := Lib.hid (by
      unfold rIsReducedWord
      rw [hz, Bool.true_and, Bool.eq_iff_iff, decide_eq_true_iff, Num.redW_eq, beq_iff_eq]
      omega)
    rw [hz] at HC
    clear hz hA
    go_enter Try.func27, Try.ntmps27
    go_wp2_with (fail)
    refine HC.out.mono ?_; rintro e w' ⟨rfl, rfl⟩
    go_wp2_with (fail)
    refine HP.out.mono ?_; rintro e w1 ⟨u, rfl, own, bel⟩
    obtain ⟨U, cU, rfl⟩ := own.form
    generalize (Num.redW x).length = r at *
    go_wp2_with (fail)
    go_ret
    exact ⟨ret_b HR.out.symm, bel⟩
  | false =>
    have HR : Hid (rIsReducedWord k x = false) := Lib.hid (by unfold rIsReducedWord; rw [hz, Bool.false_and])
    rw [hz] at HC
    clear hz hA
    go_enter Try.func27, Try.ntmps27
    go_wp2_with (fail)
    refine HC.out.mono ?_; rintro e w' ⟨rfl, rfl⟩
    go_wp2_with (fail)
    go_ret
    exact ⟨ret_b HR.out.symm, Below.refl _ _⟩
theorem iIsReducedWord_ok (k : Int) (v : Value) (x : List Int) (w : World) (h : spI.rd w v x) (s : spI.sz x ≤ 1048576) : Calls Try.prog 22 #[.int .i64 k, v] w (RetB (rIsReducedWord k x) w) := iIsReducedWord_any k v x w h
theorem sIsReducedWord_ok (k : Int) (v : Value) (x : List Int) (w : World) (h : spI.rd w v x) (s : spI.sz x ≤ 1048576) : Calls Try.prog 27 #[.int .i64 k, v] w (RetB (rIsReducedWord k x) w) := sIsReducedWord_any k v x w h
end Go.Proofs.Ythakglpgcpkpaaa
