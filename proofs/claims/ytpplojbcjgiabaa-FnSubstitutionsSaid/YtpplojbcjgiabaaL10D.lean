/- Words: slices.Equal at whole numbers, ReduceWord, IsReducedWord. -/
import Derived.Test.YtpplojbcjgiabaaL10C
namespace Go.Proofs.Ytpplojbcjgiabaa
open Go.RowKit
set_option linter.unusedVariables false
set_option linter.unusedSimpArgs false

theorem Num.extW {xs ys : List Int} (hl : xs.length = ys.length) (h : ∀ i, i < xs.length → xs.getD i 0 = ys.getD i 0) : xs = ys := by
  refine List.ext_getElem hl fun i h1 h2 => ?_
  have := h i h1
  rwa [List.getD_eq_getElem?_getD, List.getD_eq_getElem?_getD, List.getElem?_eq_getElem h1, List.getElem?_eq_getElem h2] at this
theorem word_bd {k : Int} {x : List Int} (h : Num.codeW k [x] = 0) : x.length ≤ 64 ∧ Num.SmallW x := by
  obtain ⟨h1, h2⟩ := Num.codeW_zero h
  have := h2 x (by simp)
  exact ⟨(Num.isWB_iff.mp this).1, Num.isWB_small h1.2 this⟩
theorem one_bd {x : List Int} (h : x.length ≤ 64) : ∀ i, i < [x].length → ([x].getD i []).length ≤ 64 := by
  intro i hi; match i, hi with
  | 0, _ => exact h
  | i + 1, hi => simp at hi
theorem one_sm {x : List Int} (h : Num.SmallW x) : ∀ i, i < [x].length → Num.SmallW ([x].getD i []) := by
  intro i hi; match i, hi with
  | 0, _ => exact h
  | i + 1, hi => simp at hi
/-- The product of one word in a literal. -/
theorem product_one (A : Option Addr) (c : Nat) (x : List Int) (w : World) (h : RdI w A x) (hl : x.length ≤ 64) (hs : Num.SmallW x) :
    Calls Try.prog 60 #[.slice (some ⟨w.heap.size, 0, none⟩) 1 1] (w.alloc (.cells #[.slice A x.length c] 24)) fun e w' => ∃ v, e = .returned v ∧ OwnI w' w.heap.size v (Num.redW x) ∧ Below w.heap.size w w' := by
  have := wordProduct_any (some ⟨w.heap.size, 0, none⟩) 1 [x] _ (RdW.lit1 c 24 h (by unfold maxLen; omega)) (by simp) (one_bd hl) (one_sm hs)
  refine this.mono ?_
  rintro e w' ⟨v, rfl, own, bel⟩
  have b0 : Below w.heap.size w (w.alloc (.cells #[.slice A x.length c] 24)) := by go_grown
  refine ⟨v, rfl, ?_, bstep b0 b0.size bel⟩
  have e1 : [x].flatten = x := by simp
  rw [e1] at own
  exact own.base_ b0.size
theorem codes_one (k : Int) (A : Option Addr) (c : Nat) (x : List Int) (w : World) (h : RdI w A x) (hl : x.length ≤ maxLen) :
    Calls Try.prog 29 #[.int .i64 k, .slice (some ⟨w.heap.size, 0, none⟩) 1 1] (w.alloc (.cells #[.slice A x.length c] 24)) fun e w' => e = .returned (.int .i64 (Num.codeW k [x])) ∧ (w.alloc (.cells #[.slice A x.length c] 24)) = w' :=
  wordsCode_any k _ 1 1 [x] _ (RdW.lit1 c 24 h hl) rfl (by unfold maxLen; simp)
end Go.Proofs.Ytpplojbcjgiabaa
