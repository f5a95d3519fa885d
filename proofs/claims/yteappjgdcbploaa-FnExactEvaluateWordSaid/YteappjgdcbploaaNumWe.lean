/- Plain arithmetic without Go: chapter 6 as data, results and codes. -/
import Derived.Test.YteappjgdcbploaaNumWd
namespace Go.Proofs.Yteappjgdcbploaa.Num

def codeW (k : Int) (ws : List (List Int)) : Int := if 0 ≤ k ∧ k ≤ 6 then (if ws.all (isWB k) = true then 0 else 1) else 2
def limC (w : List Int) : Int := if 64 < (redW w).length then 3 else 0
def limR (w : List Int) : List Int := if 64 < (redW w).length then [] else redW w
theorem codeW_no {k : Int} {ws : List (List Int)} (h : ¬ (0 ≤ k ∧ k ≤ 6)) : codeW k ws = 2 := if_neg h
theorem codeW_bad {k : Int} {ws : List (List Int)} (h : 0 ≤ k ∧ k ≤ 6) {j : Nat} (hj : j < ws.length) (hb : isWB k (ws.getD j []) = false) : codeW k ws = 1 := by
  unfold codeW
  rw [if_pos h, if_neg]
  intro ha
  have := List.all_eq_true.mp ha _ (List.getElem_mem hj)
  rw [List.getD_eq_getElem?_getD, List.getElem?_eq_getElem hj] at hb
  simp only [Option.getD_some] at hb
  rw [hb] at this
  cases this
theorem codeW_yes {k : Int} {ws : List (List Int)} (h : 0 ≤ k ∧ k ≤ 6) (hb : ∀ j, j < ws.length → isWB k (ws.getD j []) = true) : codeW k ws = 0 := by
  unfold codeW
  rw [if_pos h, if_pos]
  refine List.all_eq_true.mpr fun w hw => ?_
  obtain ⟨j, hj, rfl⟩ := List.mem_iff_getElem.mp hw
  have := hb j hj
  rwa [List.getD_eq_getElem?_getD, List.getElem?_eq_getElem hj] at this
theorem codeW_zero {k : Int} {ws : List (List Int)} (h : codeW k ws = 0) : (0 ≤ k ∧ k ≤ 6) ∧ ∀ w ∈ ws, isWB k w = true := by
  unfold codeW at h
  split at h
  · rename_i hk
    split at h
    · rename_i ha
      exact ⟨hk, fun w hw => List.all_eq_true.mp ha w hw⟩
    · omega
  · omega
theorem codeW_one {k : Int} {w : List Int} : codeW k [w] = if 0 ≤ k ∧ k ≤ 6 then (if isWB k w = true then 0 else 1) else 2 := by simp [codeW]
theorem codeW_two {k : Int} {a b : List Int} : codeW k [a, b] = if 0 ≤ k ∧ k ≤ 6 then (if isWB k a = true ∧ isWB k b = true then 0 else 1) else 2 := by simp [codeW]
theorem codeW_pad {k : Int} {w : List Int} : codeW k [w, []] = codeW k [w] := by rw [codeW_two, codeW_one]; simp [isWB_nil]
theorem codeW_cases (k : Int) (ws : List (List Int)) : codeW k ws = 0 ∨ codeW k ws = 1 ∨ codeW k ws = 2 := by
  unfold codeW
  by_cases h : 0 ≤ k ∧ k ≤ 6
  · rw [if_pos h]
    by_cases h2 : ws.all (isWB k) = true
    · rw [if_pos h2]; exact .inl rfl
    · rw [if_neg h2]; exact .inr (.inl rfl)
  · rw [if_neg h]; exact .inr (.inr rfl)
theorem limR_len (w : List Int) : (limR w).length ≤ 64 := by
  unfold limR
  by_cases h : 64 < (redW w).length
  · rw [if_pos h]; simp
  · rw [if_neg h]; omega
theorem isW_iff {k : Int} {w : List Int} : isW k w = true ↔ (0 ≤ k ∧ k ≤ 6) ∧ isWB k w = true := by simp [isW]
theorem isW_code {k : Int} {w : List Int} : isW k w = decide (codeW k [w] = 0) := by
  rw [codeW_one]; unfold isW
  by_cases h : 0 ≤ k ∧ k ≤ 6 <;> by_cases h2 : isWB k w = true <;> simp [h, h2]

end Go.Proofs.Yteappjgdcbploaa.Num
namespace Go.Proofs.Yteappjgdcbploaa
open Num
def cReduceWord (k : Int) (w : List Int) : Int := codeW k [w]
def rReduceWord (k : Int) (w : List Int) : List Int := if codeW k [w] = 0 then redW w else []
def cInvertWord (k : Int) (w : List Int) : Int := codeW k [w]
def rInvertWord (k : Int) (w : List Int) : List Int := if codeW k [w] = 0 then invW w else []
def cMultiplyWords (k : Int) (a b : List Int) : Int := if codeW k [a, b] = 0 then limC (a ++ b) else codeW k [a, b]
def rMultiplyWords (k : Int) (a b : List Int) : List Int := if codeW k [a, b] = 0 then limR (a ++ b) else []
def comW (a b : List Int) : List Int := invW a ++ invW b ++ a ++ b
def cWordCommutator (k : Int) (a b : List Int) : Int := if codeW k [a, b] = 0 then limC (comW a b) else codeW k [a, b]
def rWordCommutator (k : Int) (a b : List Int) : List Int := if codeW k [a, b] = 0 then limR (comW a b) else []
def baseW (w : List Int) (e : Int) : List Int := if e < 0 then invW w else w
def inE (e : Int) : Prop := -64 ≤ e ∧ e ≤ 64
instance (e : Int) : Decidable (inE e) := by unfold inE; infer_instance
def cWordPower (k : Int) (w : List Int) (e : Int) : Int := if codeW k [w] = 0 then (if inE e then limC (powL (baseW w e) e.natAbs) else 2) else codeW k [w]
def rWordPower (k : Int) (w : List Int) (e : Int) : List Int := if codeW k [w] = 0 then (if inE e then limR (powL (baseW w e) e.natAbs) else []) else []
def cExponentSums (k : Int) (w : List Int) : Int := codeW k [w]
def rExponentSums (k : Int) (w : List Int) : List Int := if codeW k [w] = 0 then sumW k w else []
def subC (k : Int) (w : List Int) (m : Int) (imgs : List (List Int)) : Int := if (0 ≤ k ∧ k ≤ 6) ∧ 0 ≤ m ∧ m ≤ 6 then (if isWB k w = true ∧ (imgs.length : Int) = k ∧ imgs.all (isWB m) = true then 0 else 1) else 2
def cSubstituteWord (k : Int) (w : List Int) (m : Int) (imgs : List (List Int)) : Int := if subC k w m imgs = 0 then limC (repW imgs w) else subC k w m imgs
def rSubstituteWord (k : Int) (w : List Int) (m : Int) (imgs : List (List Int)) : List Int := if subC k w m imgs = 0 then limR (repW imgs w) else []
def rIsWord (k : Int) (w : List Int) : Bool := isW k w
def rIsReducedWord (k : Int) (w : List Int) : Bool := isW k w && decide (redW w = w)

/-! ### What the law of the group asks -/
theorem com_empty (a b : List Int) : redW (comW a b) = [] ↔ redW (a ++ b) = redW (b ++ a) := by
  constructor
  · intro h
    have h1 : redW (b ++ a ++ comW a b) = redW (a ++ b) := by
      unfold comW redW
      rw [show b ++ a ++ (invW a ++ invW b ++ a ++ b) = b ++ ((a ++ invW a) ++ (invW b ++ (a ++ b))) by simp]
      rw [redF_app, redF_app, redF_inv (Rd.red Rd.nil b), redF_app, ← redF_app [] b, redF_inv Rd.nil]
    rw [← redW_right, h, List.append_nil] at h1
    exact h1.symm
  · intro h
    have h1 : redW (invW a ++ invW b ++ (a ++ b)) = redW (invW a ++ invW b ++ (b ++ a)) := by
      rw [← redW_right, h, redW_right]
    have h2 : comW a b = invW a ++ invW b ++ (a ++ b) := by simp [comW]
    rw [h2, h1]
    unfold redW
    rw [show invW a ++ invW b ++ (b ++ a) = invW a ++ ((invW b ++ b) ++ a) by simp]
    rw [redF_app, redF_app, redF_inv' (Rd.red Rd.nil _), ← redF_app, redF_inv' Rd.nil]
theorem mul_inv (a : List Int) : redW (a ++ invW a) = [] := redF_inv Rd.nil a
theorem mul_assoc' (a b c : List Int) : redW (redW (a ++ b) ++ c) = redW (a ++ redW (b ++ c)) := by
  rw [redW_left, redW_right, List.append_assoc]
theorem red_red (w : List Int) : redW (redW w) = redW w := Rd.redW w
theorem isWB_red {k : Int} {w : List Int} (h : ∀ z ∈ w, z ≠ 0 ∧ -k ≤ z ∧ z ≤ k) (hl : (redW w).length ≤ 64) : isWB k (redW w) = true :=
  isWB_iff.mpr ⟨hl, fun z hz => by
    rcases redF_mem hz with h1 | h1
    · simp at h1
    · exact h z h1⟩
theorem isWB_inv {k : Int} {w : List Int} (h : isWB k w = true) : isWB k (invW w) = true := by
  obtain ⟨h1, h2⟩ := isWB_iff.mp h
  refine isWB_iff.mpr ⟨by rw [invW_len]; exact h1, fun z hz => ?_⟩
  simp only [invW, List.mem_reverse, List.mem_map] at hz
  obtain ⟨y, hy, rfl⟩ := hz
  have := h2 y hy
  omega
end Go.Proofs.Yteappjgdcbploaa
