/- Plain arithmetic without Go: presentations as data (orders, exponents within bounds, what is valid). -/
import Derived.Test.YteappjgdcbploaaNumJ
namespace Go.Proofs.Yteappjgdcbploaa.Num
set_option linter.unusedVariables false
set_option linter.unusedSimpArgs false

/-- The product of relative orders, as far as it is at most 729. -/
def prod7 : Int → List Int → Int
  | a, [] => a
  | a, x :: xs => prod7 (if a ≤ 729 then a * x else a) xs
theorem prod7_over : ∀ (xs : List Int) {a : Int}, 729 < a → prod7 a xs = a
  | [], _, _ => rfl
  | x :: xs, a, h => by rw [prod7, if_neg (by omega), prod7_over xs h]
theorem prod7_eq : ∀ (xs : List Int) (a : Int), 1 ≤ a → (∀ x, x ∈ xs → 1 ≤ x) → (a * prodZ xs ≤ 729 → prod7 a xs = a * prodZ xs) ∧ (729 < a * prodZ xs → 729 < prod7 a xs)
  | [], a, _, _ => by simp [prod7, prodZ]
  | x :: xs, a, ha, h => by
    have hx := h x (by simp)
    have h' : ∀ y, y ∈ xs → 1 ≤ y := fun y hy => h y (by simp [hy])
    have hp := prodZ_pos h'
    have hax := Int.mul_le_mul ha hx (by omega) (by omega)
    have e : a * prodZ (x :: xs) = a * x * prodZ xs := by rw [show prodZ (x :: xs) = x * prodZ xs from rfl, Int.mul_assoc]
    rw [e, prod7]
    by_cases hc : a ≤ 729
    · rw [if_pos hc]
      exact prod7_eq xs (a * x) (by omega) h'
    · rw [if_neg hc, prod7_over xs (by omega)]
      have h1 : a * 1 ≤ a * x := Int.mul_le_mul_of_nonneg_left hx (by omega)
      have h2 : a * x * 1 ≤ a * x * prodZ xs := Int.mul_le_mul_of_nonneg_left hp (by omega)
      exact ⟨fun _ => by omega, fun _ => by omega⟩
theorem prod7_step {xs : List Int} {j : Nat} (hj : j < xs.length) (a : Int) : prod7 a (xs.drop j) = prod7 (if a ≤ 729 then a * xs.getD j 0 else a) (xs.drop (j + 1)) := by
  rw [List.drop_eq_getElem_cons hj]
  simp [prod7, hj]

theorem gp_range {n : Int} (h : gp n = true) : 2 ≤ n ∧ n ≤ 7 := by
  simp only [gp, decide_eq_true_eq] at h
  omega
def gpsB (O : List Int) : Bool := decide (∀ j, j < O.length → gp (O.getD j 0) = true)
theorem gpsB_out {O : List Int} (h : gpsB O = true) : ∀ j, j < O.length → gp (O.getD j 0) = true := of_decide_eq_true h
theorem gpsB_ok {O : List Int} (h : ∀ j, j < O.length → gp (O.getD j 0) = true) : gpsB O = true := decide_eq_true h
theorem gpsB_bad {O : List Int} {j : Nat} (hj : j < O.length) (h : gp (O.getD j 0) = false) : gpsB O = false := decide_eq_false fun hh => by rw [hh j hj] at h; cases h
theorem gpsB_mem {O : List Int} (h : gpsB O = true) : ∀ x, x ∈ O → 2 ≤ x ∧ x ≤ 7 := fun x hx => by
  obtain ⟨j, hj, rfl⟩ := List.getElem_of_mem hx
  have := gpsB_out h j hj
  rw [List.getD_eq_getElem?_getD, List.getElem?_eq_getElem hj] at this
  exact gp_range this
theorem gpsB_at {O : List Int} (h : gpsB O = true) {j : Nat} (hj : j < O.length) : 2 ≤ O.getD j 0 ∧ O.getD j 0 ≤ 7 := gp_range (gpsB_out h j hj)
theorem prodZ_pow : ∀ (xs : List Int), (∀ x, x ∈ xs → 1 ≤ x ∧ x ≤ 7) → prodZ xs ≤ 7 ^ xs.length
  | [], _ => by simp [prodZ]
  | x :: xs, h => by
    have h1 := h x (by simp)
    have h2 := prodZ_pow xs fun y hy => h y (by simp [hy])
    have h3 := prodZ_pos (xs := xs) fun y hy => (h y (by simp [hy])).1
    rw [prodZ, List.length_cons, Int.pow_succ, Int.mul_comm]
    exact Int.mul_le_mul h2 h1.2 (by omega) (by omega)
theorem prodZ_small {xs : List Int} (hl : xs.length ≤ 6) (h : gpsB xs = true) : 1 ≤ prodZ xs ∧ prodZ xs ≤ 117649 := by
  have hm := gpsB_mem h
  refine ⟨prodZ_pos fun x hx => by have := hm x hx; omega, ?_⟩
  have h1 := prodZ_pow xs fun x hx => by have := hm x hx; omega
  have h2 : (7 : Int) ^ xs.length ≤ 7 ^ 6 := by
    generalize xs.length = m at hl
    match m, hl with
    | 0, _ => decide
    | 1, _ => decide
    | 2, _ => decide
    | 3, _ => decide
    | 4, _ => decide
    | 5, _ => decide
    | 6, _ => decide
  have h3 : (7 : Int) ^ 6 = 117649 := by decide
  omega
/-- The code of relative orders. -/
def ordC (O : List Int) : Int := if 6 < O.length then 3 else if gpsB O = false then 2 else if 729 < prodZ O then 3 else 0
theorem ordC_len {O : List Int} (h : 6 < O.length) : ordC O = 3 := if_pos h
theorem ordC_bad {O : List Int} (h : ¬ 6 < O.length) (h' : gpsB O = false) : ordC O = 2 := by rw [ordC, if_neg h, if_pos h']
theorem ordC_big {O : List Int} (h : ¬ 6 < O.length) (h' : gpsB O = true) (h3 : 729 < prodZ O) : ordC O = 3 := by rw [ordC, if_neg h, if_neg (by rw [h']; simp), if_pos h3]
theorem ordC_ok {O : List Int} (h : ¬ 6 < O.length) (h' : gpsB O = true) (h3 : ¬ 729 < prodZ O) : ordC O = 0 := by rw [ordC, if_neg h, if_neg (by rw [h']; simp), if_neg h3]
theorem ordC_zero {O : List Int} (h : ordC O = 0) : O.length ≤ 6 ∧ gpsB O = true ∧ prodZ O ≤ 729 := by
  unfold ordC at h
  split at h
  · omega
  · split at h
    · omega
    · split at h
      · omega
      · next h1 h2 h3 => exact ⟨by omega, by simpa using h2, by omega⟩
theorem ordC_cases {O : List Int} (h : ordC O ≠ 0) : 6 < O.length ∨ (O.length ≤ 6 ∧ gpsB O = false) ∨ (O.length ≤ 6 ∧ gpsB O = true ∧ 729 < prodZ O) := by
  by_cases h1 : 6 < O.length
  · exact .inl h1
  · cases h2 : gpsB O with
    | false => exact .inr (.inl ⟨by omega, rfl⟩)
    | true =>
      refine .inr (.inr ⟨by omega, rfl, ?_⟩)
      by_cases h3 : 729 < prodZ O
      · exact h3
      · exact absurd (ordC_ok h1 h2 h3) h
theorem cnt_small {O : List Int} (hl : O.length ≤ 6) (h : gpsB O = true) : cnt O = prodZ O ∧ cntC O = 0 := by
  have hm := gpsB_mem h
  have hs := prodZ_small hl h
  have e : prodLim 1 O = some (prodZ O) := by
    rw [prodLim_eq O 1 (by omega) (by omega) (fun x hx => by have := hm x hx; omega), if_pos (by omega), Int.one_mul]
  unfold cnt cntC
  rw [e]
  exact ⟨rfl, rfl⟩
theorem prod7_of {O : List Int} (h : gpsB O = true) : (prodZ O ≤ 729 → prod7 1 O = prodZ O) ∧ (729 < prodZ O → 729 < prod7 1 O) := by
  have hm := gpsB_mem h
  have := prod7_eq O 1 (by omega) fun x hx => by have := hm x hx; omega
  rwa [Int.one_mul] at this

/-! ### Exponents -/
/-- An exponent fits the orders, with zeros up to an index. -/
def Fit (O v : List Int) (z j : Nat) : Prop := 0 ≤ v.getD j 0 ∧ v.getD j 0 < O.getD j 0 ∧ (j < z → v.getD j 0 = 0)
instance (O v : List Int) (z j : Nat) : Decidable (Fit O v z j) := by unfold Fit; infer_instance
def fitB (O v : List Int) (z : Nat) : Bool := decide (v.length = O.length) && decide (∀ j, j < v.length → Fit O v z j)
theorem fitB_out {O v : List Int} {z : Nat} (h : fitB O v z = true) : v.length = O.length ∧ ∀ j, j < v.length → Fit O v z j := by simpa [fitB] using h
theorem fitB_ok {O v : List Int} {z : Nat} (h : v.length = O.length) (h' : ∀ j, j < v.length → Fit O v z j) : fitB O v z = true := by
  unfold fitB
  rw [decide_eq_true h, decide_eq_true h']
  rfl
theorem fitB_len {O v : List Int} {z : Nat} (h : v.length ≠ O.length) : fitB O v z = false := by simp [fitB, h]
theorem fitB_bad {O v : List Int} {z j : Nat} (hj : j < v.length) (h : ¬ Fit O v z j) : fitB O v z = false := by
  cases hv : fitB O v z with
  | false => rfl
  | true => exact absurd ((fitB_out hv).2 j hj) h
/-- Exponents below bounds. -/
def Blw (v B : List Int) (j : Nat) : Prop := 0 ≤ v.getD j 0 ∧ v.getD j 0 < B.getD j 0
instance (v B : List Int) (j : Nat) : Decidable (Blw v B j) := by unfold Blw; infer_instance
def blwB (v B : List Int) : Bool := decide (v.length = B.length) && decide (∀ j, j < v.length → Blw v B j)
theorem blwB_out {v B : List Int} (h : blwB v B = true) : v.length = B.length ∧ ∀ j, j < v.length → Blw v B j := by simpa [blwB] using h
theorem blwB_ok {v B : List Int} (h : v.length = B.length) (h' : ∀ j, j < v.length → Blw v B j) : blwB v B = true := by
  unfold blwB
  rw [decide_eq_true h, decide_eq_true h']
  rfl
theorem blwB_len {v B : List Int} (h : v.length ≠ B.length) : blwB v B = false := by simp [blwB, h]
theorem blwB_bad {v B : List Int} {j : Nat} (hj : j < v.length) (h : ¬ Blw v B j) : blwB v B = false := by
  cases hv : blwB v B with
  | false => rfl
  | true => exact absurd ((blwB_out hv).2 j hj) h
theorem getD_rep_drop (O : List Int) (z j : Nat) (hz : z ≤ O.length) : (List.replicate z (1 : Int) ++ O.drop z).getD j 0 = if j < z then 1 else O.getD j 0 := by
  simp only [List.getD_eq_getElem?_getD]
  by_cases h : j < z
  · rw [if_pos h, List.getElem?_append_left (by simpa using h), List.getElem?_replicate, if_pos h]
    rfl
  · rw [if_neg h, List.getElem?_append_right (by simp; omega), List.length_replicate, List.getElem?_drop, show z + (j - z) = j by omega]
theorem blw_fit {O v : List Int} {z : Nat} (hz : z ≤ O.length) (ho : ∀ j, j < O.length → 1 ≤ O.getD j 0) : blwB v (List.replicate z 1 ++ O.drop z) = fitB O v z := by
  have hl : (List.replicate z (1 : Int) ++ O.drop z).length = O.length := by simp; omega
  by_cases h : v.length = O.length
  · rw [Bool.eq_iff_iff]
    constructor
    · intro hb
      obtain ⟨-, h2⟩ := blwB_out hb
      refine fitB_ok h fun j hj => ?_
      have := h2 j hj
      unfold Blw at this
      rw [getD_rep_drop O z j hz] at this
      have ho' := ho j (by omega)
      unfold Fit
      by_cases hc : j < z
      · rw [if_pos hc] at this; exact ⟨this.1, by omega, fun _ => by omega⟩
      · rw [if_neg hc] at this; exact ⟨this.1, this.2, fun h => absurd h hc⟩
    · intro hb
      obtain ⟨-, h2⟩ := fitB_out hb
      refine blwB_ok (by rw [hl]; exact h) fun j hj => ?_
      have := h2 j hj
      unfold Fit at this
      unfold Blw
      rw [getD_rep_drop O z j hz]
      by_cases hc : j < z
      · rw [if_pos hc, this.2.2 hc]; omega
      · rw [if_neg hc]; exact ⟨this.1, this.2.1⟩
  · rw [blwB_len (by rw [hl]; exact h), fitB_len h]
theorem blw_fit0 {O v : List Int} : blwB v O = fitB O v 0 := by
  unfold blwB fitB
  congr 1
  refine decide_eq_decide.mpr ⟨fun h j hj => ⟨(h j hj).1, (h j hj).2, fun h => by omega⟩, fun h j hj => ⟨(h j hj).1, (h j hj).2.1⟩⟩
/-- The conjugates by one generator. -/
def conB (O : List Int) (i : Nat) (r : List (List Int)) : Bool := decide (r.length = O.length - 1 - i) && decide (∀ k, k < r.length → fitB O (r.getD k []) (i + 1) = true)
theorem conB_out {O : List Int} {i : Nat} {r : List (List Int)} (h : conB O i r = true) : r.length = O.length - 1 - i ∧ ∀ k, k < r.length → fitB O (r.getD k []) (i + 1) = true := by simpa [conB] using h
theorem conB_ok {O : List Int} {i : Nat} {r : List (List Int)} (h : r.length = O.length - 1 - i) (h' : ∀ k, k < r.length → fitB O (r.getD k []) (i + 1) = true) : conB O i r = true := by
  unfold conB
  rw [decide_eq_true h, decide_eq_true h']
  rfl
/-- What is a valid presentation. -/
def preB (O : List Int) (W : List (List Int)) (J : List (List (List Int))) : Bool :=
  decide (ordC O = 0) && decide (W.length = O.length) && decide (J.length = O.length) && decide (∀ i, i < O.length → fitB O (W.getD i []) (i + 1) = true) && decide (∀ i, i < O.length → conB O i (J.getD i []) = true)
theorem preB_out {O : List Int} {W : List (List Int)} {J : List (List (List Int))} (h : preB O W J = true) :
    ordC O = 0 ∧ W.length = O.length ∧ J.length = O.length ∧ (∀ i, i < O.length → fitB O (W.getD i []) (i + 1) = true) ∧ ∀ i, i < O.length → conB O i (J.getD i []) = true := by
  simp only [preB, Bool.and_eq_true, decide_eq_true_eq] at h
  exact ⟨h.1.1.1.1, h.1.1.1.2, h.1.1.2, h.1.2, h.2⟩
theorem preB_ok {O : List Int} {W : List (List Int)} {J : List (List (List Int))} (h1 : ordC O = 0) (h2 : W.length = O.length) (h3 : J.length = O.length) (h4 : ∀ i, i < O.length → fitB O (W.getD i []) (i + 1) = true)
    (h5 : ∀ i, i < O.length → conB O i (J.getD i []) = true) : preB O W J = true := by
  simp only [preB, Bool.and_eq_true, decide_eq_true_eq]
  exact ⟨⟨⟨⟨h1, h2⟩, h3⟩, h4⟩, h5⟩
theorem preB_no {O : List Int} {W : List (List Int)} {J : List (List (List Int))} (h : ¬ (ordC O = 0 ∧ W.length = O.length ∧ J.length = O.length ∧ (∀ i, i < O.length → fitB O (W.getD i []) (i + 1) = true) ∧ ∀ i, i < O.length → conB O i (J.getD i []) = true)) : preB O W J = false := by
  cases hv : preB O W J with
  | false => rfl
  | true => exact absurd (preB_out hv) h
end Go.Proofs.Yteappjgdcbploaa.Num
