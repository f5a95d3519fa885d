/- Tables of integers: what makes them valid; determinants by the first row. -/
import Derived.Test.YtihdidbikeaafaaKA
namespace Go.Proofs.Ytihdidbikeaafaa.Num
set_option linter.unusedVariables false

def entB (xs : List Int) : Bool := xs.all fun x => decide (-64 ≤ x ∧ x ≤ 64)
theorem entB_bad {xs : List Int} {k : Nat} (hk : k < xs.length) (h : ¬ (-64 ≤ xs.getD k 0 ∧ xs.getD k 0 ≤ 64)) : entB xs = false := by
  cases hv : entB xs with
  | false => rfl
  | true =>
    exfalso
    simp only [entB] at hv
    have := all_get hv hk
    simp at this
    apply h
    simpa [hk] using this
theorem entB_ok {xs : List Int} (h : ∀ k, k < xs.length → -64 ≤ xs.getD k 0 ∧ xs.getD k 0 ≤ 64) : entB xs = true := by
  simp only [entB, List.all_eq_true, decide_eq_true_eq]
  intro x hx
  obtain ⟨k, hk, rfl⟩ := List.mem_iff_getElem.mp hx
  simpa [hk] using h k hk
theorem entB_out {xs : List Int} (h : entB xs = true) : ∀ k, -64 ≤ xs.getD k 0 ∧ xs.getD k 0 ≤ 64 := by
  intro k
  by_cases hk : k < xs.length
  · have := all_get h hk
    simp at this
    simpa [hk] using this
  · rw [show xs.getD k 0 = 0 by simp [hk]]; omega
/-- A row of a table with C columns. -/
def rowT (C : Int) (xs : List Int) : Bool := decide ((xs.length : Int) = C) && entB xs
theorem rowT_len {C : Int} {xs : List Int} (h : ¬ ((xs.length : Int) = C)) : rowT C xs = false := by simp [rowT, h]
theorem rowT_ent {C : Int} {xs : List Int} (h : entB xs = false) : rowT C xs = false := by simp [rowT, h]
theorem rowT_ok {C : Int} {xs : List Int} (h : (xs.length : Int) = C) (h' : entB xs = true) : rowT C xs = true := by simp [rowT, h, h']
theorem rowT_out {C : Int} {xs : List Int} (h : rowT C xs = true) : (xs.length : Int) = C ∧ entB xs = true := by simpa [rowT] using h
def tabB (C : Int) (xss : List (List Int)) : Bool := decide (1 ≤ C ∧ C ≤ 4) && decide (xss.length ≤ 12) && xss.all (rowT C)
theorem tabB_bad {C : Int} {xss : List (List Int)} {k : Nat} (hk : k < xss.length) (h : rowT C (xss.getD k []) = false) : tabB C xss = false := by
  cases hv : tabB C xss with
  | false => rfl
  | true =>
    exfalso
    simp only [tabB, Bool.and_eq_true] at hv
    have := all_get hv.2 hk
    simp [hk] at h
    simp [h] at this
theorem tabB_ok {C : Int} {xss : List (List Int)} (h1 : 1 ≤ C) (h2 : C ≤ 4) (h3 : xss.length ≤ 12) (h : ∀ k, k < xss.length → rowT C (xss.getD k []) = true) : tabB C xss = true := by
  simp only [tabB, Bool.and_eq_true, List.all_eq_true, decide_eq_true_eq]
  refine ⟨⟨⟨h1, h2⟩, h3⟩, fun x hx => ?_⟩
  obtain ⟨k, hk, rfl⟩ := List.mem_iff_getElem.mp hx
  simpa [hk] using h k hk
theorem tabB_out {C : Int} {xss : List (List Int)} (h : tabB C xss = true) : 1 ≤ C ∧ C ≤ 4 ∧ xss.length ≤ 12 ∧ ∀ k, k < xss.length → rowT C (xss.getD k []) = true := by
  simp only [tabB, Bool.and_eq_true, decide_eq_true_eq] at h
  obtain ⟨⟨h1, h2⟩, h3⟩ := h
  refine ⟨h1.1, h1.2, h2, fun k hk => ?_⟩
  have := all_get h3 hk
  simpa [hk] using this
theorem tabB_no1 {C : Int} {xss : List (List Int)} (h : ¬ (1 ≤ C ∧ C ≤ 4)) : tabB C xss = false := by simp [tabB, h]
theorem tabB_no2 {C : Int} {xss : List (List Int)} (h : 12 < xss.length) : tabB C xss = false := by
  have : ¬ xss.length ≤ 12 := by omega
  simp [tabB, this]
/-- How a table fails. -/
theorem tabB_cases (C : Int) (xss : List (List Int)) : C < 1 ∨ (1 ≤ C ∧ 4 < C) ∨ (1 ≤ C ∧ C ≤ 4 ∧ 12 < xss.length) ∨ (1 ≤ C ∧ C ≤ 4 ∧ xss.length ≤ 12) := by
  omega

/-! ### Determinants -/
def sgA (i : Nat) : Int := if i % 2 = 0 then 1 else -1
theorem sgA_zero : sgA 0 = 1 := rfl
theorem sgA_succ (i : Nat) : sgA (i + 1) = -sgA i := by
  unfold sgA
  by_cases h : i % 2 = 0
  · rw [if_pos h, if_neg (by omega)]
  · rw [if_neg h, if_pos (by omega)]; rfl
theorem sgA_bd (i : Nat) : sgA i = 1 ∨ sgA i = -1 := by
  unfold sgA
  by_cases h : i % 2 = 0
  · exact .inl (if_pos h)
  · exact .inr (if_neg h)
/-- An alternating sum. -/
def altS (f : Nat → Int) : Nat → Int
  | 0 => 0
  | i + 1 => altS f i + sgA i * f i
theorem altS_bd {f : Nat → Int} {K : Int} (hK : 0 ≤ K) : ∀ n : Nat, (∀ i, i < n → -K ≤ f i ∧ f i ≤ K) → -((n : Int) * K) ≤ altS f n ∧ altS f n ≤ (n : Int) * K
  | 0, _ => by simp [altS]
  | n + 1, h => by
    have ih := altS_bd hK n fun i hi => h i (by omega)
    have h' := h n (by omega)
    show -(((n + 1 : Nat) : Int) * K) ≤ altS f n + sgA n * f n ∧ altS f n + sgA n * f n ≤ ((n + 1 : Nat) : Int) * K
    have e : ((n + 1 : Nat) : Int) * K = (n : Int) * K + K := by rw [Int.natCast_add]; simp [Int.add_mul]
    rw [e]
    rcases sgA_bd n with s | s <;> rw [s] <;> omega
theorem altS_congr {f g : Nat → Int} : ∀ n : Nat, (∀ i, i < n → f i = g i) → altS f n = altS g n
  | 0, _ => rfl
  | n + 1, h => by
    show altS f n + sgA n * f n = altS g n + sgA n * g n
    rw [altS_congr n fun i hi => h i (by omega), h n (by omega)]
/-- The determinant of the first n rows, by the first of them. -/
def detL : Nat → List (List Int) → Int
  | 0, _ => 1
  | n + 1, rows => altS (fun c => (rows.getD 0 []).getD c 0 * detL n ((rows.drop 1).map (·.eraseIdx c))) (n + 1)
/-- The terms of its sum. -/
def term (n : Nat) (rows : List (List Int)) (c : Nat) : Int := (rows.getD 0 []).getD c 0 * detL n ((rows.drop 1).map (·.eraseIdx c))
theorem detL_succ (n : Nat) (rows : List (List Int)) : detL (n + 1) rows = altS (term n rows) (n + 1) := rfl
def detK : Nat → Int
  | 0 => 1
  | n + 1 => ((n : Int) + 1) * (64 * detK n)
theorem detK_pos : ∀ n, 0 ≤ detK n
  | 0 => by decide
  | n + 1 => Int.mul_nonneg (by omega) (Int.mul_nonneg (by omega) (detK_pos n))
theorem mul_bd {a b A B : Int} (ha : -A ≤ a ∧ a ≤ A) (hb : -B ≤ b ∧ b ≤ B) : -(A * B) ≤ a * b ∧ a * b ≤ A * B := by
  have hA : 0 ≤ A := by omega
  have hB : 0 ≤ B := by omega
  have h1 : 0 ≤ (A - a) * (B + b) := Int.mul_nonneg (by omega) (by omega)
  have h2 : 0 ≤ (A + a) * (B - b) := Int.mul_nonneg (by omega) (by omega)
  have h3 : 0 ≤ (A + a) * (B + b) := Int.mul_nonneg (by omega) (by omega)
  have h4 : 0 ≤ (A - a) * (B - b) := Int.mul_nonneg (by omega) (by omega)
  simp only [Int.sub_mul, Int.add_mul, Int.mul_sub, Int.mul_add] at h1 h2 h3 h4
  omega
/-- All numbers are small. -/
def Small (rows : List (List Int)) : Prop := ∀ r, r ∈ rows → ∀ x, x ∈ r → -64 ≤ x ∧ x ≤ 64
theorem Small.get {rows : List (List Int)} (h : Small rows) (i c : Nat) : -64 ≤ (rows.getD i []).getD c 0 ∧ (rows.getD i []).getD c 0 ≤ 64 := by
  by_cases hi : i < rows.length
  · rw [show rows.getD i [] = rows[i] by simp [hi]]
    by_cases hc : c < rows[i].length
    · rw [show rows[i].getD c 0 = rows[i][c] by simp [hc]]
      exact h _ (List.getElem_mem hi) _ (List.getElem_mem hc)
    · rw [show rows[i].getD c 0 = 0 by simp [hc]]; omega
  · rw [show rows.getD i [] = [] by simp [hi]]; simp
theorem Small.minor {rows : List (List Int)} (h : Small rows) (c : Nat) : Small ((rows.drop 1).map (·.eraseIdx c)) := by
  intro r hr x hx
  obtain ⟨r', hr', rfl⟩ := List.mem_map.mp hr
  exact h r' (List.mem_of_mem_drop hr') x (List.mem_of_mem_eraseIdx hx)
theorem detL_bd : ∀ (n : Nat) (rows : List (List Int)), Small rows → -detK n ≤ detL n rows ∧ detL n rows ≤ detK n
  | 0, _, _ => by show -(1 : Int) ≤ 1 ∧ (1 : Int) ≤ 1; omega
  | n + 1, rows, h => by
    have hK : 0 ≤ 64 * detK n := Int.mul_nonneg (by omega) (detK_pos n)
    have := altS_bd (f := term n rows) hK (n + 1) fun c _ => mul_bd (h.get 0 c) (detL_bd n _ (h.minor c))
    rw [detL_succ]
    have e : detK (n + 1) = ((n + 1 : Nat) : Int) * (64 * detK n) := by
      show ((n : Int) + 1) * (64 * detK n) = _
      rw [Int.natCast_add]; rfl
    rw [e]
    exact this
theorem term_bd {n : Nat} {rows : List (List Int)} (h : Small rows) (c : Nat) : -(64 * detK n) ≤ term n rows c ∧ term n rows c ≤ 64 * detK n := mul_bd (h.get 0 c) (detL_bd n _ (h.minor c))
theorem altS_term_bd {n : Nat} {rows : List (List Int)} (h : Small rows) (k : Nat) : -((k : Int) * (64 * detK n)) ≤ altS (term n rows) k ∧ altS (term n rows) k ≤ (k : Int) * (64 * detK n) :=
  altS_bd (Int.mul_nonneg (by omega) (detK_pos n)) k fun c _ => term_bd h c
theorem tabB_small {C : Int} {xss : List (List Int)} (h : tabB C xss = true) : Small xss := by
  obtain ⟨_, _, _, hr⟩ := tabB_out h
  intro r hr' x hx
  obtain ⟨i, hi, rfl⟩ := List.mem_iff_getElem.mp hr'
  obtain ⟨c, hc, rfl⟩ := List.mem_iff_getElem.mp hx
  have := entB_out (rowT_out (hr i hi)).2 c
  simpa [hi, hc] using this
/-- The part of the rows in some columns. -/
def pick (rows : List (List Int)) (cols : List Nat) : List (List Int) := rows.map fun r => cols.map fun c => r.getD c 0
theorem map_erase {α β : Type} (f : α → β) : ∀ (l : List α) (i : Nat), (l.eraseIdx i).map f = (l.map f).eraseIdx i
  | [], _ => rfl
  | _ :: _, 0 => rfl
  | a :: l, i + 1 => by simp [List.eraseIdx, map_erase f l i]
theorem pick_minor (rows : List (List Int)) (cols : List Nat) (i : Nat) : pick (rows.drop 1) (cols.eraseIdx i) = ((pick rows cols).drop 1).map (·.eraseIdx i) := by
  unfold pick
  rw [← List.map_drop, List.map_map]
  apply List.map_congr_left
  intro r _
  show _ = List.eraseIdx _ i
  exact map_erase _ _ _
theorem pick_get {rows : List (List Int)} {cols : List Nat} {c : Nat} (hr : 0 < rows.length) (hc : c < cols.length) : ((pick rows cols).getD 0 []).getD c 0 = (rows.getD 0 []).getD (cols.getD c 0) 0 := by
  unfold pick
  simp [hr, hc]
theorem pick_small {rows : List (List Int)} {cols : List Nat} (h : Small rows) : Small (pick rows cols) := by
  intro r hr x hx
  obtain ⟨r', hr', rfl⟩ := List.mem_map.mp hr
  obtain ⟨c, hc, rfl⟩ := List.mem_map.mp hx
  obtain ⟨i, hi, rfl⟩ := List.mem_iff_getElem.mp hr'
  have := h.get i c
  simpa [hi] using this
theorem pick_all {n : Nat} {rows : List (List Int)} (h : ∀ r, r ∈ rows → r.length = n) : pick rows (List.range n) = rows := by
  unfold pick
  conv => rhs; rw [← List.map_id rows]
  apply List.map_congr_left
  intro r hr
  have hl := h r hr
  apply List.ext_getElem
  · simp [hl]
  · intro i h1 h2
    simp at h1
    simp [hl, h1]
end Go.Proofs.Ytihdidbikeaafaa.Num
