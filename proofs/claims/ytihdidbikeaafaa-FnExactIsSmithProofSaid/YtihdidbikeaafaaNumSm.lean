/- Plain arithmetic without Go: rows of whole numbers added up, products of tables, diagonals. -/
import Derived.Test.YtihdidbikeaafaaNumI
namespace Go.Proofs.Ytihdidbikeaafaa.Num

def addZF (c : Int) (xs ys : List Int) (i : Nat) : Int := xs.getD i 0 + c * ys.getD i 0
/-- A multiple of a row added to another one. -/
def addZ (c : Int) (xs ys : List Int) : List Int := tab xs.length (addZF c xs ys)
theorem addZ_len (c : Int) (xs ys : List Int) : (addZ c xs ys).length = xs.length := tab_length _ _
/-- The sum of multiples of rows, k of them. -/
def rowZ (n : Nat) (x : List Int) (R : List (List Int)) : Nat → List Int
  | 0 => List.replicate n 0
  | k + 1 => addZ (x.getD k 0) (rowZ n x R k) (R.getD k [])
theorem rowZ_len (n : Nat) (x : List Int) (R : List (List Int)) : ∀ k, (rowZ n x R k).length = n
  | 0 => by simp [rowZ]
  | k + 1 => by rw [rowZ, addZ_len, rowZ_len n x R k]
/-- The product; m is how many rows the right factor has. -/
def mulZ (n m : Nat) (A B : List (List Int)) : List (List Int) := A.map fun x => rowZ n x B m
theorem mulZ_len (n m : Nat) (A B : List (List Int)) : (mulZ n m A B).length = A.length := by simp [mulZ]
theorem mulZ_get {n m : Nat} {A B : List (List Int)} {i : Nat} (hi : i < A.length) : (mulZ n m A B).getD i [] = rowZ n (A.getD i []) B m := by
  unfold mulZ
  simp [hi]
def BdN (p : Nat) (xs : List Int) : Prop := ∀ i, (xs.getD i 0).natAbs ≤ p
theorem addZF_bd {p q r : Nat} {c : Int} {xs ys : List Int} (h1 : BdN p xs) (h2 : c.natAbs ≤ q) (h3 : BdN r ys) (i : Nat) : (c * ys.getD i 0).natAbs ≤ q * r ∧ (addZF c xs ys i).natAbs ≤ p + q * r := by
  have e1 : (c * ys.getD i 0).natAbs ≤ q * r := by rw [Int.natAbs_mul]; exact Nat.mul_le_mul h2 (h3 i)
  have := h1 i
  unfold addZF
  omega
theorem tab_bd {p : Nat} {n : Nat} {f : Nat → Int} (h : ∀ i, (f i).natAbs ≤ p) : BdN p (tab n f) := fun i => by
  by_cases hi : i < n
  · rw [tab_get _ _ hi]; exact h i
  · rw [List.getD_eq_getElem?_getD, List.getElem?_eq_none (by rw [tab_length]; omega)]; simp
theorem rowZ_bd {n p q : Nat} {x : List Int} {R : List (List Int)} (hx : BdN p x) (hR : ∀ j, BdN q (R.getD j [])) : ∀ k, BdN (k * (p * q)) (rowZ n x R k)
  | 0 => fun i => by
    rw [rowZ, List.getD_eq_getElem?_getD]
    by_cases hi : i < n
    · rw [List.getElem?_replicate, if_pos hi]; simp
    · rw [List.getElem?_replicate, if_neg hi]; simp
  | k + 1 => by
    rw [rowZ]
    refine tab_bd fun i => ?_
    have := (addZF_bd (rowZ_bd (n := n) hx hR k) (hx k) (hR k) i).2
    rw [Nat.succ_mul]
    exact this
/-- What a row of a diagonal table is. -/
def wantZ (n i : Nat) (d : List Int) : List Int := if i < d.length then (List.replicate n 0).set i (d.getD i 0) else List.replicate n 0
theorem wantZ_len (n i : Nat) (d : List Int) : (wantZ n i d).length = n := by
  unfold wantZ
  by_cases h : i < d.length
  · rw [if_pos h]; simp
  · rw [if_neg h]; simp
theorem wantZ_get {n i : Nat} {d : List Int} {j : Nat} (hj : j < n) : (wantZ n i d).getD j 0 = if i = j ∧ i < d.length then d.getD i 0 else 0 := by
  unfold wantZ
  by_cases h : i < d.length
  · rw [if_pos h]
    simp only [List.getD_eq_getElem?_getD, List.getElem?_set, List.length_replicate]
    by_cases e : i = j
    · subst e
      rw [if_pos rfl, if_pos hj, if_pos ⟨rfl, h⟩]
      rfl
    · rw [if_neg e, if_neg (fun hh => e hh.1), List.getElem?_replicate, if_pos hj]
      rfl
  · rw [if_neg h, if_neg (fun hh => h hh.2)]
    simp only [List.getD_eq_getElem?_getD]
    rw [List.getElem?_replicate, if_pos hj]
    rfl
def diagB (X : List (List Int)) (d : List Int) : Bool := decide (∀ i, i < X.length → X.getD i [] = wantZ (X.getD i []).length i d)
theorem diagB_bad {X : List (List Int)} {d : List Int} {i : Nat} (hi : i < X.length) (h : ¬ X.getD i [] = wantZ (X.getD i []).length i d) : diagB X d = false := decide_eq_false fun hh => h (hh i hi)
theorem diagB_ok {X : List (List Int)} {d : List Int} (h : ∀ i, i < X.length → X.getD i [] = wantZ (X.getD i []).length i d) : diagB X d = true := decide_eq_true h
theorem row_ne {xs ys : List Int} {j : Nat} (h : ¬ xs.getD j 0 = ys.getD j 0) : ¬ xs = ys := fun e => h (by rw [e])
theorem row_eq {xs ys : List Int} (hl : xs.length = ys.length) (h : ∀ j, j < xs.length → xs.getD j 0 = ys.getD j 0) : xs = ys :=
  List.ext_getElem hl fun j h1 h2 => by have := h j h1; simpa [h1, h2] using this
end Go.Proofs.Ytihdidbikeaafaa.Num
