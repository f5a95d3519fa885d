/- Plain arithmetic without Go: factors and rank of abelian groups, products with a limit, chains of divisors. -/
import Derived.Test.YteappjgdcbploaaNumF
namespace Go.Proofs.Yteappjgdcbploaa.Num

/-- What stands ahead of an element of a chain. -/
def prevD (d : List Int) (j : Nat) : Int := if j = 0 then 1 else d.getD (j - 1) 0
theorem prevD_zero (d : List Int) : prevD d 0 = 1 := rfl
theorem prevD_succ (d : List Int) (j : Nat) : prevD d (j + 1) = d.getD j 0 := by simp [prevD]
def Link (d : List Int) (j : Nat) : Prop := 0 < d.getD j 0 ∧ (d.getD j 0) % (prevD d j) = 0
instance (d : List Int) (j : Nat) : Decidable (Link d j) := by unfold Link; infer_instance
def chainB (d : List Int) : Bool := decide (∀ j, j < d.length → Link d j)
theorem chainB_ok {d : List Int} (h : ∀ j, j < d.length → Link d j) : chainB d = true := decide_eq_true h
theorem chainB_bad {d : List Int} {j : Nat} (hj : j < d.length) (h : ¬ Link d j) : chainB d = false := decide_eq_false fun hh => h (hh j hj)
theorem chainB_out {d : List Int} (h : chainB d = true) : ∀ j, j < d.length → Link d j := of_decide_eq_true h
/-- The elements up to one of them are links. -/
def Links (d : List Int) (k : Nat) : Prop := ∀ j, j < k → Link d j
theorem Links.zero (d : List Int) : Links d 0 := fun j hj => by omega
theorem Links.step {d : List Int} {k : Nat} (h : Links d k) (h' : Link d k) : Links d (k + 1) := fun j hj => by
  by_cases e : j = k
  · rw [e]; exact h'
  · exact h j (by omega)
theorem Links.prev {d : List Int} {k : Nat} (h : Links d k) : 0 < prevD d k := by
  cases k with
  | zero => exact Int.zero_lt_one
  | succ k => rw [prevD_succ]; exact (h k (by omega)).1

/-- A factor is in its range. -/
def Rng (F : List Int) (j : Nat) : Prop := 2 ≤ F.getD j 0 ∧ F.getD j 0 ≤ 1000000
instance (d : List Int) (j : Nat) : Decidable (Rng d j) := by unfold Rng; infer_instance
def Rngs (F : List Int) (k : Nat) : Prop := ∀ j, j < k → Rng F j
theorem Rngs.zero (d : List Int) : Rngs d 0 := fun j hj => by omega
theorem Rngs.step {d : List Int} {k : Nat} (h : Rngs d k) (h' : Rng d k) : Rngs d (k + 1) := fun j hj => by
  by_cases e : j = k
  · rw [e]; exact h'
  · exact h j (by omega)
def abB (F : List Int) (K : Int) : Bool := decide (F.length ≤ 10) && decide (0 ≤ K ∧ K ≤ 10 - (F.length : Int)) && decide (∀ j, j < F.length → Rng F j) && chainB F
theorem abB_out {F : List Int} {K : Int} (h : abB F K = true) : F.length ≤ 10 ∧ 0 ≤ K ∧ K ≤ 10 - (F.length : Int) ∧ (∀ j, j < F.length → Rng F j) ∧ chainB F = true := by
  simp only [abB, Bool.and_eq_true, decide_eq_true_eq] at h
  exact ⟨h.1.1.1, h.1.1.2.1, h.1.1.2.2, h.1.2, h.2⟩
theorem abB_ok {F : List Int} {K : Int} (h1 : F.length ≤ 10) (h2 : 0 ≤ K) (h3 : K ≤ 10 - (F.length : Int)) (h4 : ∀ j, j < F.length → Rng F j) (h5 : chainB F = true) : abB F K = true := by
  simp only [abB, Bool.and_eq_true, decide_eq_true_eq]
  exact ⟨⟨⟨h1, h2, h3⟩, h4⟩, h5⟩
theorem abB_len {F : List Int} {K : Int} (h : 10 < F.length) : abB F K = false := by
  cases hv : abB F K with
  | false => rfl
  | true => have := (abB_out hv).1; omega
theorem abB_rank {F : List Int} {K : Int} (h : K < 0 ∨ 10 - (F.length : Int) < K) : abB F K = false := by
  cases hv : abB F K with
  | false => rfl
  | true => obtain ⟨-, h1, h2, -⟩ := abB_out hv; omega
theorem abB_rng {F : List Int} {K : Int} {j : Nat} (hj : j < F.length) (h : ¬ Rng F j) : abB F K = false := by
  cases hv : abB F K with
  | false => rfl
  | true => exact absurd ((abB_out hv).2.2.2.1 j hj) h
theorem abB_chain {F : List Int} {K : Int} (h : chainB F = false) : abB F K = false := by
  cases hv : abB F K with
  | false => rfl
  | true => rw [(abB_out hv).2.2.2.2] at h; cases h
theorem abB_link {F : List Int} {K : Int} {j : Nat} (hj : j < F.length) (h : ¬ Link F j) : abB F K = false := abB_chain (chainB_bad hj h)

/-- The product, as long as it is at most the limit. -/
def prodLim (n : Int) : List Int → Option Int
  | [] => some n
  | x :: xs => if 1000000000000000 / n < x then none else prodLim (n * x) xs
def prodZ : List Int → Int
  | [] => 1
  | x :: xs => x * prodZ xs
theorem prodZ_pos : ∀ {xs : List Int}, (∀ x, x ∈ xs → 1 ≤ x) → 1 ≤ prodZ xs
  | [], _ => by simp [prodZ]
  | x :: xs, h => by
    have h1 := h x (by simp)
    have h2 := prodZ_pos (xs := xs) fun y hy => h y (by simp [hy])
    have := Int.mul_le_mul h1 h2 (by omega) (by omega)
    simpa [prodZ] using this
theorem prodLim_eq : ∀ (xs : List Int) (n : Int), 1 ≤ n → n ≤ 1000000000000000 → (∀ x, x ∈ xs → 1 ≤ x) →
    prodLim n xs = if n * prodZ xs ≤ 1000000000000000 then some (n * prodZ xs) else none
  | [], n, h1, h2, _ => by simp [prodLim, prodZ, h2]
  | x :: xs, n, h1, h2, h => by
    have hx := h x (by simp)
    have hp := prodZ_pos (xs := xs) fun y hy => h y (by simp [hy])
    rw [show prodZ (x :: xs) = x * prodZ xs from rfl, show prodLim n (x :: xs) = if 1000000000000000 / n < x then none else prodLim (n * x) xs from rfl]
    by_cases hc : 1000000000000000 / n < x
    · rw [if_pos hc, if_neg]
      have := (Int.ediv_lt_iff_lt_mul (by omega : 0 < n)).mp hc
      have e : n * (x * prodZ xs) = x * n * prodZ xs := by rw [← Int.mul_assoc, Int.mul_comm n x]
      have h0 : 0 ≤ x * n := Int.mul_nonneg (by omega) (by omega)
      have := Int.mul_le_mul_of_nonneg_left hp h0
      rw [e]
      omega
    · have hle : x * n ≤ 1000000000000000 := by
        have : ¬ (1000000000000000 < x * n) := fun hh => hc ((Int.ediv_lt_iff_lt_mul (by omega : 0 < n)).mpr hh)
        omega
      rw [if_neg hc, prodLim_eq xs (n * x) (by have := Int.mul_le_mul h1 hx (by omega) (by omega); omega) (by rw [Int.mul_comm]; exact hle) (fun y hy => h y (by simp [hy])), Int.mul_assoc]
/-- A step that keeps the limit. -/
theorem prodLim_step {n x : Int} (h1 : 1 ≤ n) (hx : 1 ≤ x) (hc : ¬ 1000000000000000 / n < x) : 1 ≤ n * x ∧ n * x ≤ 1000000000000000 := by
  have hle : x * n ≤ 1000000000000000 := by
    have : ¬ (1000000000000000 < x * n) := fun hh => hc ((Int.ediv_lt_iff_lt_mul (by omega : 0 < n)).mpr hh)
    omega
  have := Int.mul_le_mul h1 hx (by omega) (by omega)
  rw [Int.mul_comm n x] at this ⊢
  omega
theorem prodLim_drop {n : Int} {xs : List Int} {k : Nat} (hk : k < xs.length) : prodLim n (xs.drop k) = if 1000000000000000 / n < xs.getD k 0 then none else prodLim (n * xs.getD k 0) (xs.drop (k + 1)) := by
  rw [List.drop_eq_getElem_cons hk]
  simp [prodLim, hk]
/-- The count and the code. -/
def cnt (xs : List Int) : Int := (prodLim 1 xs).getD 0
def cntC (xs : List Int) : Int := if (prodLim 1 xs).isSome then 0 else 3
theorem cnt_of {xs ys : List Int} (hx : ∀ x, x ∈ xs → 1 ≤ x) (hy : ∀ x, x ∈ ys → 1 ≤ x) (h : prodZ xs = prodZ ys) : cnt xs = cnt ys ∧ cntC xs = cntC ys := by
  have e : prodLim 1 xs = prodLim 1 ys := by rw [prodLim_eq xs 1 (by omega) (by omega) hx, prodLim_eq ys 1 (by omega) (by omega) hy, h]
  unfold cnt cntC
  rw [e]
  exact ⟨rfl, rfl⟩
theorem prodZ_app : ∀ (xs ys : List Int), prodZ (xs ++ ys) = prodZ xs * prodZ ys
  | [], ys => by simp [prodZ]
  | x :: xs, ys => by simp only [List.cons_append, prodZ, prodZ_app xs ys, Int.mul_assoc]
theorem prodZ_ones {α : Type} : ∀ (xs : List α), prodZ (xs.map fun _ => 1) = 1
  | [] => rfl
  | _ :: xs => by simp [prodZ, prodZ_ones xs]
theorem prodZ_mul {α : Type} (f g : α → Int) : ∀ (xs : List α), prodZ (xs.map fun x => f x * g x) = prodZ (xs.map f) * prodZ (xs.map g)
  | [] => by simp [prodZ]
  | x :: xs => by
    simp only [List.map_cons, prodZ, prodZ_mul f g xs]
    simp only [Int.mul_assoc, Int.mul_left_comm (g x)]
theorem prodZ_flat {α : Type} (f : α → List Int) : ∀ (xs : List α), prodZ (xs.flatMap f) = prodZ (xs.map fun x => prodZ (f x))
  | [] => rfl
  | x :: xs => by simp only [List.flatMap_cons, prodZ_app, List.map_cons, prodZ, prodZ_flat f xs]
/-- A product over pairs, in the two orders. -/
theorem prodZ_swap {α β : Type} (f : α → β → Int) (ys : List β) : ∀ (xs : List α), prodZ (xs.map fun x => prodZ (ys.map fun y => f x y)) = prodZ (ys.map fun y => prodZ (xs.map fun x => f x y))
  | [] => by simp [prodZ, prodZ_ones]
  | x :: xs => by simp only [List.map_cons, prodZ, prodZ_swap f ys xs, prodZ_mul]

/-- A divisor, by the greatest common divisor. -/
theorem gcd_is {x y : Int} (hy : 0 ≤ y) : ((Int.gcd x y : Int) = y) ↔ ¬ (x ≠ 0 ∧ (y = 0 ∨ x % y ≠ 0)) := by
  constructor
  · intro h ⟨h1, h2⟩
    have hd : y ∣ x := by rw [← h]; exact Int.gcd_dvd_left x y
    rcases h2 with h2 | h2
    · subst h2
      obtain ⟨c, hc⟩ := hd
      simp at hc
      exact h1 hc
    · exact h2 (Int.emod_eq_zero_of_dvd hd)
  · intro h
    have hd : y ∣ x := by
      by_cases h1 : x = 0
      · rw [h1]; exact Int.dvd_zero y
      · by_cases h2 : y = 0
        · exact absurd ⟨h1, .inl h2⟩ h
        · refine Int.dvd_of_emod_eq_zero ?_
          by_cases h3 : x % y = 0
          · exact h3
          · exact absurd ⟨h1, .inr h3⟩ h
    have := Int.gcd_eq_natAbs_right_iff_dvd.mpr hd
    omega
theorem gcd_pos {x y : Int} (hx : 1 ≤ x) : 1 ≤ (Int.gcd x y : Int) := by
  have : 0 < Int.gcd x y := Int.gcd_pos_of_ne_zero_left y (by omega)
  omega
theorem gcd_le {x y : Int} (hx : 1 ≤ x) : (Int.gcd x y : Int) ≤ x := by
  have h := Int.le_of_dvd (by omega) (Int.gcd_dvd_left x y)
  exact h
end Go.Proofs.Yteappjgdcbploaa.Num
