/- Plain arithmetic without Go: chains with infinite orders at the end; quotients; pairs of factors. -/
import Derived.Test.YtpplojbcjgiabaaNumJ
namespace Go.Proofs.Ytpplojbcjgiabaa.Num

/-- The orders of the cyclic groups: the factors, then a 0 for each infinite one. -/
def chainL (F : List Int) (K : Int) : List Int := F ++ List.replicate K.toNat 0
theorem chainL_len {F : List Int} {K : Int} : (chainL F K).length = F.length + K.toNat := by simp [chainL]
theorem chainL_bd {F : List Int} {K : Int} (h : ∀ j, j < F.length → 0 ≤ F.getD j 0 ∧ F.getD j 0 ≤ 1000000) (j : Nat) : 0 ≤ (chainL F K).getD j 0 ∧ (chainL F K).getD j 0 ≤ 1000000 := by
  unfold chainL
  by_cases hj : j < F.length
  · have := h j hj
    simp only [List.getD_eq_getElem?_getD, List.getElem?_append_left hj] at this ⊢
    exact this
  · simp only [List.getD_eq_getElem?_getD]
    rw [List.getElem?_append_right (by omega)]
    by_cases hk : j - F.length < K.toNat
    · rw [List.getElem?_replicate, if_pos hk]; simp
    · rw [List.getElem?_replicate, if_neg hk]; simp
theorem chainL_mem {F : List Int} {K : Int} {x : Int} (h : x ∈ chainL F K) : x ∈ F ∨ x = 0 := by
  unfold chainL at h
  rcases List.mem_append.mp h with h | h
  · exact .inl h
  · exact .inr (List.mem_replicate.mp h).2

/-- A quotient fails at an order, counted from the last one on. -/
def BadQ (x y : Int) : Prop := x ≠ 0 ∧ (y = 0 ∨ x % y ≠ 0)
instance (x y : Int) : Decidable (BadQ x y) := by unfold BadQ; infer_instance
def covD (x y : List Int) : Bool := decide (y.length ≤ x.length ∧ ∀ i, i < y.length → ¬ BadQ (x.getD i 0) (y.getD i 0))
theorem covD_short {x y : List Int} (h : x.length < y.length) : covD x y = false := decide_eq_false fun hh => by have := hh.1; omega
theorem covD_bad {x y : List Int} {i : Nat} (hi : i < y.length) (h : BadQ (x.getD i 0) (y.getD i 0)) : covD x y = false := decide_eq_false fun hh => hh.2 i hi h
theorem covD_ok {x y : List Int} (h1 : y.length ≤ x.length) (h : ∀ i, i < y.length → ¬ BadQ (x.getD i 0) (y.getD i 0)) : covD x y = true := decide_eq_true ⟨h1, h⟩
theorem getD_rev {c : List Int} {i : Nat} (h : i < c.length) : c.reverse.getD i 0 = c.getD (c.length - 1 - i) 0 := by
  simp only [List.getD_eq_getElem?_getD]
  rw [List.getElem?_reverse h]
/-- The program's comparison, from the first order on. -/
theorem cov_bad {c d : List Int} {j : Nat} (hj : j < d.length) (hl : d.length ≤ c.length) (hc : ∀ i, 0 ≤ d.getD i 0)
    (h : ¬ ((Int.gcd (c.getD (c.length - d.length + j) 0) (d.getD j 0) : Int) = d.getD j 0)) : covD c.reverse d.reverse = false := by
  refine covD_bad (i := d.length - 1 - j) (by simp; omega) ?_
  rw [getD_rev (by omega), getD_rev (by omega), show c.length - 1 - (d.length - 1 - j) = c.length - d.length + j by omega, show d.length - 1 - (d.length - 1 - j) = j by omega]
  rw [gcd_is (hc j)] at h
  exact Classical.not_not.mp h
theorem cov_ok {c d : List Int} (hl : d.length ≤ c.length) (hc : ∀ i, 0 ≤ d.getD i 0)
    (h : ∀ j, j < d.length → (Int.gcd (c.getD (c.length - d.length + j) 0) (d.getD j 0) : Int) = d.getD j 0) : covD c.reverse d.reverse = true := by
  refine covD_ok (by simpa using hl) fun i hi => ?_
  have hi' : i < d.length := by simpa using hi
  rw [getD_rev (by omega), getD_rev hi']
  have := h (d.length - 1 - i) (by omega)
  rw [gcd_is (hc _), show c.length - d.length + (d.length - 1 - i) = c.length - 1 - i by omega] at this
  exact this
theorem cov_short {c d : List Int} (h : c.length < d.length) : covD c.reverse d.reverse = false := covD_short (by simpa using h)

/-- The common divisors of pairs, in the program's order and in the model's. -/
def homsI (a b : List Int) : List Int := a.flatMap fun f => b.map fun t => (Int.gcd f t : Int)
def homsS (a b : List Int) : List Int := b.flatMap fun t => a.map fun f => (Int.gcd f t : Int)
theorem homs_eq (a b : List Int) : prodZ (homsI a b) = prodZ (homsS a b) := by
  unfold homsI homsS
  rw [prodZ_flat, prodZ_flat]
  exact prodZ_swap (fun f t => (Int.gcd f t : Int)) b a
theorem homsI_pos {a b : List Int} (hb : ∀ t ∈ b, 1 ≤ t) : ∀ x ∈ homsI a b, 1 ≤ x := by
  intro x hx
  obtain ⟨f, hf, hx⟩ := List.mem_flatMap.mp hx
  obtain ⟨t, ht, rfl⟩ := List.mem_map.mp hx
  have : 0 < Int.gcd f t := Int.gcd_pos_of_ne_zero_right f (by have := hb t ht; omega)
  omega
theorem homsS_pos {a b : List Int} (hb : ∀ t ∈ b, 1 ≤ t) : ∀ x ∈ homsS a b, 1 ≤ x := by
  intro x hx
  obtain ⟨t, ht, hx⟩ := List.mem_flatMap.mp hx
  obtain ⟨f, hf, rfl⟩ := List.mem_map.mp hx
  have : 0 < Int.gcd f t := Int.gcd_pos_of_ne_zero_right f (by have := hb t ht; omega)
  omega
theorem homs_cnt {a b : List Int} (hb : ∀ t ∈ b, 1 ≤ t) : cnt (homsS a b) = cnt (homsI a b) ∧ cntC (homsS a b) = cntC (homsI a b) :=
  cnt_of (homsS_pos hb) (homsI_pos hb) (homs_eq a b).symm
theorem at_mem {xs : List Int} {j : Nat} (hj : j < xs.length) {P : Int → Prop} (h : ∀ x ∈ xs, P x) : P (xs.getD j 0) := by
  have e : xs.getD j 0 = xs[j] := by simp [hj]
  rw [e]
  exact h _ (List.getElem_mem hj)
theorem mem_at {xs : List Int} {P : Int → Prop} (h : ∀ j, j < xs.length → P (xs.getD j 0)) : ∀ x ∈ xs, P x := by
  intro x hx
  obtain ⟨j, hj, rfl⟩ := List.mem_iff_getElem.mp hx
  have := h j hj
  rwa [show xs.getD j 0 = xs[j] by simp [hj]] at this
/-- Two loops, one in the other: what has been appended. -/
def nest (f : Int → Int → Int) (a b : List Int) (j i : Nat) : List Int := (a.take j).flatMap (fun x => b.map (f x)) ++ (b.take i).map (f (a.getD j 0))
theorem nest_start (f : Int → Int → Int) (a b : List Int) : nest f a b 0 0 = [] := by simp [nest]
theorem nest_in {f : Int → Int → Int} {a b : List Int} {j i : Nat} (hi : i < b.length) : nest f a b j (i + 1) = nest f a b j i ++ [f (a.getD j 0) (b.getD i 0)] := by
  unfold nest
  rw [List.take_succ_eq_append_getElem hi, List.map_append, List.append_assoc]
  simp [hi]
theorem nest_out {f : Int → Int → Int} {a b : List Int} {j : Nat} (hj : j < a.length) : nest f a b (j + 1) 0 = nest f a b j b.length := by
  unfold nest
  rw [List.take_succ_eq_append_getElem hj, List.flatMap_append, List.take_length]
  simp [hj]
theorem nest_end {f : Int → Int → Int} {a b : List Int} : nest f a b a.length 0 = a.flatMap (fun x => b.map (f x)) := by
  unfold nest
  rw [List.take_length]
  simp
theorem flat_const {f : Int → List Int} {n : Nat} : ∀ {a : List Int}, (∀ x, (f x).length = n) → (a.flatMap f).length = a.length * n
  | [], _ => by simp
  | x :: t, h => by simp only [List.flatMap_cons, List.length_append, h, flat_const (a := t) h, List.length_cons, Nat.succ_mul]; omega
theorem nest_len {f : Int → Int → Int} {a b : List Int} {j i : Nat} (ha : a.length ≤ 10) (hb : b.length ≤ 10) : (nest f a b j i).length ≤ 200 := by
  unfold nest
  rw [List.length_append, flat_const (n := b.length) (fun x => by simp)]
  have h1 : (a.take j).length ≤ 10 := by simp; omega
  have h2 : (a.take j).length * b.length ≤ 10 * 10 := Nat.mul_le_mul h1 hb
  have h3 : ((b.take i).map (f (a.getD j 0))).length ≤ 10 := by simp; omega
  omega
end Go.Proofs.Ytpplojbcjgiabaa.Num
