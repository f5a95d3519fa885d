/- Plain arithmetic without Go: least divisors; prime powers and primes as trial division tells them. -/
import Derived.Test.YtpplojbcjgiabaaNumF
namespace Go.Proofs.Ytpplojbcjgiabaa.Num

/-- The first number from d on that divides n, or whose square is above n. -/
def leastD (d n : Int) : Int :=
  if _h : 2 ≤ d ∧ d * d ≤ n ∧ n % d ≠ 0 then leastD (d + 1) n else d
termination_by (n - d).toNat
decreasing_by
  have h1 : 2 * d ≤ d * d := Int.mul_le_mul_of_nonneg_right _h.1 (by omega)
  omega
theorem leastD_go {d n : Int} (h1 : 2 ≤ d) (h2 : d * d ≤ n) (h3 : n % d ≠ 0) : leastD d n = leastD (d + 1) n := by
  rw [leastD, dif_pos ⟨h1, h2, h3⟩]
theorem leastD_stop {d n : Int} (h : ¬ (d * d ≤ n ∧ n % d ≠ 0)) : leastD d n = d := by
  rw [leastD, dif_neg (fun hh => h hh.2)]
theorem leastD_spec (k : Nat) : ∀ d n : Int, (n - d).toNat ≤ k → 2 ≤ d → 1 < n →
    d ≤ leastD d n ∧ facL d n = if leastD d n * leastD d n ≤ n then (leastD d n, ve (leastD d n) n) :: facL (leastD d n + 1) (vr (leastD d n) n) else [(n, 1)] := by
  induction k with
  | zero =>
    intro d n hk hd hn
    have hs : ¬ (d * d ≤ n) := fun h => by have := sq_big hd h; omega
    rw [leastD_stop (fun h => hs h.1), if_neg hs, facL_last (by omega) hn]
    exact ⟨Int.le_refl _, rfl⟩
  | succ k ih =>
    intro d n hk hd hn
    by_cases hs : d * d ≤ n
    · have hb := sq_big hd hs
      by_cases hm : n % d = 0
      · rw [leastD_stop (fun h => h.2 hm), if_pos hs, facL_div hd hs hm]
        exact ⟨Int.le_refl _, rfl⟩
      · have := ih (d + 1) n (by omega) (by omega) hn
        rw [leastD_go hd hs hm, facL_skip hd hs hm]
        exact ⟨by omega, this.2⟩
    · rw [leastD_stop (fun h => hs h.1), if_neg hs, facL_last (by omega) hn]
      exact ⟨Int.le_refl _, rfl⟩
theorem facL_ne {d n : Int} (hd : 2 ≤ d) (hn : 1 < n) : facL d n ≠ [] := by
  rw [(leastD_spec _ d n (Nat.le_refl _) hd hn).2]
  by_cases h : leastD d n * leastD d n ≤ n
  · rw [if_pos h]; exact List.cons_ne_nil _ _
  · rw [if_neg h]; exact List.cons_ne_nil _ _
/-- The prime of a prime power, 0 of another number. -/
def baseN (n : Int) : Int :=
  if n < 2 then 0 else if n < leastD 2 n * leastD 2 n then n else if 1 < vr (leastD 2 n) n then 0 else leastD 2 n
theorem baseN_small {n : Int} (h : n < 2) : baseN n = 0 := if_pos h
theorem baseN_self {n : Int} (h : 2 ≤ n) (h2 : n < leastD 2 n * leastD 2 n) : baseN n = n := by
  unfold baseN
  rw [if_neg (by omega), if_pos h2]
theorem baseN_none {n : Int} (h : 2 ≤ n) (h2 : leastD 2 n * leastD 2 n ≤ n) (h3 : 1 < vr (leastD 2 n) n) : baseN n = 0 := by
  unfold baseN
  rw [if_neg (by omega), if_neg (by omega), if_pos h3]
theorem baseN_pow {n : Int} (h : 2 ≤ n) (h2 : leastD 2 n * leastD 2 n ≤ n) (h3 : ¬ 1 < vr (leastD 2 n) n) : baseN n = leastD 2 n := by
  unfold baseN
  rw [if_neg (by omega), if_neg (by omega), if_neg h3]
theorem leastD_ge {n : Int} (h : 2 ≤ n) : 2 ≤ leastD 2 n := (leastD_spec _ 2 n (Nat.le_refl _) (by omega) (by omega)).1
theorem facP_self {n : Int} (h : 2 ≤ n) : facP 2 n = [n] ↔ baseN n = n := by
  have hs := (leastD_spec _ 2 n (Nat.le_refl _) (by omega) (by omega)).2
  have hq := leastD_ge h
  by_cases h2 : leastD 2 n * leastD 2 n ≤ n
  · rw [if_pos h2] at hs
    have hb := sq_big hq h2
    constructor
    · intro e
      rw [facP, hs] at e
      simp at e
      omega
    · intro e
      by_cases h3 : 1 < vr (leastD 2 n) n
      · rw [baseN_none h h2 h3] at e; omega
      · rw [baseN_pow h h2 h3] at e; omega
  · rw [if_neg h2] at hs
    rw [baseN_self h (by omega), facP, hs]
    simp
theorem facP_one {n : Int} (h : 1 ≤ n) : (facP 2 n).length = 1 ↔ baseN n ≠ 0 := by
  by_cases h1 : n = 1
  · subst h1
    rw [baseN_small (by omega), facP, facL_one (by omega)]
    simp
  · have hs := (leastD_spec _ 2 n (Nat.le_refl _) (by omega) (by omega)).2
    have hq := leastD_ge (n := n) (by omega)
    by_cases h2 : leastD 2 n * leastD 2 n ≤ n
    · rw [if_pos h2] at hs
      have hb := sq_big hq h2
      have hv := vr_bd (p := leastD 2 n) hq h
      rw [facP, hs]
      by_cases h3 : 1 < vr (leastD 2 n) n
      · rw [baseN_none (by omega) h2 h3]
        have := facL_ne (d := leastD 2 n + 1) (n := vr (leastD 2 n) n) (by omega) h3
        have := List.length_pos_iff.mpr this
        simp
        omega
      · rw [baseN_pow (by omega) h2 h3, show vr (leastD 2 n) n = 1 by omega, facL_one (by omega)]
        simp
        omega
    · rw [if_neg h2] at hs
      rw [baseN_self (by omega) (by omega), facP, hs]
      simp
      omega
end Go.Proofs.Ytpplojbcjgiabaa.Num
