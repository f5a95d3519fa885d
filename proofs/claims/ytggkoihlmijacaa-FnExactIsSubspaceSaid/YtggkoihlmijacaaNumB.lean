/- Plain arithmetic without Go: prime parts of a number. -/
import Derived.Test.YtggkoihlmijacaaNumA
namespace Go.Proofs.Ytggkoihlmijacaa.Num

/-- How often p divides n, and what is left. -/
def vpart (p n : Nat) : Nat × Nat :=
  if _h : 2 ≤ p ∧ 1 ≤ n ∧ n % p = 0 then ((vpart p (n / p)).1 + 1, (vpart p (n / p)).2) else (0, n)
termination_by n
decreasing_by all_goals exact Nat.div_lt_self (by omega) (by omega)
def ve (p n : Int) : Int := (vpart p.toNat n.toNat).1
def vr (p n : Int) : Int := (vpart p.toNat n.toNat).2
/-- The greatest power of p that divides n. -/
def pp (p n : Int) : Int := p ^ (ve p n).toNat

theorem toNat_div {n p : Int} (hn : 0 ≤ n) (hp : 0 ≤ p) : (n / p).toNat = n.toNat / p.toNat := by
  obtain ⟨a, rfl⟩ := Int.eq_ofNat_of_zero_le hn
  obtain ⟨b, rfl⟩ := Int.eq_ofNat_of_zero_le hp
  simp [← Int.natCast_ediv]
theorem toNat_mod {n p : Int} (hn : 0 ≤ n) (hp : 0 ≤ p) : (n % p).toNat = n.toNat % p.toNat := by
  obtain ⟨a, rfl⟩ := Int.eq_ofNat_of_zero_le hn
  obtain ⟨b, rfl⟩ := Int.eq_ofNat_of_zero_le hp
  simp [← Int.natCast_emod]
theorem v_step {p n : Int} (hp : 2 ≤ p) (hn : 1 ≤ n) (hd : n % p = 0) : ve p n = ve p (n / p) + 1 ∧ vr p n = vr p (n / p) := by
  have h : 2 ≤ p.toNat ∧ 1 ≤ n.toNat ∧ n.toNat % p.toNat = 0 := ⟨by omega, by omega, by rw [← toNat_mod (by omega) (by omega), hd]; rfl⟩
  unfold ve vr
  rw [vpart, dif_pos h, toNat_div (by omega) (by omega)]
  simp
theorem v_stop {p n : Int} (hn : 1 ≤ n) (hp : 2 ≤ p) (hd : n % p ≠ 0) : ve p n = 0 ∧ vr p n = n := by
  have h : ¬ (2 ≤ p.toNat ∧ 1 ≤ n.toNat ∧ n.toNat % p.toNat = 0) := by
    intro h
    apply hd
    have := toNat_mod (n := n) (p := p) (by omega) (by omega)
    have h2 := Int.emod_nonneg n (b := p) (by omega)
    omega
  unfold ve vr
  rw [vpart, dif_neg h]
  simp; omega
theorem ve_nonneg (p n : Int) : 0 ≤ ve p n := by unfold ve; omega
theorem vr_nonneg (p n : Int) : 0 ≤ vr p n := by unfold vr; omega
theorem div_bd {p n : Int} (hp : 2 ≤ p) (hn : 1 ≤ n) (hd : n % p = 0) : 1 ≤ n / p ∧ n / p < n ∧ n = p * (n / p) := by
  have h := Int.emod_add_mul_ediv n p
  have e : n = p * (n / p) := by omega
  have h1 : 1 ≤ n / p := by
    by_cases hh : 1 ≤ n / p
    · exact hh
    · have : p * (n / p) ≤ p * 0 := Int.mul_le_mul_of_nonneg_left (by omega) (by omega)
      omega
  have h2 : 2 * (n / p) ≤ p * (n / p) := Int.mul_le_mul_of_nonneg_right hp (by omega)
  exact ⟨h1, by omega, e⟩
/-- All that holds of the parts. -/
theorem v_all {p : Int} (hp : 2 ≤ p) (k : Nat) : ∀ n : Int, n.toNat ≤ k → 1 ≤ n → n = pp p n * vr p n ∧ 1 ≤ vr p n ∧ vr p n % p ≠ 0 := by
  induction k with
  | zero => intro n h1 h2; omega
  | succ k ih =>
    intro n hk hn
    by_cases hd : n % p = 0
    · obtain ⟨b1, b2, b3⟩ := div_bd hp hn hd
      obtain ⟨s1, s2⟩ := v_step hp hn hd
      obtain ⟨i1, i2, i3⟩ := ih (n / p) (by omega) b1
      refine ⟨?_, by rw [s2]; exact i2, by rw [s2]; exact i3⟩
      have : pp p n = p * pp p (n / p) := by
        unfold pp
        rw [s1, show (ve p (n / p) + 1).toNat = (ve p (n / p)).toNat + 1 by have := ve_nonneg p (n / p); omega, Int.pow_succ, Int.mul_comm]
      rw [this, s2, Int.mul_assoc, ← i1]
      exact b3
    · obtain ⟨s1, s2⟩ := v_stop hn hp hd
      unfold pp
      rw [s1, s2]
      refine ⟨by simp, hn, hd⟩
theorem pp_step {p n : Int} (hp : 2 ≤ p) (hn : 1 ≤ n) (hd : n % p = 0) : pp p n = p * pp p (n / p) := by
  obtain ⟨s1, _⟩ := v_step hp hn hd
  unfold pp
  rw [s1, show (ve p (n / p) + 1).toNat = (ve p (n / p)).toNat + 1 by have := ve_nonneg p (n / p); omega, Int.pow_succ, Int.mul_comm]
theorem pp_stop {p n : Int} (hp : 2 ≤ p) (hn : 1 ≤ n) (hd : n % p ≠ 0) : pp p n = 1 := by
  unfold pp; rw [(v_stop hn hp hd).1]; simp
theorem pp_mul {p n : Int} (hp : 2 ≤ p) (hn : 1 ≤ n) : n = pp p n * vr p n := (v_all hp n.toNat n (Nat.le_refl _) hn).1
theorem vr_bd {p n : Int} (hp : 2 ≤ p) (hn : 1 ≤ n) : 1 ≤ vr p n ∧ vr p n ≤ n := by
  have h := v_all hp n.toNat n (Nat.le_refl _) hn
  have hpos : 1 ≤ pp p n := by
    have : 0 < pp p n := by unfold pp; exact Int.pow_pos (by omega)
    omega
  have : 1 * vr p n ≤ pp p n * vr p n := Int.mul_le_mul_of_nonneg_right hpos (by omega)
  omega
theorem pp_bd {p n : Int} (hp : 2 ≤ p) (hn : 1 ≤ n) : 1 ≤ pp p n ∧ pp p n ≤ n := by
  have h := v_all hp n.toNat n (Nat.le_refl _) hn
  have hpos : 0 < pp p n := by unfold pp; exact Int.pow_pos (by omega)
  have : pp p n * 1 ≤ pp p n * vr p n := Int.mul_le_mul_of_nonneg_left (by omega) (by omega)
  omega
theorem div_vr {p n : Int} (hp : 2 ≤ p) (hn : 1 ≤ n) : n / vr p n = pp p n := by
  have h := pp_mul hp hn
  have hv := (vr_bd hp hn).1
  conv => lhs; lhs; rw [h]
  exact Int.mul_ediv_cancel _ (by omega)

/-- The loop that takes a prime out: what it keeps. -/
def RemInv (p n c k : Int) : Prop := 1 ≤ c ∧ 0 ≤ k ∧ c + k ≤ n ∧ ve p n = k + ve p c ∧ vr p n = vr p c
theorem remInv_start {p n : Int} (hn : 1 ≤ n) : RemInv p n n 0 := ⟨hn, Int.le_refl _, by omega, by omega, rfl⟩
theorem remInv_step {p n c k : Int} (hp : 2 ≤ p) (h : RemInv p n c k) (hd : c % p = 0) : RemInv p n (c / p) (k + 1) := by
  obtain ⟨h1, h2, h3, h4, h5⟩ := h
  obtain ⟨b1, b2, _⟩ := div_bd hp h1 hd
  obtain ⟨s1, s2⟩ := v_step hp h1 hd
  exact ⟨b1, by omega, by omega, by omega, by rw [h5, s2]⟩
theorem remInv_end {p n c k : Int} (hp : 2 ≤ p) (h : RemInv p n c k) (hd : c % p ≠ 0) : k = ve p n ∧ c = vr p n := by
  obtain ⟨h1, h2, h3, h4, h5⟩ := h
  obtain ⟨s1, s2⟩ := v_stop h1 hp hd
  exact ⟨by omega, by rw [h5, s2]⟩
theorem remInv_bd {p n c k : Int} (h : RemInv p n c k) : 1 ≤ c ∧ 0 ≤ k ∧ c + k ≤ n := ⟨h.1, h.2.1, h.2.2.1⟩
/-- The loop that collects the power. -/
def PartInv (p n c o : Int) : Prop := 1 ≤ c ∧ 1 ≤ o ∧ o * c = n ∧ o * pp p c = pp p n
theorem partInv_start {p n : Int} (hn : 1 ≤ n) : PartInv p n n 1 := ⟨hn, Int.le_refl _, by omega, by omega⟩
theorem partInv_step {p n c o : Int} (hp : 2 ≤ p) (h : PartInv p n c o) (hd : c % p = 0) : PartInv p n (c / p) (o * p) := by
  obtain ⟨h1, h2, h3, h4⟩ := h
  obtain ⟨b1, b2, b3⟩ := div_bd hp h1 hd
  have : 1 * 1 ≤ o * p := Int.mul_le_mul h2 (by omega) (by omega) (by omega)
  refine ⟨b1, by omega, by rw [Int.mul_assoc, ← b3, h3], by rw [Int.mul_assoc, ← pp_step hp h1 hd, h4]⟩
theorem partInv_end {p n c o : Int} (hp : 2 ≤ p) (h : PartInv p n c o) (hd : c % p ≠ 0) : o = pp p n := by
  obtain ⟨h1, h2, h3, h4⟩ := h
  rw [pp_stop hp h1 hd] at h4
  omega
theorem partInv_bd {p n c o : Int} (h : PartInv p n c o) : 1 ≤ c ∧ c ≤ n ∧ 1 ≤ o ∧ o ≤ n := by
  obtain ⟨h1, h2, h3, h4⟩ := h
  have a : o * 1 ≤ o * c := Int.mul_le_mul_of_nonneg_left h1 (by omega)
  have b : 1 * c ≤ o * c := Int.mul_le_mul_of_nonneg_right h2 (by omega)
  omega

/-! Inverses modulo a group prime. -/
theorem gp_gcd {p v : Int} (hp : gp p = true) (h1 : 1 ≤ v) (h2 : v < p) : Int.gcd v p = 1 := by
  rcases gp_yes hp with rfl | rfl | rfl | rfl
  · obtain rfl : v = 1 := by omega
    decide
  · have : v = 1 ∨ v = 2 := by omega
    rcases this with rfl | rfl <;> decide
  · have : v = 1 ∨ v = 2 ∨ v = 3 ∨ v = 4 := by omega
    rcases this with rfl | rfl | rfl | rfl <;> decide
  · have : v = 1 ∨ v = 2 ∨ v = 3 ∨ v = 4 ∨ v = 5 ∨ v = 6 := by omega
    rcases this with rfl | rfl | rfl | rfl | rfl | rfl <;> decide
/-- Modulo m, bez is the inverse where there is one. -/
theorem bez_inv {v m : Int} (h0 : 0 ≤ v) (h1 : v < m) (hg : Int.gcd v m = 1) : 0 ≤ bez v m ∧ bez v m < m ∧ v * bez v m % m = 1 % m := by
  obtain ⟨a, b, c⟩ := bez_spec h0 h1
  rw [hg] at b c
  refine ⟨a, by simpa using b, ?_⟩
  rw [Int.emod_eq_emod_iff_emod_sub_eq_zero, Int.mul_comm]
  exact Int.emod_eq_zero_of_dvd c
theorem bez_is {v m x : Int} (h0 : 0 < m) (hg : Int.gcd v m = 1) (hx0 : 0 ≤ x) (hx1 : x < m) (hx : v * x % m = 1 % m) : bez v m = x := by
  refine bez_of h0 hx0 (by rw [hg]; simpa using hx1) ?_
  rw [hg]
  apply Int.dvd_of_emod_eq_zero
  rw [← Int.emod_eq_emod_iff_emod_sub_eq_zero, Int.mul_comm]
  exact hx
end Go.Proofs.Ytggkoihlmijacaa.Num
