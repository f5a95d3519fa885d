/- Plain arithmetic without Go: the coefficients of a common divisor by two ways. -/
import Derived.Test.YtkgiffmnhpbpiaaNumB
namespace Go.Proofs.Ytkgiffmnhpbpiaa.Num

theorem gcd_mod_abs (a b : Int) : Int.gcd (a % b.natAbs) b.natAbs = Int.gcd a b := by
  rw [Int.gcd_comm, gcd_step]
  simp [Int.gcd]

theorem tdiv_exact {a g : Int} (h : g ∣ a) : a.tdiv g = a / g := (Int.tdiv_eq_ediv_of_dvd h)

theorem tdiv_bd (a b : Int) : -(a.natAbs : Int) ≤ a.tdiv b ∧ a.tdiv b ≤ a.natAbs := by
  have : (a.tdiv b).natAbs ≤ a.natAbs := by rw [Int.natAbs_tdiv]; exact Nat.div_le_self _ _
  omega

/-- Divided by the greatest common divisor, the number has an inverse: the same coefficient. -/
theorem bez_scaled {a M : Int} (hM : 0 < M) :
    Int.gcd (a / Int.gcd a M % (M / Int.gcd a M)) (M / Int.gcd a M) = 1 ∧
    bez (a / Int.gcd a M % (M / Int.gcd a M)) (M / Int.gcd a M) = bez (a % M) M := by
  have hg := gcd_div (v := a) hM
  have hgm : Int.gcd (a % M) M = Int.gcd a M := by rw [Int.gcd_comm, gcd_step]
  obtain ⟨a', ha⟩ := Int.gcd_dvd_left a M
  obtain ⟨M', hM'⟩ := Int.gcd_dvd_right a M
  have hg0 : (Int.gcd a M : Int) ≠ 0 := by omega
  have ea : a / Int.gcd a M = a' := by
    conv => lhs; lhs; rw [ha]
    exact Int.mul_ediv_cancel_left _ hg0
  have eM : M / Int.gcd a M = M' := by
    conv => lhs; lhs; rw [hM']
    exact Int.mul_ediv_cancel_left _ hg0
  have hMp : 0 < M' := by omega
  have hcop : Int.gcd a' M' = 1 := by
    have h := Int.gcd_mul_left (Int.gcd a M : Int) a' M'
    rw [← ha, ← hM'] at h
    have h' : Int.gcd a M * 1 = Int.gcd a M * Int.gcd a' M' := by
      rw [Nat.mul_one]; simpa using h
    exact (Nat.eq_of_mul_eq_mul_left (by omega) h').symm
  rw [ea, eM]
  have hc2 : Int.gcd (a' % M') M' = 1 := by rw [Int.gcd_comm, gcd_step]; exact hcop
  refine ⟨hc2, ?_⟩
  obtain ⟨v0, v1⟩ := mod_bd a' hMp
  obtain ⟨s1, s2, s3⟩ := bez_inv v0 v1 hc2
  refine (bez_of hM s1 (by rw [hgm, eM]; exact s2) ?_).symm
  rw [hgm]
  generalize hx : bez (a' % M') M' = x at *
  have h1 : M' ∣ x * a' - 1 := by
    apply Int.dvd_of_emod_eq_zero
    rw [← Int.emod_eq_emod_iff_emod_sub_eq_zero, ← s3, mul_mod_left, Int.mul_comm]
  obtain ⟨c, hc⟩ := h1
  have h2 : a % M = a - M * (a / M) := by have := Int.emod_add_mul_ediv a M; omega
  rw [h2]
  have h3 : x * (a - M * (a / M)) - Int.gcd a M = Int.gcd a M * (x * a' - 1) - M * (x * (a / M)) := by
    rw [Int.mul_sub, Int.mul_sub, Int.mul_one, Int.mul_left_comm _ x, ← ha, Int.mul_left_comm x M]; omega
  rw [h3, hc, ← Int.mul_assoc, ← hM']
  exact Int.dvd_sub (Int.dvd_mul_right _ _) (Int.dvd_mul_right _ _)
theorem mul_signed {a x : Int} (h1 : -1000000 ≤ a) (h2 : a ≤ 1000000) (h3 : 0 ≤ x) (h4 : x ≤ 1000000) : -1000000000000 ≤ a * x ∧ a * x ≤ 1000000000000 := by
  have a1 : a * x ≤ 1000000 * x := Int.mul_le_mul_of_nonneg_right h2 h3
  have a2 : -1000000 * x ≤ a * x := Int.mul_le_mul_of_nonneg_right h1 h3
  omega
end Go.Proofs.Ytkgiffmnhpbpiaa.Num
