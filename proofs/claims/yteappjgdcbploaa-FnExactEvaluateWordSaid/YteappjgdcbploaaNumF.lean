/- Plain arithmetic without Go: the list of the prime powers of a number, as trial division finds it. -/
import Derived.Test.YteappjgdcbploaaKA
namespace Go.Proofs.Yteappjgdcbploaa.Num

/-- From the trial divisor d on: each divisor with its exponent; what is left above 1 is a prime. -/
def facL (d n : Int) : List (Int × Int) :=
  if _h : 2 ≤ d ∧ d * d ≤ n then
    if n % d = 0 then (d, ve d n) :: facL (d + 1) (vr d n) else facL (d + 1) n
  else if 1 < n then [(n, 1)] else []
termination_by (n - d).toNat
decreasing_by
  all_goals
    have h1 : 2 * d ≤ d * d := Int.mul_le_mul_of_nonneg_right _h.1 (by omega)
    have h2 := vr_bd (p := d) (n := n) _h.1 (by omega)
    omega

theorem sq_big {d n : Int} (hd : 2 ≤ d) (h : d * d ≤ n) : d < n := by
  have h1 : 2 * d ≤ d * d := Int.mul_le_mul_of_nonneg_right hd (by omega)
  omega
theorem facL_div {d n : Int} (hd : 2 ≤ d) (h : d * d ≤ n) (hm : n % d = 0) : facL d n = (d, ve d n) :: facL (d + 1) (vr d n) := by
  rw [facL, dif_pos ⟨hd, h⟩, if_pos hm]
theorem facL_skip {d n : Int} (hd : 2 ≤ d) (h : d * d ≤ n) (hm : n % d ≠ 0) : facL d n = facL (d + 1) n := by
  rw [facL, dif_pos ⟨hd, h⟩, if_neg hm]
theorem facL_last {d n : Int} (h : n < d * d) (h1 : 1 < n) : facL d n = [(n, 1)] := by
  rw [facL, dif_neg (by omega), if_pos h1]
theorem facL_one {d : Int} (hd : 2 ≤ d) : facL d 1 = [] := by
  have := Int.mul_le_mul hd hd (by omega) (by omega)
  rw [facL, dif_neg (by omega), if_neg (by omega)]
/-- A divisor halves what is left. -/
theorem vr_half {p n : Int} (hp : 2 ≤ p) (hn : 1 ≤ n) (hd : n % p = 0) : 2 * vr p n ≤ n := by
  obtain ⟨b1, b2, b3⟩ := div_bd hp hn hd
  obtain ⟨s1, s2⟩ := v_step hp hn hd
  have := (vr_bd (p := p) hp b1).2
  rw [s2]
  have h1 : 2 * (n / p) ≤ p * (n / p) := Int.mul_le_mul_of_nonneg_right hp (by omega)
  omega
theorem facL_length (k : Nat) : ∀ d n : Int, (n - d).toNat ≤ k → 1 ≤ n → (facL d n).length ≤ n.toNat := by
  induction k with
  | zero =>
    intro d n hk hn
    rw [facL]
    by_cases h : 2 ≤ d ∧ d * d ≤ n
    · have := sq_big h.1 h.2; omega
    · rw [dif_neg h]
      by_cases h1 : 1 < n
      · rw [if_pos h1]; simp; omega
      · rw [if_neg h1]; simp
  | succ k ih =>
    intro d n hk hn
    rw [facL]
    by_cases h : 2 ≤ d ∧ d * d ≤ n
    · have hlt := sq_big h.1 h.2
      rw [dif_pos h]
      by_cases hm : n % d = 0
      · rw [if_pos hm]
        have hv := vr_bd (p := d) h.1 hn
        have hh := vr_half h.1 hn hm
        have := ih (d + 1) (vr d n) (by omega) hv.1
        simp only [List.length_cons]
        omega
      · rw [if_neg hm]
        exact ih (d + 1) n (by omega) hn
    · rw [dif_neg h]
      by_cases h1 : 1 < n
      · rw [if_pos h1]; simp; omega
      · rw [if_neg h1]; simp
theorem facL_len {d n : Int} (hn : 1 ≤ n) : (facL d n).length ≤ n.toNat := facL_length _ d n (Nat.le_refl _) hn
def facP (d n : Int) : List Int := (facL d n).map (·.1)
def facE (d n : Int) : List Int := (facL d n).map (·.2)
theorem facPE_len (d n : Int) : (facP d n).length = (facE d n).length := by simp [facP, facE]
theorem facP_len {d n : Int} (hn : 1 ≤ n) : (facP d n).length ≤ n.toNat := by rw [facP, List.length_map]; exact facL_len hn

/-- The trial division's state: what has been found, and what is still to be found. -/
def FacInv (n d c : Int) (ps es : List Int) : Prop :=
  2 ≤ d ∧ d ≤ 1000001 ∧ 1 ≤ c ∧ c ≤ n ∧ ps ++ facP d c = facP 2 n ∧ es ++ facE d c = facE 2 n ∧ ps.length = es.length
theorem facInv_start {n : Int} (hn : 1 ≤ n) : FacInv n 2 n [] [] := ⟨by omega, by omega, hn, Int.le_refl _, rfl, rfl, rfl⟩
theorem facInv_div {n d c : Int} {ps es : List Int} (hn : n ≤ 1000000) (h : FacInv n d c ps es) (hd : d * d ≤ c) (hm : c % d = 0) :
    FacInv n (d + 1) (vr d c) (ps ++ [d]) (es ++ [ve d c]) := by
  obtain ⟨h1, h2, h3, h4, h5, h6, h7⟩ := h
  have hb := sq_big h1 hd
  have hv := vr_bd (p := d) h1 h3
  have e := facL_div h1 hd hm
  refine ⟨by omega, by omega, hv.1, by omega, ?_, ?_, by simp [h7]⟩
  · rw [← h5]; simp [facP, e]
  · rw [← h6]; simp [facE, e]
theorem facInv_skip {n d c : Int} {ps es : List Int} (hn : n ≤ 1000000) (h : FacInv n d c ps es) (hd : d * d ≤ c) (hm : c % d ≠ 0) : FacInv n (d + 1) c ps es := by
  obtain ⟨h1, h2, h3, h4, h5, h6, h7⟩ := h
  have hb := sq_big h1 hd
  have e := facL_skip h1 hd hm
  refine ⟨by omega, by omega, h3, h4, ?_, ?_, h7⟩
  · rw [← h5]; simp [facP, e]
  · rw [← h6]; simp [facE, e]
theorem facInv_last {n d c : Int} {ps es : List Int} (hn : n ≤ 1000000) (h : FacInv n d c ps es) (hd : c < d * d) (hc : 1 < c) :
    FacInv n (c + 1) 1 (ps ++ [c]) (es ++ [1]) := by
  obtain ⟨h1, h2, h3, h4, h5, h6, h7⟩ := h
  have e := facL_last hd hc
  have e1 := facL_one (d := c + 1) (by omega)
  refine ⟨by omega, by omega, by omega, by omega, ?_, ?_, by simp [h7]⟩
  · rw [← h5]; simp [facP, e, e1]
  · rw [← h6]; simp [facE, e, e1]
theorem facInv_end {n d : Int} {ps es : List Int} (h : FacInv n d 1 ps es) : ps = facP 2 n ∧ es = facE 2 n := by
  obtain ⟨h1, h2, h3, h4, h5, h6, h7⟩ := h
  have e1 := facL_one h1
  exact ⟨by rw [← h5]; simp [facP, e1], by rw [← h6]; simp [facE, e1]⟩
theorem facInv_bd {n d c : Int} {ps es : List Int} (h : FacInv n d c ps es) : 2 ≤ d ∧ d ≤ 1000001 ∧ 1 ≤ c ∧ c ≤ n ∧ ps.length ≤ n.toNat ∧ ps.length = es.length := by
  obtain ⟨h1, h2, h3, h4, h5, h6, h7⟩ := h
  have := facP_len (d := 2) (n := n) (by omega)
  rw [← h5] at this
  simp at this
  exact ⟨h1, h2, h3, h4, by omega, h7⟩
theorem sq_fits {d : Int} (h1 : 2 ≤ d) (h2 : d ≤ 1000001) : 4 ≤ d * d ∧ d * d ≤ 1000002000001 := by
  have a := Int.mul_le_mul h1 h1 (by omega) (by omega)
  have b := Int.mul_le_mul h2 h2 (by omega) (by omega)
  omega
/-- A number above 1 that is its own trial divisor goes once into itself. -/
theorem v_self {c : Int} (hc : 1 < c) : ve c c = 1 ∧ vr c c = 1 := by
  have h := v_step (p := c) (n := c) (by omega) (by omega) (Int.emod_self)
  rw [Int.ediv_self (by omega)] at h
  have h1 := v_stop (p := c) (n := 1) (by omega) (by omega) (by rw [Int.emod_eq_of_lt (by omega) hc]; omega)
  omega
/-- A divisor goes at least once into what it divides. -/
theorem ve_pos {p n : Int} (hp : 2 ≤ p) (hn : 1 ≤ n) (hd : n % p = 0) : 0 < ve p n := by
  have := v_step hp hn hd
  have := ve_nonneg p (n / p)
  omega
end Go.Proofs.Yteappjgdcbploaa.Num
