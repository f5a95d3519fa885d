/- NumA, NumB, NumM, NumQ, NumR, NumD, NumE, NumS, NumU in one. -/
namespace Go.Proofs.Yteappjgdcbploaa.Num

theorem gcd_step (a b : Int) : Int.gcd b (a % b) = Int.gcd a b := by
  have h := Int.gcd_add_mul_left_right b (a % b) (a / b)
  rw [Int.emod_add_mul_ediv] at h
  rw [← h, Int.gcd_comm]

theorem gcd_tstep (a b : Int) : Int.gcd b (a.tmod b) = Int.gcd a b := by
  have h := Int.gcd_add_mul_left_right b (a.tmod b) (a.tdiv b)
  rw [Int.tmod_add_mul_tdiv] at h
  rw [← h, Int.gcd_comm]

theorem gcd_qstep (a b q : Int) : Int.gcd b (a - q * b) = Int.gcd a b := by
  rw [Int.mul_comm q b, Int.gcd_sub_mul_left_right, Int.gcd_comm]

theorem mul_natAbs_le {x y m : Int} (hy : 1 ≤ y) (h : (x.natAbs : Int) * y ≤ m) : (x.natAbs : Int) ≤ m := by
  have : (x.natAbs : Int) * 1 ≤ (x.natAbs : Int) * y := Int.mul_le_mul_of_nonneg_left hy (by omega)
  omega

/-- The state of the extended algorithm. -/
structure Eu (v m d r x y : Int) : Prop where
  d0 : 0 ≤ d
  r0 : 0 ≤ r
  dm : d ≤ m
  rm : r ≤ m
  cx : m ∣ x * v - d
  cy : m ∣ y * v - r
  b : (x.natAbs : Int) * r + (y.natAbs : Int) * d ≤ m
  xm : (x.natAbs : Int) ≤ m
  ym : (y.natAbs : Int) ≤ m
  g : Int.gcd d r = Int.gcd v m

theorem eu_start {v m : Int} (h0 : 0 ≤ v) (h1 : v < m) : Eu v m v m 1 0 where
  d0 := h0
  r0 := by omega
  dm := by omega
  rm := by omega
  cx := by simp
  cy := by simp
  b := by simp
  xm := by simp; omega
  ym := by simp; omega
  g := rfl

theorem eu_start' {v m : Int} (h0 : 0 ≤ v) (h1 : v < m) : Eu v m m v 0 1 where
  d0 := by omega
  r0 := h0
  dm := by omega
  rm := by omega
  cx := by simp
  cy := by simp
  b := by simp
  xm := by simp; omega
  ym := by simp; omega
  g := Int.gcd_comm _ _

theorem natAbs_sub_le (x z : Int) : ((x - z).natAbs : Int) ≤ x.natAbs + z.natAbs := by omega

theorem eu_step {v m d r x y : Int} (h : Eu v m d r x y) (hr : 0 < r) : Eu v m r (d - d / r * r) y (x - d / r * y) := by
  have hq0 : 0 ≤ d / r := Int.ediv_nonneg h.d0 (by omega)
  have hm := Int.emod_add_mul_ediv d r
  have h1 := Int.emod_nonneg d (b := r) (by omega)
  have h2 := Int.emod_lt_of_pos d hr
  have e : d - d / r * r = d % r := by rw [Int.mul_comm]; omega
  have hb : (y.natAbs : Int) * (d - d / r * r) + ((x - d / r * y).natAbs : Int) * r ≤ m := by
    have a1 : ((x - d / r * y).natAbs : Int) ≤ x.natAbs + (d / r * y).natAbs := natAbs_sub_le _ _
    have a2 : ((d / r * y).natAbs : Int) = d / r * y.natAbs := by
      rw [Int.natAbs_mul, Int.natCast_mul, Int.natAbs_of_nonneg hq0]
    have a3 : ((x - d / r * y).natAbs : Int) * r ≤ (x.natAbs + d / r * y.natAbs) * r :=
      Int.mul_le_mul_of_nonneg_right (by omega) (by omega)
    have a4 : (y.natAbs : Int) * (d - d / r * r) + ((x.natAbs : Int) + d / r * y.natAbs) * r = x.natAbs * r + y.natAbs * d := by
      generalize d / r = q
      rw [Int.mul_sub, Int.add_mul, Int.mul_comm q (y.natAbs : Int), Int.mul_assoc, ]
      omega
    have := h.b
    omega
  have hym : ((x - d / r * y).natAbs : Int) ≤ m := by
    apply mul_natAbs_le (y := r) (by omega)
    have : 0 ≤ (y.natAbs : Int) * (d - d / r * r) := Int.mul_nonneg (by omega) (by omega)
    omega
  refine ⟨h.r0, by omega, h.rm, by have := h.dm; have := h.rm; omega, h.cy, ?_, hb, h.ym, hym, ?_⟩
  · have e1 : (x - d / r * y) * v - (d - d / r * r) = (x * v - d) - d / r * (y * v - r) := by
      generalize d / r = q
      rw [Int.sub_mul, Int.mul_sub, Int.mul_assoc]; omega
    rw [e1]
    exact Int.dvd_sub h.cx (Int.dvd_mul_of_dvd_right h.cy)
  · rw [gcd_qstep]; exact h.g

/-- The products and differences of one round stay within m. -/
theorem eu_fits {v m d r x y : Int} (h : Eu v m d r x y) (hr : 0 < r) :
    0 ≤ d / r ∧ d / r ≤ m ∧ 0 ≤ d / r * r ∧ d / r * r ≤ d ∧ -(2 * m) ≤ d / r * y ∧ d / r * y ≤ 2 * m ∧ -m ≤ x - d / r * y ∧ x - d / r * y ≤ m := by
  have hq0 : 0 ≤ d / r := Int.ediv_nonneg h.d0 (by omega)
  have hm := Int.emod_add_mul_ediv d r
  have h1 := Int.emod_nonneg d (b := r) (by omega)
  have hqr : 0 ≤ d / r * r := Int.mul_nonneg hq0 (by omega)
  have hqr' : d / r * r ≤ d := by rw [Int.mul_comm]; omega
  have hq : d / r * 1 ≤ d / r * r := Int.mul_le_mul_of_nonneg_left (by omega) hq0
  have s := eu_step h hr
  have s1 := s.ym
  have s2 := h.xm
  have := h.dm
  have s3 : -m ≤ x - d / r * y ∧ x - d / r * y ≤ m := by omega
  refine ⟨hq0, by omega, hqr, hqr', ?_, ?_, s3.1, s3.2⟩ <;> omega

theorem eu_end {v m d x y : Int} (h : Eu v m d 0 x y) : d = Int.gcd v m := by
  have := h.g
  rw [Int.gcd_zero_right] at this
  have := h.d0
  omega

/-- The least x of at least 0 for which a x is congruent to the greatest common divisor. -/
noncomputable def bez (v m : Int) : Int := Classical.epsilon fun x : Int => 0 ≤ x ∧ x < m / Int.gcd v m ∧ m ∣ x * v - Int.gcd v m

theorem bez_unique {v m x z : Int} (hm : 0 < m) (hx0 : 0 ≤ x) (hx1 : x < m / Int.gcd v m) (hx : m ∣ x * v - Int.gcd v m)
    (hz0 : 0 ≤ z) (hz1 : z < m / Int.gcd v m) (hz : m ∣ z * v - Int.gcd v m) : x = z := by
  have hg : (Int.gcd v m : Int) ≠ 0 := by
    intro h
    have : Int.gcd v m = 0 := by omega
    rw [Int.gcd_eq_zero_iff] at this
    omega
  obtain ⟨v', hv⟩ := Int.gcd_dvd_left v m
  obtain ⟨m', hm'⟩ := Int.gcd_dvd_right v m
  have hd : m ∣ (x - z) * v := by
    have := Int.dvd_sub hx hz
    rw [Int.sub_mul]
    have e : x * v - ↑(v.gcd m) - (z * v - ↑(v.gcd m)) = x * v - z * v := by omega
    rwa [e] at this
  have hcop : Int.gcd v' m' = 1 := by
    have h := Int.gcd_mul_left (Int.gcd v m : Int) v' m'
    rw [← hv, ← hm'] at h
    have : (Int.gcd v m) ≠ 0 := by omega
    have h' : Int.gcd v m * 1 = Int.gcd v m * Int.gcd v' m' := by
      rw [Nat.mul_one]; simpa using h
    exact (Nat.eq_of_mul_eq_mul_left (by omega) h').symm
  have hd' : m' ∣ (x - z) * v' := by
    obtain ⟨c, hc⟩ := hd
    refine ⟨c, ?_⟩
    have : (Int.gcd v m : Int) * ((x - z) * v') = (Int.gcd v m : Int) * (m' * c) := by
      rw [← Int.mul_assoc _ m', ← hm', ← hc, Int.mul_left_comm, ← hv]
    exact Int.eq_of_mul_eq_mul_left hg this
  have hd2 : m' ∣ (x - z) := by
    have h1 : m'.natAbs ∣ (x - z).natAbs * v'.natAbs := by
      rw [← Int.natAbs_mul]; exact Int.natAbs_dvd_natAbs.mpr hd'
    have h2 : Nat.Coprime m'.natAbs v'.natAbs := by
      have := hcop; rw [Int.gcd_comm] at this; exact this
    exact Int.natAbs_dvd_natAbs.mp (h2.dvd_of_dvd_mul_right h1)
  have hq : m / Int.gcd v m = m' := by
    conv => lhs; lhs; rw [hm']
    exact Int.mul_ediv_cancel_left _ hg
  rw [hq] at hx1 hz1
  obtain ⟨c, hc⟩ := hd2
  have : c = 0 := by
    by_cases h0 : c = 0
    · exact h0
    · have : 0 < m' := by omega
      rcases Int.lt_or_gt_of_ne h0 with h | h
      · have : m' * c ≤ m' * (-1) := Int.mul_le_mul_of_nonneg_left (by omega) (by omega)
        omega
      · have : m' * 1 ≤ m' * c := Int.mul_le_mul_of_nonneg_left (by omega) (by omega)
        omega
  subst this
  omega

theorem bez_of {v m x : Int} (hm : 0 < m) (hx0 : 0 ≤ x) (hx1 : x < m / Int.gcd v m) (hx : m ∣ x * v - Int.gcd v m) : bez v m = x := by
  have h := Classical.epsilon_spec (p := fun x : Int => 0 ≤ x ∧ x < m / Int.gcd v m ∧ m ∣ x * v - Int.gcd v m) ⟨x, hx0, hx1, hx⟩
  exact bez_unique hm h.1 h.2.1 h.2.2 hx0 hx1 hx

/-- Go's remainder and the residue. -/
theorem tmod_neg {a m : Int} (hm : 0 < m) (h : a.tmod m < 0) : a % m = a.tmod m + m := by
  have h1 := Int.tmod_add_mul_tdiv a m
  have h2 := Int.lt_tmod_of_pos a hm
  have : a % m = (a.tmod m + m) % m := by
    conv => lhs; rw [← h1]
    rw [Int.add_mul_emod_self_left, Int.add_emod_right]
  rw [this, Int.emod_eq_of_lt (by omega) (by omega)]
theorem tmod_pos {a m : Int} (hm : 0 < m) (h : 0 ≤ a.tmod m) : a % m = a.tmod m := by
  have h1 := Int.tmod_add_mul_tdiv a m
  have h2 := Int.tmod_lt_of_pos a hm
  have : a % m = (a.tmod m) % m := by
    conv => lhs; rw [← h1]
    rw [Int.add_mul_emod_self_left]
  rw [this, Int.emod_eq_of_lt (by omega) (by omega)]
theorem tmod_bd (a : Int) {m : Int} (hm : 0 < m) : -m < a.tmod m ∧ a.tmod m < m :=
  ⟨Int.lt_tmod_of_pos a hm, Int.tmod_lt_of_pos a hm⟩
theorem mod_bd (a : Int) {m : Int} (hm : 0 < m) : 0 ≤ a % m ∧ a % m < m :=
  ⟨Int.emod_nonneg _ (by omega), Int.emod_lt_of_pos _ hm⟩

/-- The group primes. -/
def gp (n : Int) : Bool := decide (n = 2 ∨ n = 3 ∨ n = 5 ∨ n = 7)
theorem gp_yes {n : Int} (h : gp n = true) : n = 2 ∨ n = 3 ∨ n = 5 ∨ n = 7 := by simpa [gp] using h
theorem gp_no {n : Int} (h : gp n = false) : n ≠ 2 ∧ n ≠ 3 ∧ n ≠ 5 ∧ n ≠ 7 := by simpa [gp] using h
theorem gp_mk {n : Int} (h : n = 2 ∨ n = 3 ∨ n = 5 ∨ n = 7) : gp n = true := by simpa [gp] using h
theorem gp_mk' {n : Int} (h2 : n ≠ 2) (h3 : n ≠ 3) (h5 : n ≠ 5) (h7 : n ≠ 7) : gp n = false := by simp [gp, *]
theorem gp_bd {n : Int} (h : gp n = true) : 2 ≤ n ∧ n ≤ 7 := by have := gp_yes h; omega

/-- The sign. -/
def sg (a : Int) : Int := if 0 < a then 1 else if a < 0 then -1 else 0
theorem mul_sg (a : Int) : a * sg a = a.natAbs := by
  unfold sg
  split
  · omega
  · split <;> omega
theorem sg_bd (a : Int) : -1 ≤ sg a ∧ sg a ≤ 1 := by
  unfold sg
  split
  · omega
  · split <;> omega

/-- What the algorithm leaves where the greatest common divisor is 1. -/
theorem bez_eu {v m x y : Int} (hm : 0 < m) (h : Eu v m 1 0 x y) : x % m = bez v m := by
  have hg : (Int.gcd v m : Int) = 1 := (eu_end h).symm
  have hb := mod_bd x hm
  refine (bez_of hm hb.1 (by rw [hg, Int.ediv_one]; exact hb.2) ?_).symm
  rw [hg]
  have h1 := h.cx
  have e : x % m * v - 1 = (x * v - 1) - m * (x / m * v) := by
    have := Int.emod_add_mul_ediv x m
    have h2 : x % m = x - m * (x / m) := by omega
    rw [h2, Int.sub_mul, Int.mul_assoc]; omega
  rw [e]
  exact Int.dvd_sub h1 (Int.dvd_mul_right _ _)
theorem eu_lt {d r : Int} (hr : 0 < r) : d - d / r * r < r := by
  have := Int.emod_lt_of_pos d hr
  have h5 := Int.emod_add_mul_ediv d r
  rw [Int.mul_comm] at h5
  omega
theorem eu_run {v m : Int} (n : Nat) : ∀ d r x y : Int, r.toNat ≤ n → Eu v m d r x y → ∃ d' x' y', Eu v m d' 0 x' y' := by
  induction n with
  | zero =>
    intro d r x y hn h
    have : r = 0 := by have := h.r0; omega
    subst this
    exact ⟨d, x, y, h⟩
  | succ n ih =>
    intro d r x y hn h
    by_cases hr : r = 0
    · subst hr; exact ⟨d, x, y, h⟩
    · have hr' : 0 < r := by have := h.r0; omega
      exact ih _ _ _ _ (by have := eu_lt (d := d) hr'; have := (eu_step h hr').r0; omega) (eu_step h hr')
theorem eu_ex {v m : Int} (h0 : 0 ≤ v) (h1 : v < m) : ∃ x y : Int, Eu v m (Int.gcd v m) 0 x y := by
  obtain ⟨d, x, y, h⟩ := eu_run m.toNat v m 1 0 (Nat.le_refl _) (eu_start h0 h1)
  have := eu_end h
  subst this
  exact ⟨x, y, h⟩

/-- The state at the end, for any greatest common divisor. -/
theorem bez_eu' {v m x y : Int} (hm : 0 < m) (h : Eu v m (Int.gcd v m) 0 x y) : x % (m / Int.gcd v m) = bez v m := by
  have hg0 : (Int.gcd v m : Int) ≠ 0 := by
    intro h
    have : Int.gcd v m = 0 := by omega
    rw [Int.gcd_eq_zero_iff] at this
    omega
  obtain ⟨m', hm'⟩ := Int.gcd_dvd_right v m
  obtain ⟨v', hv'⟩ := Int.gcd_dvd_left v m
  have hq : m / Int.gcd v m = m' := by
    conv => lhs; lhs; rw [hm']
    exact Int.mul_ediv_cancel_left _ hg0
  have hgp : (0 : Int) < Int.gcd v m := by omega
  have hmp : 0 < m' := by
    by_cases hh : 0 < m'
    · exact hh
    · have : (Int.gcd v m : Int) * m' ≤ (Int.gcd v m : Int) * 0 := Int.mul_le_mul_of_nonneg_left (by omega) (by omega)
      omega
  have hb := mod_bd x hmp
  rw [hq]
  refine (bez_of hm hb.1 (by rw [hq]; exact hb.2) ?_).symm
  have h1 := h.cx
  have e : x % m' * v - Int.gcd v m = (x * v - Int.gcd v m) - m * (x / m' * v') := by
    have := Int.emod_add_mul_ediv x m'
    have h2 : x % m' = x - m' * (x / m') := by omega
    rw [h2, Int.sub_mul]
    have : m' * (x / m') * v = m * (x / m' * v') := by
      conv => lhs; rw [hv']
      conv => rhs; rw [hm']
      simp only [Int.mul_assoc, Int.mul_left_comm, Int.mul_comm]
    omega
  rw [e]
  exact Int.dvd_sub h1 (Int.dvd_mul_right _ _)
theorem bez_spec {v m : Int} (h0 : 0 ≤ v) (h1 : v < m) : 0 ≤ bez v m ∧ bez v m < m / Int.gcd v m ∧ m ∣ bez v m * v - Int.gcd v m := by
  obtain ⟨x, y, h⟩ := eu_ex h0 h1
  have e := bez_eu' (by omega) h
  have hg0 : (Int.gcd v m : Int) ≠ 0 := by
    intro h
    have : Int.gcd v m = 0 := by omega
    rw [Int.gcd_eq_zero_iff] at this
    omega
  have hx : ∃ x : Int, 0 ≤ x ∧ x < m / Int.gcd v m ∧ m ∣ x * v - Int.gcd v m := by
    obtain ⟨m', hm'⟩ := Int.gcd_dvd_right v m
    obtain ⟨v', hv'⟩ := Int.gcd_dvd_left v m
    have hq : m / Int.gcd v m = m' := by
      conv => lhs; lhs; rw [hm']
      exact Int.mul_ediv_cancel_left _ hg0
    have hmp : 0 < m' := by
      by_cases hh : 0 < m'
      · exact hh
      · have : (Int.gcd v m : Int) * m' ≤ (Int.gcd v m : Int) * 0 := Int.mul_le_mul_of_nonneg_left (by omega) (by omega)
        omega
    refine ⟨x % m', ?_⟩
    have hb := mod_bd x hmp
    refine ⟨hb.1, by rw [hq]; exact hb.2, ?_⟩
    have e : x % m' * v - Int.gcd v m = (x * v - Int.gcd v m) - m * (x / m' * v') := by
      have := Int.emod_add_mul_ediv x m'
      have h2 : x % m' = x - m' * (x / m') := by omega
      rw [h2, Int.sub_mul]
      have : m' * (x / m') * v = m * (x / m' * v') := by
        conv => lhs; rw [hv']
        conv => rhs; rw [hm']
        simp only [Int.mul_assoc, Int.mul_left_comm, Int.mul_comm]
      omega
    rw [e]
    exact Int.dvd_sub h.cx (Int.dvd_mul_right _ _)
  exact Classical.epsilon_spec (p := fun x : Int => 0 ≤ x ∧ x < m / Int.gcd v m ∧ m ∣ x * v - Int.gcd v m) hx

/-! Powers modulo m. -/
theorem mul_mod_left (a b m : Int) : a % m * b % m = a * b % m := by
  rw [Int.mul_emod, Int.emod_emod, ← Int.mul_emod]
theorem mul_mod_right (a b m : Int) : a * (b % m) % m = a * b % m := by
  rw [Int.mul_emod, Int.emod_emod, ← Int.mul_emod]
theorem pow_mod (a m : Int) (k : Nat) : (a % m) ^ k % m = a ^ k % m := by
  induction k with
  | zero => simp
  | succ k ih => rw [Int.pow_succ, Int.pow_succ, mul_mod_right, ← mul_mod_left, ih, mul_mod_left]
theorem pow_sq (b : Int) (k : Nat) : (b * b) ^ k = b ^ (2 * k) := by
  induction k with
  | zero => simp
  | succ k ih =>
    have : 2 * (k + 1) = 2 * k + 1 + 1 := by omega
    rw [this, Int.pow_succ, Int.pow_succ, Int.pow_succ, ih, Int.mul_assoc]
theorem pow_half (b m : Int) (k : Nat) (c : Int) : c * (b * b % m) ^ k % m = c * b ^ (2 * k) % m := by
  rw [← mul_mod_right, pow_mod, mul_mod_right, pow_sq]
/-- One round's number: the invariant of the power's loop. -/
def PowInv (v n m r b e : Int) : Prop := 0 ≤ r ∧ r < m ∧ 0 ≤ b ∧ b < m ∧ 0 ≤ e ∧ e ≤ n ∧ r * b ^ e.toNat % m = v ^ n.toNat % m
theorem powInv_bd {v n m r b e : Int} (h : PowInv v n m r b e) : 0 ≤ r ∧ r < m ∧ 0 ≤ b ∧ b < m ∧ 0 ≤ e ∧ e ≤ n := ⟨h.1, h.2.1, h.2.2.1, h.2.2.2.1, h.2.2.2.2.1, h.2.2.2.2.2.1⟩
theorem powInv_start {v n m : Int} (hv0 : 0 ≤ v) (hv1 : v < m) (hn : 0 ≤ n) : PowInv v n m (1 % m) v n := by
  have := mod_bd 1 (m := m) (by omega)
  refine ⟨this.1, this.2, hv0, hv1, hn, Int.le_refl _, ?_⟩
  have := mul_mod_left 1 (v ^ n.toNat) m
  rw [this, Int.one_mul]
theorem powInv_end {v n m r b : Int} (h : PowInv v n m r b 0) : r = v ^ n.toNat % m := by
  obtain ⟨h1, h2, _, _, _, _, h7⟩ := h
  rw [← h7]
  simp
  rw [Int.emod_eq_of_lt h1 h2]
theorem powInv_odd {v n m r b e : Int} (h : PowInv v n m r b e) (he : 0 < e) (ho : e % 2 = 1) : PowInv v n m (r * b % m) (b * b % m) (e / 2) := by
  obtain ⟨h1, h2, h3, h4, h5, h6, h7⟩ := h
  have a := mod_bd (r * b) (m := m) (by omega)
  have c := mod_bd (b * b) (m := m) (by omega)
  refine ⟨a.1, a.2, c.1, c.2, by omega, by omega, ?_⟩
  rw [← h7, mul_mod_left, pow_half, Int.mul_assoc, ← Int.pow_succ']
  congr 3
  omega
theorem powInv_even {v n m r b e : Int} (h : PowInv v n m r b e) (he : 0 < e) (ho : ¬ e % 2 = 1) : PowInv v n m r (b * b % m) (e / 2) := by
  obtain ⟨h1, h2, h3, h4, h5, h6, h7⟩ := h
  have c := mod_bd (b * b) (m := m) (by omega)
  refine ⟨h1, h2, c.1, c.2, by omega, by omega, ?_⟩
  rw [← h7, pow_half]
  congr 3
  omega

theorem mul_fits {x y m : Int} (hx0 : 0 ≤ x) (hx1 : x < m) (hy0 : 0 ≤ y) (hy1 : y < m) (hm : m ≤ 1000000) : 0 ≤ x * y ∧ x * y ≤ 1000000000000 := by
  have : x * y ≤ 1000000 * 1000000 := Int.mul_le_mul (by omega) (by omega) hy0 (by omega)
  exact ⟨Int.mul_nonneg hx0 hy0, by omega⟩
theorem gcd_div {v m : Int} (hm : 0 < m) : 1 ≤ (Int.gcd v m : Int) ∧ 1 ≤ m / Int.gcd v m ∧ m / Int.gcd v m ≤ m := by
  have hg0 : (Int.gcd v m : Int) ≠ 0 := by
    intro h
    have : Int.gcd v m = 0 := by omega
    rw [Int.gcd_eq_zero_iff] at this
    omega
  obtain ⟨m', hm'⟩ := Int.gcd_dvd_right v m
  have hq : m / Int.gcd v m = m' := by
    conv => lhs; lhs; rw [hm']
    exact Int.mul_ediv_cancel_left _ hg0
  have hmp : 0 < m' := by
    by_cases hh : 0 < m'
    · exact hh
    · have : (Int.gcd v m : Int) * m' ≤ (Int.gcd v m : Int) * 0 := Int.mul_le_mul_of_nonneg_left (by omega) (by omega)
      omega
  have : 1 * m' ≤ (Int.gcd v m : Int) * m' := Int.mul_le_mul_of_nonneg_right (by omega) (by omega)
  rw [hq]
  omega
end Go.Proofs.Yteappjgdcbploaa.Num
namespace Go.Proofs.Yteappjgdcbploaa.Num

/-- How often p divides n, and what is left. -/
def vpart (p n : Nat) : Nat × Nat :=
  if _h : 2 ≤ p ∧ 1 ≤ n ∧ n % p = 0 then ((vpart p (n / p)).1 + 1, (vpart p (n / p)).2) else (0, n)
termination_by n
decreasing_by all_goals exact Nat.div_lt_self (by omega) (by omega)
def ve (p n : Int) : Int := (vpart p.toNat n.toNat).1
def vr (p n : Int) : Int := (vpart p.toNat n.toNat).2
/-- The greatest power of p that divides n. -/
def pp (p n : Int) : Int := p ^ (ve p n).toNat

theorem toNat_div {n p : Int} (hn : 0 ≤ n) (hp : 0 ≤ p) : (n / p).toNat = n.toNat / p.toNat := by
  obtain ⟨a, rfl⟩ := Int.eq_ofNat_of_zero_le hn
  obtain ⟨b, rfl⟩ := Int.eq_ofNat_of_zero_le hp
  simp [← Int.natCast_ediv]
theorem toNat_mod {n p : Int} (hn : 0 ≤ n) (hp : 0 ≤ p) : (n % p).toNat = n.toNat % p.toNat := by
  obtain ⟨a, rfl⟩ := Int.eq_ofNat_of_zero_le hn
  obtain ⟨b, rfl⟩ := Int.eq_ofNat_of_zero_le hp
  simp [← Int.natCast_emod]
theorem v_step {p n : Int} (hp : 2 ≤ p) (hn : 1 ≤ n) (hd : n % p = 0) : ve p n = ve p (n / p) + 1 ∧ vr p n = vr p (n / p) := by
  have h : 2 ≤ p.toNat ∧ 1 ≤ n.toNat ∧ n.toNat % p.toNat = 0 := ⟨by omega, by omega, by rw [← toNat_mod (by omega) (by omega), hd]; rfl⟩
  unfold ve vr
  rw [vpart, dif_pos h, toNat_div (by omega) (by omega)]
  simp
theorem v_stop {p n : Int} (hn : 1 ≤ n) (hp : 2 ≤ p) (hd : n % p ≠ 0) : ve p n = 0 ∧ vr p n = n := by
  have h : ¬ (2 ≤ p.toNat ∧ 1 ≤ n.toNat ∧ n.toNat % p.toNat = 0) := by
    intro h
    apply hd
    have := toNat_mod (n := n) (p := p) (by omega) (by omega)
    have h2 := Int.emod_nonneg n (b := p) (by omega)
    omega
  unfold ve vr
  rw [vpart, dif_neg h]
  simp; omega
theorem ve_nonneg (p n : Int) : 0 ≤ ve p n := by unfold ve; omega
theorem vr_nonneg (p n : Int) : 0 ≤ vr p n := by unfold vr; omega
theorem div_bd {p n : Int} (hp : 2 ≤ p) (hn : 1 ≤ n) (hd : n % p = 0) : 1 ≤ n / p ∧ n / p < n ∧ n = p * (n / p) := by
  have h := Int.emod_add_mul_ediv n p
  have e : n = p * (n / p) := by omega
  have h1 : 1 ≤ n / p := by
    by_cases hh : 1 ≤ n / p
    · exact hh
    · have : p * (n / p) ≤ p * 0 := Int.mul_le_mul_of_nonneg_left (by omega) (by omega)
      omega
  have h2 : 2 * (n / p) ≤ p * (n / p) := Int.mul_le_mul_of_nonneg_right hp (by omega)
  exact ⟨h1, by omega, e⟩
/-- All that holds of the parts. -/
theorem v_all {p : Int} (hp : 2 ≤ p) (k : Nat) : ∀ n : Int, n.toNat ≤ k → 1 ≤ n → n = pp p n * vr p n ∧ 1 ≤ vr p n ∧ vr p n % p ≠ 0 := by
  induction k with
  | zero => intro n h1 h2; omega
  | succ k ih =>
    intro n hk hn
    by_cases hd : n % p = 0
    · obtain ⟨b1, b2, b3⟩ := div_bd hp hn hd
      obtain ⟨s1, s2⟩ := v_step hp hn hd
      obtain ⟨i1, i2, i3⟩ := ih (n / p) (by omega) b1
      refine ⟨?_, by rw [s2]; exact i2, by rw [s2]; exact i3⟩
      have : pp p n = p * pp p (n / p) := by
        unfold pp
        rw [s1, show (ve p (n / p) + 1).toNat = (ve p (n / p)).toNat + 1 by have := ve_nonneg p (n / p); omega, Int.pow_succ, Int.mul_comm]
      rw [this, s2, Int.mul_assoc, ← i1]
      exact b3
    · obtain ⟨s1, s2⟩ := v_stop hn hp hd
      unfold pp
      rw [s1, s2]
      refine ⟨by simp, hn, hd⟩
theorem pp_step {p n : Int} (hp : 2 ≤ p) (hn : 1 ≤ n) (hd : n % p = 0) : pp p n = p * pp p (n / p) := by
  obtain ⟨s1, _⟩ := v_step hp hn hd
  unfold pp
  rw [s1, show (ve p (n / p) + 1).toNat = (ve p (n / p)).toNat + 1 by have := ve_nonneg p (n / p); omega, Int.pow_succ, Int.mul_comm]
theorem pp_stop {p n : Int} (hp : 2 ≤ p) (hn : 1 ≤ n) (hd : n % p ≠ 0) : pp p n = 1 := by
  unfold pp; rw [(v_stop hn hp hd).1]; simp
theorem pp_mul {p n : Int} (hp : 2 ≤ p) (hn : 1 ≤ n) : n = pp p n * vr p n := (v_all hp n.toNat n (Nat.le_refl _) hn).1
theorem vr_bd {p n : Int} (hp : 2 ≤ p) (hn : 1 ≤ n) : 1 ≤ vr p n ∧ vr p n ≤ n := by
  have h := v_all hp n.toNat n (Nat.le_refl _) hn
  have hpos : 1 ≤ pp p n := by
    have : 0 < pp p n := by unfold pp; exact Int.pow_pos (by omega)
    omega
  have : 1 * vr p n ≤ pp p n * vr p n := Int.mul_le_mul_of_nonneg_right hpos (by omega)
  omega
theorem pp_bd {p n : Int} (hp : 2 ≤ p) (hn : 1 ≤ n) : 1 ≤ pp p n ∧ pp p n ≤ n := by
  have h := v_all hp n.toNat n (Nat.le_refl _) hn
  have hpos : 0 < pp p n := by unfold pp; exact Int.pow_pos (by omega)
  have : pp p n * 1 ≤ pp p n * vr p n := Int.mul_le_mul_of_nonneg_left (by omega) (by omega)
  omega
theorem div_vr {p n : Int} (hp : 2 ≤ p) (hn : 1 ≤ n) : n / vr p n = pp p n := by
  have h := pp_mul hp hn
  have hv := (vr_bd hp hn).1
  conv => lhs; lhs; rw [h]
  exact Int.mul_ediv_cancel _ (by omega)

/-- The loop that takes a prime out: what it keeps. -/
def RemInv (p n c k : Int) : Prop := 1 ≤ c ∧ 0 ≤ k ∧ c + k ≤ n ∧ ve p n = k + ve p c ∧ vr p n = vr p c
theorem remInv_start {p n : Int} (hn : 1 ≤ n) : RemInv p n n 0 := ⟨hn, Int.le_refl _, by omega, by omega, rfl⟩
theorem remInv_step {p n c k : Int} (hp : 2 ≤ p) (h : RemInv p n c k) (hd : c % p = 0) : RemInv p n (c / p) (k + 1) := by
  obtain ⟨h1, h2, h3, h4, h5⟩ := h
  obtain ⟨b1, b2, _⟩ := div_bd hp h1 hd
  obtain ⟨s1, s2⟩ := v_step hp h1 hd
  exact ⟨b1, by omega, by omega, by omega, by rw [h5, s2]⟩
theorem remInv_end {p n c k : Int} (hp : 2 ≤ p) (h : RemInv p n c k) (hd : c % p ≠ 0) : k = ve p n ∧ c = vr p n := by
  obtain ⟨h1, h2, h3, h4, h5⟩ := h
  obtain ⟨s1, s2⟩ := v_stop h1 hp hd
  exact ⟨by omega, by rw [h5, s2]⟩
theorem remInv_bd {p n c k : Int} (h : RemInv p n c k) : 1 ≤ c ∧ 0 ≤ k ∧ c + k ≤ n := ⟨h.1, h.2.1, h.2.2.1⟩
/-- The loop that collects the power. -/
def PartInv (p n c o : Int) : Prop := 1 ≤ c ∧ 1 ≤ o ∧ o * c = n ∧ o * pp p c = pp p n
theorem partInv_start {p n : Int} (hn : 1 ≤ n) : PartInv p n n 1 := ⟨hn, Int.le_refl _, by omega, by omega⟩
theorem partInv_step {p n c o : Int} (hp : 2 ≤ p) (h : PartInv p n c o) (hd : c % p = 0) : PartInv p n (c / p) (o * p) := by
  obtain ⟨h1, h2, h3, h4⟩ := h
  obtain ⟨b1, b2, b3⟩ := div_bd hp h1 hd
  have : 1 * 1 ≤ o * p := Int.mul_le_mul h2 (by omega) (by omega) (by omega)
  refine ⟨b1, by omega, by rw [Int.mul_assoc, ← b3, h3], by rw [Int.mul_assoc, ← pp_step hp h1 hd, h4]⟩
theorem partInv_end {p n c o : Int} (hp : 2 ≤ p) (h : PartInv p n c o) (hd : c % p ≠ 0) : o = pp p n := by
  obtain ⟨h1, h2, h3, h4⟩ := h
  rw [pp_stop hp h1 hd] at h4
  omega
theorem partInv_bd {p n c o : Int} (h : PartInv p n c o) : 1 ≤ c ∧ c ≤ n ∧ 1 ≤ o ∧ o ≤ n := by
  obtain ⟨h1, h2, h3, h4⟩ := h
  have a : o * 1 ≤ o * c := Int.mul_le_mul_of_nonneg_left h1 (by omega)
  have b : 1 * c ≤ o * c := Int.mul_le_mul_of_nonneg_right h2 (by omega)
  omega

/-! Inverses modulo a group prime. -/
theorem gp_gcd {p v : Int} (hp : gp p = true) (h1 : 1 ≤ v) (h2 : v < p) : Int.gcd v p = 1 := by
  rcases gp_yes hp with rfl | rfl | rfl | rfl
  · obtain rfl : v = 1 := by omega
    decide
  · have : v = 1 ∨ v = 2 := by omega
    rcases this with rfl | rfl <;> decide
  · have : v = 1 ∨ v = 2 ∨ v = 3 ∨ v = 4 := by omega
    rcases this with rfl | rfl | rfl | rfl <;> decide
  · have : v = 1 ∨ v = 2 ∨ v = 3 ∨ v = 4 ∨ v = 5 ∨ v = 6 := by omega
    rcases this with rfl | rfl | rfl | rfl | rfl | rfl <;> decide
/-- Modulo m, bez is the inverse where there is one. -/
theorem bez_inv {v m : Int} (h0 : 0 ≤ v) (h1 : v < m) (hg : Int.gcd v m = 1) : 0 ≤ bez v m ∧ bez v m < m ∧ v * bez v m % m = 1 % m := by
  obtain ⟨a, b, c⟩ := bez_spec h0 h1
  rw [hg] at b c
  refine ⟨a, by simpa using b, ?_⟩
  rw [Int.emod_eq_emod_iff_emod_sub_eq_zero, Int.mul_comm]
  exact Int.emod_eq_zero_of_dvd c
theorem bez_is {v m x : Int} (h0 : 0 < m) (hg : Int.gcd v m = 1) (hx0 : 0 ≤ x) (hx1 : x < m) (hx : v * x % m = 1 % m) : bez v m = x := by
  refine bez_of h0 hx0 (by rw [hg]; simpa using hx1) ?_
  rw [hg]
  apply Int.dvd_of_emod_eq_zero
  rw [← Int.emod_eq_emod_iff_emod_sub_eq_zero, Int.mul_comm]
  exact hx
end Go.Proofs.Yteappjgdcbploaa.Num
namespace Go.Proofs.Yteappjgdcbploaa.Num
set_option linter.unusedVariables false

/-- A vector over p of length n. -/
def vecB (p n : Int) (xs : List Int) : Bool := decide ((xs.length : Int) = n) && xs.all fun x => decide (0 ≤ x ∧ x < p)
def matB (P C : Int) (xss : List (List Int)) : Bool := gp P && decide (0 ≤ C ∧ C ≤ 8) && decide (xss.length ≤ 8) && xss.all (vecB P C)
theorem all_get {α : Type} {f : α → Bool} {l : List α} (h : l.all f = true) {i : Nat} (hi : i < l.length) : f l[i] = true := by
  rw [List.all_eq_true] at h
  exact h _ (List.getElem_mem hi)
theorem vecB_len {p n : Int} {xs : List Int} (h : ¬ ((xs.length : Int) = n)) : vecB p n xs = false := by simp [vecB, h]
theorem vecB_bad {p n : Int} {xs : List Int} {k : Nat} (hk : k < xs.length) (h : ¬ (0 ≤ xs.getD k 0 ∧ xs.getD k 0 < p)) : vecB p n xs = false := by
  cases hv : vecB p n xs with
  | false => rfl
  | true =>
    exfalso
    simp only [vecB, Bool.and_eq_true] at hv
    have := all_get hv.2 hk
    simp at this
    apply h
    simpa [hk] using this
theorem vecB_ok {p n : Int} {xs : List Int} (h0 : (xs.length : Int) = n) (h : ∀ k, k < xs.length → 0 ≤ xs.getD k 0 ∧ xs.getD k 0 < p) : vecB p n xs = true := by
  simp only [vecB, Bool.and_eq_true, List.all_eq_true, decide_eq_true_eq]
  refine ⟨h0, fun x hx => ?_⟩
  obtain ⟨k, hk, rfl⟩ := List.mem_iff_getElem.mp hx
  simpa [hk] using h k hk
theorem vecB_out {p n : Int} {xs : List Int} (h : vecB p n xs = true) : (xs.length : Int) = n ∧ ∀ k, k < xs.length → 0 ≤ xs.getD k 0 ∧ xs.getD k 0 < p := by
  simp only [vecB, Bool.and_eq_true, decide_eq_true_eq] at h
  refine ⟨h.1, fun k hk => ?_⟩
  have := all_get h.2 hk
  simp at this
  simpa [hk] using this
theorem matB_bad {P C : Int} {xss : List (List Int)} {k : Nat} (hk : k < xss.length) (h : vecB P C (xss.getD k []) = false) : matB P C xss = false := by
  cases hv : matB P C xss with
  | false => rfl
  | true =>
    exfalso
    simp only [matB, Bool.and_eq_true] at hv
    have := all_get hv.2 hk
    simp [hk] at h
    simp [h] at this
theorem matB_ok {P C : Int} {xss : List (List Int)} (h0 : gp P = true) (h1 : 0 ≤ C) (h2 : C ≤ 8) (h3 : xss.length ≤ 8) (h : ∀ k, k < xss.length → vecB P C (xss.getD k []) = true) : matB P C xss = true := by
  simp only [matB, Bool.and_eq_true, List.all_eq_true, decide_eq_true_eq]
  refine ⟨⟨⟨h0, h1, h2⟩, h3⟩, fun x hx => ?_⟩
  obtain ⟨k, hk, rfl⟩ := List.mem_iff_getElem.mp hx
  simpa [hk] using h k hk
theorem matB_out {P C : Int} {xss : List (List Int)} (h : matB P C xss = true) : gp P = true ∧ 0 ≤ C ∧ C ≤ 8 ∧ xss.length ≤ 8 ∧ ∀ k, k < xss.length → vecB P C (xss.getD k []) = true := by
  simp only [matB, Bool.and_eq_true, decide_eq_true_eq] at h
  obtain ⟨⟨⟨h0, h1⟩, h2⟩, h3⟩ := h
  refine ⟨h0, h1.1, h1.2, h2, fun k hk => ?_⟩
  have := all_get h3 hk
  simpa [hk] using this
theorem matB_no1 {P C : Int} {xss : List (List Int)} (h : gp P = false) : matB P C xss = false := by simp [matB, h]
theorem matB_no2 {P C : Int} {xss : List (List Int)} (h : ¬ (0 ≤ C ∧ C ≤ 8)) : matB P C xss = false := by simp [matB, h]
theorem matB_no3 {P C : Int} {xss : List (List Int)} (h : 8 < xss.length) : matB P C xss = false := by
  have : ¬ xss.length ≤ 8 := by omega
  simp [matB, this]
/-- How a matrix fails. -/
theorem matB_cases (P C : Int) (xss : List (List Int)) : gp P = false ∨ (gp P = true ∧ ¬ (0 ≤ C ∧ C ≤ 8)) ∨ (gp P = true ∧ 0 ≤ C ∧ C ≤ 8 ∧ 8 < xss.length) ∨ (gp P = true ∧ 0 ≤ C ∧ C ≤ 8 ∧ xss.length ≤ 8) := by
  cases gp P <;> by_cases h1 : 0 ≤ C <;> by_cases h2 : C ≤ 8 <;> by_cases h3 : xss.length ≤ 8 <;> simp [h1, h2, h3]
  all_goals omega
theorem gp_le {P : Int} (h : gp P = true) : 2 ≤ P ∧ P ≤ 7 := by
  simp [gp] at h; omega
end Go.Proofs.Yteappjgdcbploaa.Num
namespace Go.Proofs.Yteappjgdcbploaa.Num
set_option linter.unusedVariables false
set_option linter.unusedSimpArgs false

/-- A list of n entries. -/
def tab (n : Nat) (f : Nat → Int) : List Int := (List.range n).map f
theorem tab_length (n : Nat) (f : Nat → Int) : (tab n f).length = n := by simp [tab]
theorem tab_get (n : Nat) (f : Nat → Int) {i : Nat} (h : i < n) : (tab n f).getD i 0 = f i := by simp [tab, h]
theorem getD_ge {α : Type} (v : List α) (d : α) {i : Nat} (h : v.length ≤ i) : v.getD i d = d := by
  rw [List.getD_eq_getElem?_getD, List.getElem?_eq_none h]; rfl
theorem getD_lt {α : Type} (v : List α) (d : α) {i : Nat} (h : i < v.length) : v.getD i d = v[i] := by
  rw [List.getD_eq_getElem?_getD, List.getElem?_eq_getElem h]; rfl
theorem ext_getD {α : Type} (d : α) {xs ys : List α} (hl : xs.length = ys.length) (h : ∀ i, i < xs.length → xs.getD i d = ys.getD i d) : xs = ys := by
  apply List.ext_getElem hl
  intro i h1 h2
  have := h i h1
  rwa [getD_lt _ _ h1, getD_lt _ _ h2] at this
theorem tab_ext {xs : List Int} {n : Nat} {f : Nat → Int} (hl : xs.length = n) (h : ∀ i, i < n → xs.getD i 0 = f i) : xs = tab n f :=
  ext_getD 0 (by rw [hl, tab_length]) fun i hi => by rw [h i (by omega), tab_get _ _ (by omega)]
theorem tab_congr {n : Nat} {f g : Nat → Int} (h : ∀ i, i < n → f i = g i) : tab n f = tab n g :=
  tab_ext (tab_length _ _) fun i hi => by rw [tab_get _ _ hi, h i hi]
/-- f at the first j entries, v behind. -/
def upto (f : Nat → Int) (v : List Int) (j : Nat) : List Int := tab v.length fun i => if i < j then f i else v.getD i 0
theorem upto_length (f : Nat → Int) (v : List Int) (j : Nat) : (upto f v j).length = v.length := tab_length _ _
theorem upto_zero (f : Nat → Int) (v : List Int) : upto f v 0 = v := (tab_ext rfl fun i hi => by simp).symm
theorem upto_all (f : Nat → Int) (v : List Int) : upto f v v.length = tab v.length f := tab_congr fun i hi => by simp [hi]
theorem upto_get (f : Nat → Int) (v : List Int) {j : Nat} (h : j < v.length) : (upto f v j).getD j 0 = v.getD j 0 := by
  unfold upto; rw [tab_get _ _ h, if_neg (by omega)]
theorem upto_step (f : Nat → Int) (v : List Int) {j : Nat} (h : j < v.length) : (upto f v j).set j (f j) = upto f v (j + 1) := by
  refine ext_getD 0 (by simp [upto_length]) fun i hi => ?_
  have hi' : i < v.length := by simpa [upto_length] using hi
  by_cases e : i = j
  · subst e
    rw [List.getD_eq_getElem?_getD, List.getElem?_set_self (by rw [upto_length]; exact hi')]
    unfold upto
    rw [tab_get _ _ hi', if_pos (by omega)]
    rfl
  · rw [List.getD_eq_getElem?_getD, List.getElem?_set_ne (by omega), ← List.getD_eq_getElem?_getD]
    unfold upto
    rw [tab_get _ _ hi', tab_get _ _ hi']
    by_cases h1 : i < j
    · rw [if_pos h1, if_pos (by omega)]
    · rw [if_neg h1, if_neg (by omega)]
/-- v plus c times w; c times v. -/
def addF (p c : Int) (v w : List Int) (i : Nat) : Int := (v.getD i 0 + c * w.getD i 0) % p
def addV (p c : Int) (v w : List Int) : List Int := tab v.length (addF p c v w)
def scaleF (p c : Int) (v : List Int) (i : Nat) : Int := c * v.getD i 0 % p
def scaleV (p c : Int) (v : List Int) : List Int := tab v.length (scaleF p c v)
theorem addV_length (p c : Int) (v w : List Int) : (addV p c v w).length = v.length := tab_length _ _
theorem scaleV_length (p c : Int) (v : List Int) : (scaleV p c v).length = v.length := tab_length _ _

/-- The index of the first entry that is not 0, or the length. -/
def lead (v : List Int) : Nat := v.findIdx (· != 0)
theorem lead_le (v : List Int) : lead v ≤ v.length := List.findIdx_le_length
theorem lead_zero {v : List Int} {i : Nat} (h : i < lead v) : v.getD i 0 = 0 := by
  have h2 : i < v.length := Nat.lt_of_lt_of_le h (lead_le v)
  have := List.not_of_lt_findIdx h
  rw [getD_lt _ _ h2]
  simpa using this
theorem lead_ne {v : List Int} (h : lead v < v.length) : v.getD (lead v) 0 ≠ 0 := by
  have h2 : (v[lead v]'h != 0) = true := List.findIdx_getElem (w := h)
  rw [getD_lt _ _ h]
  simpa using h2
theorem lead_eq {v : List Int} {k : Nat} (h1 : k ≤ v.length) (h2 : ∀ i, i < k → v.getD i 0 = 0) (h3 : k < v.length → v.getD k 0 ≠ 0) : lead v = k := by
  rcases Nat.lt_trichotomy (lead v) k with h | h | h
  · exact absurd (h2 _ h) (lead_ne (by omega))
  · exact h
  · exact absurd (lead_zero h) (h3 (by have := lead_le v; omega))

structure Vec (p : Int) (n : Nat) (v : List Int) : Prop where
  len : v.length = n
  lo : ∀ i, 0 ≤ v.getD i 0
  hi : ∀ i, v.getD i 0 < p
theorem Vec.mod {p : Int} {n : Nat} {v : List Int} (h : Vec p n v) (i : Nat) : v.getD i 0 % p = v.getD i 0 := Int.emod_eq_of_lt (h.lo i) (h.hi i)
theorem Vec.tab {p : Int} {n : Nat} {f : Nat → Int} (hp : 0 < p) (h : ∀ i, i < n → 0 ≤ f i ∧ f i < p) : Vec p n (tab n f) := by
  refine ⟨tab_length _ _, fun i => ?_, fun i => ?_⟩
  all_goals
    by_cases hi : i < n
    · rw [tab_get _ _ hi]
      have := h i hi
      omega
    · rw [getD_ge _ _ (by rw [tab_length]; omega)]
      omega
theorem Vec.add {p c : Int} {n : Nat} {v w : List Int} (hp : 0 < p) (h : v.length = n) : Vec p n (addV p c v w) := by
  unfold addV
  rw [h]
  exact Vec.tab hp fun i hi => mod_bd _ hp
theorem Vec.scale {p c : Int} {n : Nat} {v : List Int} (hp : 0 < p) (h : v.length = n) : Vec p n (scaleV p c v) := by
  unfold scaleV
  rw [h]
  exact Vec.tab hp fun i hi => mod_bd _ hp
theorem vec_of {p : Int} {n : Nat} {v : List Int} (hp : 0 < p) (h : vecB p n v = true) : Vec p n v := by
  obtain ⟨h1, h2⟩ := vecB_out h
  refine ⟨by omega, fun i => ?_, fun i => ?_⟩
  all_goals
    by_cases hi : i < v.length
    · have := h2 i hi
      omega
    · rw [getD_ge _ _ (by omega)]
      omega
theorem addV_get {p c : Int} {v w : List Int} {i : Nat} (hw : w.length = v.length) : (addV p c v w).getD i 0 = (v.getD i 0 + c * w.getD i 0) % p := by
  by_cases h : i < v.length
  · exact tab_get _ _ h
  · rw [getD_ge _ _ (by rw [addV_length]; omega), getD_ge v _ (by omega), getD_ge w _ (by omega)]
    simp
theorem scaleV_get {p c : Int} {v : List Int} {i : Nat} : (scaleV p c v).getD i 0 = c * v.getD i 0 % p := by
  by_cases h : i < v.length
  · exact tab_get _ _ h
  · rw [getD_ge _ _ (by rw [scaleV_length]; omega), getD_ge v _ (by omega)]
    simp
/-- The factor does not matter if it is 0. -/
theorem addV_zero {p : Int} {n : Nat} {v w : List Int} (h : Vec p n v) (hw : w.length = v.length) : addV p 0 v w = v :=
  ext_getD 0 (addV_length _ _ _ _) fun i hi => by rw [addV_get hw]; simpa using h.mod i

/-! ### Rows in reduced form -/
def neg (p x : Int) : Int := -x % p
theorem neg_zero (p : Int) : neg p 0 = 0 := by simp [neg]
theorem neg_pos {p x : Int} (h0 : 0 < x) (h1 : x < p) : neg p x = p - x := by
  unfold neg
  rw [← Int.add_emod_right, Int.emod_eq_of_lt (by omega) (by omega)]
  omega
theorem neg_bd {p : Int} (x : Int) (hp : 0 < p) : 0 ≤ neg p x ∧ neg p x < p := mod_bd _ hp
theorem add_neg {p x : Int} : (x + neg p x * 1) % p = 0 := by
  unfold neg
  rw [Int.mul_one, Int.add_emod_emod, Int.add_right_neg, Int.zero_emod]
def clearStep (p : Int) (v r : List Int) : List Int := addV p (neg p (v.getD (lead r) 0)) v r
def clearV (p : Int) (rows : List (List Int)) (v : List Int) : List Int := rows.foldl (clearStep p) v
theorem clear_take {p : Int} {rows : List (List Int)} {v : List Int} {j : Nat} (h : j < rows.length) : clearV p (rows.take (j + 1)) v = clearStep p (clearV p (rows.take j) v) (rows.getD j []) := by
  unfold clearV
  rw [List.take_succ_eq_append_getElem h, List.foldl_append]
  simp [h]
theorem clear_length (p : Int) (rows : List (List Int)) (v : List Int) : (clearV p rows v).length = v.length := by
  unfold clearV
  induction rows generalizing v with
  | nil => rfl
  | cons a l ih => rw [List.foldl_cons, ih]; exact addV_length _ _ _ _
structure Ech (p : Int) (n : Nat) (e : List (List Int)) : Prop where
  vec : ∀ i, i < e.length → Vec p n (e.getD i [])
  lt : ∀ i, i < e.length → lead (e.getD i []) < n
  one : ∀ i, i < e.length → (e.getD i []).getD (lead (e.getD i [])) 0 = 1
  zero : ∀ i j, i < e.length → j < e.length → i ≠ j → (e.getD j []).getD (lead (e.getD i [])) 0 = 0
  sorted : ∀ i j, i < j → j < e.length → lead (e.getD i []) < lead (e.getD j [])
theorem Ech.nil (p : Int) (n : Nat) : Ech p n [] := ⟨fun i h => by simp at h, fun i h => by simp at h, fun i h => by simp at h, fun i j h => by simp at h, fun i j _ h => by simp at h⟩
theorem Ech.clear_to {p : Int} {n : Nat} {e : List (List Int)} {v : List Int} (hp : 0 < p) (h : Ech p n e) (hv : Vec p n v) (j : Nat) (hj : j ≤ e.length) :
    Vec p n (clearV p (e.take j) v) ∧ (∀ i, i < j → (clearV p (e.take j) v).getD (lead (e.getD i [])) 0 = 0) ∧ ∀ i, j ≤ i → i < e.length → (clearV p (e.take j) v).getD (lead (e.getD i [])) 0 = v.getD (lead (e.getD i [])) 0 := by
  induction j with
  | zero => exact ⟨by simpa [clearV] using hv, fun i h => by omega, fun i _ _ => by simp [clearV]⟩
  | succ j ih =>
    obtain ⟨h1, h2, h3⟩ := ih (by omega)
    have hj' : j < e.length := by omega
    have hl : (e.getD j []).length = (clearV p (e.take j) v).length := by rw [(h.vec j hj').len, h1.len]
    rw [clear_take hj']
    refine ⟨Vec.add hp h1.len, fun i hi => ?_, fun i hi hi' => ?_⟩
    · unfold clearStep
      rw [addV_get hl]
      by_cases e1 : i = j
      · subst e1
        rw [h.one i hj']
        exact add_neg
      · rw [h.zero i j (by omega) hj' e1, h2 i (by omega)]
        simp
    · unfold clearStep
      rw [addV_get hl, h.zero i j hi' hj' (by omega), h3 i (by omega) hi', Int.mul_zero, Int.add_zero, hv.mod]
theorem Ech.clear {p : Int} {n : Nat} {e : List (List Int)} {v : List Int} (hp : 0 < p) (h : Ech p n e) (hv : Vec p n v) :
    Vec p n (clearV p e v) ∧ ∀ i, i < e.length → (clearV p e v).getD (lead (e.getD i [])) 0 = 0 := by
  obtain ⟨h1, h2, _⟩ := h.clear_to hp hv e.length (Nat.le_refl _)
  rw [List.take_length] at h1 h2
  exact ⟨h1, h2⟩
/-- Where a row with lead k belongs. -/
def place (e : List (List Int)) (k : Nat) : Nat := e.findIdx fun r => decide (k ≤ lead r)
theorem place_le (e : List (List Int)) (k : Nat) : place e k ≤ e.length := List.findIdx_le_length
theorem place_lt {e : List (List Int)} {k i : Nat} (h : i < place e k) : lead (e.getD i []) < k := by
  have h2 : i < e.length := Nat.lt_of_lt_of_le h (place_le e k)
  have := List.not_of_lt_findIdx h
  rw [getD_lt _ _ h2]
  simpa using this
theorem place_at {e : List (List Int)} {k : Nat} (h : place e k < e.length) : k ≤ lead (e.getD (place e k) []) := by
  have h2 : decide (k ≤ lead (e[place e k]'h)) = true := List.findIdx_getElem (w := h)
  rw [getD_lt _ _ h]
  simpa using h2
theorem place_eq {e : List (List Int)} {k i : Nat} (h1 : i ≤ e.length) (h2 : ∀ j, j < i → lead (e.getD j []) < k) (h3 : i < e.length → k ≤ lead (e.getD i [])) : place e k = i := by
  rcases Nat.lt_trichotomy (place e k) i with h | h | h
  · have := place_at (e := e) (k := k) (by omega); have := h2 _ h; omega
  · exact h
  · have := place_lt h; have := h3 (by have := place_le e k; omega); omega
theorem Ech.place_ge {p : Int} {n : Nat} {e : List (List Int)} (h : Ech p n e) {k j : Nat} (hj : place e k ≤ j) (hl : j < e.length) : k ≤ lead (e.getD j []) := by
  have h1 := place_at (e := e) (k := k) (by omega)
  by_cases e1 : place e k = j
  · rw [← e1]; exact h1
  · have := h.sorted _ _ (by omega : place e k < j) hl; omega
/-- v put in at i. -/
def putAt (e : List (List Int)) (i : Nat) (v : List Int) : List (List Int) := e.take i ++ v :: e.drop i
theorem putAt_length {e : List (List Int)} {i : Nat} {v : List Int} (h : i ≤ e.length) : (putAt e i v).length = e.length + 1 := by
  simp [putAt]; omega
theorem putAt_get {e : List (List Int)} {i : Nat} {v : List Int} (h : i ≤ e.length) (j : Nat) : (putAt e i v).getD j [] = if j < i then e.getD j [] else if j = i then v else e.getD (j - 1) [] := by
  unfold putAt
  have ht : (e.take i).length = i := by simp; omega
  simp only [List.getD_eq_getElem?_getD]
  by_cases h1 : j < i
  · rw [if_pos h1, List.getElem?_append_left (by omega), List.getElem?_take_of_lt h1]
  · rw [if_neg h1, List.getElem?_append_right (by omega), ht]
    by_cases h2 : j = i
    · subst h2; simp
    · rw [if_neg h2]
      have e1 : j - i = (j - 1 - i) + 1 := by omega
      rw [e1, List.getElem?_cons_succ, List.getElem?_drop]
      congr 2
      omega
def cut (p : Int) (v : List Int) (k : Nat) (r : List Int) : List Int := addV p (neg p (r.getD k 0)) r v
def insRow (p : Int) (e : List (List Int)) (v : List Int) (k : Nat) : List (List Int) := putAt (e.map (cut p v k)) (place e k) v
theorem map_getD {e : List (List Int)} {f : List Int → List Int} {i : Nat} (h : i < e.length) : (e.map f).getD i [] = f (e.getD i []) := by
  rw [getD_lt _ _ (by simpa using h), getD_lt _ _ h, List.getElem_map]
section ins
variable {p : Int} {n : Nat} {e : List (List Int)} {v : List Int} {k : Nat}
theorem cut_get {r : List Int} {i : Nat} (h : v.length = r.length) : (cut p v k r).getD i 0 = (r.getD i 0 + neg p (r.getD k 0) * v.getD i 0) % p := addV_get h
theorem Ech.cut_lead (hp : 1 < p) (h : Ech p n e) (hv : Vec p n v) (hk : ∀ i, i < k → v.getD i 0 = 0) (h0 : ∀ i, i < e.length → v.getD (lead (e.getD i [])) 0 = 0) {i : Nat} (hi : i < e.length) : lead (cut p v k (e.getD i [])) = lead (e.getD i []) := by
  have hl : v.length = (e.getD i []).length := by rw [hv.len, (h.vec i hi).len]
  have hlen : (cut p v k (e.getD i [])).length = n := by rw [← (h.vec i hi).len]; exact addV_length _ _ _ _
  refine lead_eq (by have := h.lt i hi; omega) (fun c hc => ?_) fun _ => ?_
  · rw [cut_get hl, lead_zero hc]
    by_cases hck : c < k
    · rw [hk c hck]; simp
    · rw [lead_zero (by omega : k < lead (e.getD i []))]; simp [neg_zero]
  · rw [cut_get hl, h.one i hi, h0 i hi, Int.mul_zero, Int.add_zero, Int.emod_eq_of_lt (by omega) hp]
    omega
theorem Ech.cut_place (hp : 1 < p) (h : Ech p n e) (hv : Vec p n v) (hk : ∀ i, i < k → v.getD i 0 = 0) (h0 : ∀ i, i < e.length → v.getD (lead (e.getD i [])) 0 = 0) : place (e.map (cut p v k)) k = place e k := by
  have hl := place_le e k
  refine place_eq (by simpa using hl) (fun j hj => ?_) fun hlt => ?_
  · rw [map_getD (by omega), h.cut_lead hp hv hk h0 (by omega)]
    exact place_lt hj
  · have hlt' : place e k < e.length := by simpa using hlt
    rw [map_getD hlt', h.cut_lead hp hv hk h0 hlt']
    exact place_at hlt'
theorem Ech.ins (hp : 1 < p) (h : Ech p n e) (hv : Vec p n v) (hk : ∀ i, i < k → v.getD i 0 = 0) (h0 : ∀ i, i < e.length → v.getD (lead (e.getD i [])) 0 = 0) (h1 : v.getD k 0 = 1) (hkn : k < n) : Ech p n (insRow p e v k) := by
  have lv : lead v = k := lead_eq (by have := hv.len; omega) hk fun _ => by rw [h1]; omega
  have hpl : place e k ≤ (e.map (cut p v k)).length := by simpa using place_le e k
  have hle : (insRow p e v k).length = e.length + 1 := by unfold insRow; rw [putAt_length hpl]; simp
  have cl : ∀ i, i < e.length → lead (cut p v k (e.getD i [])) = lead (e.getD i []) := fun i hi => h.cut_lead hp hv hk h0 hi
  have len : ∀ i, i < e.length → v.length = (e.getD i []).length := fun i hi => by rw [hv.len, (h.vec i hi).len]
  have cz : ∀ i, i < e.length → (cut p v k (e.getD i [])).getD k 0 = 0 := fun i hi => by
    rw [cut_get (len i hi), h1]; exact add_neg
  have cc : ∀ i j, i < e.length → j < e.length → (cut p v k (e.getD j [])).getD (lead (e.getD i [])) 0 = (e.getD j []).getD (lead (e.getD i [])) 0 := fun i j hi hj => by
    rw [cut_get (len j hj), h0 i hi, Int.mul_zero, Int.add_zero, (h.vec j hj).mod]
  have gt : ∀ j, place e k ≤ j → j < e.length → k < lead (e.getD j []) := fun j hj hl => by
    have a := h.place_ge hj hl
    by_cases e1 : k = lead (e.getD j [])
    · have b := h0 j hl
      rw [← e1, h1] at b
      omega
    · omega
  -- the rows one by one
  have get : ∀ j, j < e.length + 1 → (∃ i, i < e.length ∧ (insRow p e v k).getD j [] = cut p v k (e.getD i []) ∧ (j < place e k ∧ i = j ∨ place e k < j ∧ i = j - 1)) ∨ (j = place e k ∧ (insRow p e v k).getD j [] = v) := fun j hj => by
    have hple := place_le e k
    unfold insRow
    rw [putAt_get hpl]
    by_cases a : j < place e k
    · left
      exact ⟨j, by omega, by rw [if_pos a, map_getD (by omega)], .inl ⟨a, rfl⟩⟩
    · rw [if_neg a]
      by_cases b : j = place e k
      · right; exact ⟨b, by rw [if_pos b]⟩
      · left
        exact ⟨j - 1, by omega, by rw [if_neg b, map_getD (by omega)], .inr ⟨by omega, rfl⟩⟩
  have ld : ∀ j, j < e.length + 1 → (∃ i, i < e.length ∧ lead ((insRow p e v k).getD j []) = lead (e.getD i []) ∧ (j < place e k ∧ i = j ∨ place e k < j ∧ i = j - 1)) ∨ (j = place e k ∧ lead ((insRow p e v k).getD j []) = k) := fun j hj => by
    rcases get j hj with ⟨i, hi, e1, c⟩ | ⟨e0, e1⟩
    · exact .inl ⟨i, hi, by rw [e1, cl i hi], c⟩
    · exact .inr ⟨e0, by rw [e1, lv]⟩
  refine ⟨fun j hj => ?_, fun j hj => ?_, fun j hj => ?_, fun i j hi hj hij => ?_, fun i j hij hj => ?_⟩
  · rcases get j (by omega) with ⟨i, hi, e1, _⟩ | ⟨_, e1⟩
    · rw [e1]; exact Vec.add (by omega) (h.vec i hi).len
    · rw [e1]; exact hv
  · rcases ld j (by omega) with ⟨i, hi, e1, _⟩ | ⟨_, e1⟩
    · rw [e1]; exact h.lt i hi
    · rw [e1]; exact hkn
  · rcases get j (by omega) with ⟨i, hi, e1, _⟩ | ⟨_, e1⟩
    · rw [e1, cl i hi, cc i i hi hi]; exact h.one i hi
    · rw [e1, lv]; exact h1
  · rcases get j (by omega) with ⟨b, hb, e2, c2⟩ | ⟨c2, e2⟩
    · rcases ld i (by omega) with ⟨a, ha, e1, c1⟩ | ⟨c1, e1⟩
      · rw [e1, e2, cc a b ha hb]
        exact h.zero a b ha hb (by omega)
      · rw [e1, e2]; exact cz b hb
    · rcases ld i (by omega) with ⟨a, ha, e1, c1⟩ | ⟨c1, e1⟩
      · rw [e1, e2]; exact h0 a ha
      · omega
  · rcases ld i (by omega) with ⟨a, ha, e1, c1⟩ | ⟨c1, e1⟩
    · rcases ld j (by omega) with ⟨b, hb, e2, c2⟩ | ⟨c2, e2⟩
      · rw [e1, e2]; exact h.sorted a b (by omega) hb
      · rw [e1, e2]
        have := place_lt (e := e) (k := k) (i := a) (by omega)
        exact this
    · rcases ld j (by omega) with ⟨b, hb, e2, c2⟩ | ⟨c2, e2⟩
      · rw [e1, e2]; exact gt b (by omega) hb
      · omega
end ins
noncomputable def unify (p : Int) (v : List Int) : List Int := scaleV p (bez (v.getD (lead v) 0) p) v
noncomputable def reduceStep (p : Int) (e : List (List Int)) (row : List Int) : List (List Int) :=
  if lead (clearV p e row) = (clearV p e row).length then e else insRow p e (unify p (clearV p e row)) (lead (clearV p e row))
noncomputable def reduceR (p : Int) (rows : List (List Int)) : List (List Int) := rows.foldl (reduceStep p) []
theorem reduce_take {p : Int} {rows : List (List Int)} {j : Nat} (h : j < rows.length) : reduceR p (rows.take (j + 1)) = reduceStep p (reduceR p (rows.take j)) (rows.getD j []) := by
  unfold reduceR
  rw [List.take_succ_eq_append_getElem h, List.foldl_append]
  simp [h]
theorem unify_facts {p : Int} {n : Nat} {v : List Int} (hp : gp p = true) (hv : Vec p n v) (hk : lead v < n) :
    Vec p n (unify p v) ∧ (∀ i, v.getD i 0 = 0 → (unify p v).getD i 0 = 0) ∧ (unify p v).getD (lead v) 0 = 1 := by
  have hp2 := gp_le hp
  refine ⟨Vec.scale (by omega) hv.len, fun i hi => ?_, ?_⟩
  · unfold unify; rw [scaleV_get, hi]; simp
  · have h1 := lead_ne (v := v) (by rw [hv.len]; exact hk)
    have h2 := hv.lo (lead v)
    have h3 := hv.hi (lead v)
    obtain ⟨_, _, b⟩ := bez_inv h2 h3 (gp_gcd hp (by omega) h3)
    unfold unify
    rw [scaleV_get, Int.mul_comm, b, Int.emod_eq_of_lt (by omega) (by omega)]
theorem Ech.step {p : Int} {n : Nat} {e : List (List Int)} {row : List Int} (hp : gp p = true) (h : Ech p n e) (hv : Vec p n row) : Ech p n (reduceStep p e row) := by
  have hp2 := gp_le hp
  obtain ⟨c1, c2⟩ := h.clear (by omega) hv
  unfold reduceStep
  by_cases hz : lead (clearV p e row) = (clearV p e row).length
  · rw [if_pos hz]; exact h
  · rw [if_neg hz]
    have hk : lead (clearV p e row) < n := by have := lead_le (clearV p e row); have := c1.len; omega
    obtain ⟨u1, u2, u3⟩ := unify_facts hp c1 hk
    exact h.ins (by omega) u1 (fun i hi => u2 i (lead_zero hi)) (fun i hi => u2 _ (c2 i hi)) u3 hk
theorem ech_reduce {p : Int} {n : Nat} {rows : List (List Int)} (hp : gp p = true) (h : ∀ i, i < rows.length → Vec p n (rows.getD i [])) (j : Nat) (hj : j ≤ rows.length) : Ech p n (reduceR p (rows.take j)) := by
  induction j with
  | zero => simpa [reduceR] using Ech.nil p n
  | succ j ih =>
    rw [reduce_take (by omega)]
    exact (ih (by omega)).step hp (h j (by omega))
theorem ech_reduce_all {p : Int} {n : Nat} {rows : List (List Int)} (hp : gp p = true) (h : ∀ i, i < rows.length → Vec p n (rows.getD i [])) : Ech p n (reduceR p rows) := by
  have := ech_reduce hp h rows.length (Nat.le_refl _)
  rwa [List.take_length] at this
theorem reduce_len {p : Int} {rows : List (List Int)} : (reduceR p rows).length ≤ rows.length := by
  unfold reduceR
  suffices H : ∀ e : List (List Int), (rows.foldl (reduceStep p) e).length ≤ e.length + rows.length by simpa using H []
  induction rows with
  | nil => intro e; simp
  | cons a l ih =>
    intro e
    rw [List.foldl_cons, List.length_cons]
    have h1 := ih (reduceStep p e a)
    have h2 : (reduceStep p e a).length ≤ e.length + 1 := by
      unfold reduceStep
      split
      · omega
      · unfold insRow; rw [putAt_length (by simpa using place_le e _)]; simp
    omega
end Go.Proofs.Yteappjgdcbploaa.Num
namespace Go.Proofs.Yteappjgdcbploaa.Num
set_option linter.unusedVariables false
set_option linter.unusedSimpArgs false

def unitV (n i : Nat) : List Int := tab n fun j => if j = i then 1 else 0
theorem unitV_length (n i : Nat) : (unitV n i).length = n := tab_length _ _
def zeroV (n : Nat) : List Int := List.replicate n 0
theorem zeroV_get (n i : Nat) : (zeroV n).getD i 0 = 0 := by
  by_cases h : i < n
  · simp [zeroV, h]
  · exact getD_ge _ _ (by simp [zeroV]; omega)
theorem unitV_get (n i j : Nat) : (unitV n i).getD j 0 = if j < n ∧ j = i then 1 else 0 := by
  by_cases h : j < n
  · rw [unitV, tab_get _ _ h]; simp [h]
  · rw [getD_ge _ _ (by rw [unitV_length]; omega), if_neg (by omega)]
theorem zeroV_set {n i : Nat} (h : i < n) : (zeroV n).set i 1 = unitV n i := by
  refine ext_getD 0 (by simp [zeroV, unitV_length]) fun j hj => ?_
  have hj' : j < n := by simpa [zeroV] using hj
  rw [unitV_get]
  by_cases e : j = i
  · subst e
    rw [if_pos ⟨hj', rfl⟩, List.getD_eq_getElem?_getD, List.getElem?_set_self (by simpa [zeroV] using hj')]
    rfl
  · rw [if_neg (by omega), List.getD_eq_getElem?_getD, List.getElem?_set_ne (Ne.symm e), ← List.getD_eq_getElem?_getD, zeroV_get]
theorem app_get (v w : List Int) (j : Nat) : (v ++ w).getD j 0 = if j < v.length then v.getD j 0 else w.getD (j - v.length) 0 := by
  by_cases h : j < v.length
  · rw [if_pos h, List.getD_eq_getElem?_getD, List.getElem?_append_left h, ← List.getD_eq_getElem?_getD]
  · rw [if_neg h, List.getD_eq_getElem?_getD, List.getElem?_append_right (by omega), ← List.getD_eq_getElem?_getD]
theorem drop_get (v : List Int) (c j : Nat) : (v.drop c).getD j 0 = v.getD (c + j) 0 := by
  simp [List.getD_eq_getElem?_getD, List.getElem?_drop]
theorem Vec.unit {p : Int} (hp : 1 < p) (n i : Nat) : Vec p n (unitV n i) := by
  refine Vec.tab (by omega) fun j _ => ?_
  by_cases e : j = i
  · rw [if_pos e]; omega
  · rw [if_neg e]; omega
theorem Vec.zeros {p : Int} (hp : 0 < p) (n : Nat) : Vec p n (zeroV n) := ⟨by simp [zeroV], fun i => by rw [zeroV_get]; exact Int.le_refl _, fun i => by rw [zeroV_get]; exact hp⟩
theorem Vec.app {p : Int} {n m : Nat} {v w : List Int} (h : Vec p n v) (k : Vec p m w) : Vec p (n + m) (v ++ w) := by
  refine ⟨by rw [List.length_append, h.len, k.len], fun i => ?_, fun i => ?_⟩
  all_goals
    rw [app_get]
    split
    · first | exact h.lo _ | exact h.hi _
    · first | exact k.lo _ | exact k.hi _

def wideR (rows : List (List Int)) : List (List Int) := (List.range rows.length).map fun i => rows.getD i [] ++ unitV rows.length i
theorem wideR_length (rows : List (List Int)) : (wideR rows).length = rows.length := by simp [wideR]
theorem wideR_get {rows : List (List Int)} {i : Nat} (h : i < rows.length) : (wideR rows).getD i [] = rows.getD i [] ++ unitV rows.length i := by
  rw [getD_lt _ _ (by rw [wideR_length]; exact h)]
  simp [wideR]
noncomputable def wideE (p : Int) (rows : List (List Int)) : List (List Int) := reduceR p (wideR rows)
section wide
variable {p : Int} {C : Nat} {rows : List (List Int)}
theorem wide_vec (hp : 1 < p) (h : ∀ i, i < rows.length → Vec p C (rows.getD i [])) (i : Nat) (hi : i < (wideR rows).length) : Vec p (C + rows.length) ((wideR rows).getD i []) := by
  rw [wideR_length] at hi
  rw [wideR_get hi]
  exact (h i hi).app (Vec.unit hp _ _)
theorem wide_ech (hp : gp p = true) (h : ∀ i, i < rows.length → Vec p C (rows.getD i [])) : Ech p (C + rows.length) (wideE p rows) :=
  ech_reduce_all hp (wide_vec (by have := gp_le hp; omega) h)
/-- All rows are 0 from column c on. -/
def ZeroFrom (e : List (List Int)) (c : Nat) : Prop := ∀ i, i < e.length → ∀ j, c ≤ j → (e.getD i []).getD j 0 = 0
theorem clear_zero_from {n : Nat} {e : List (List Int)} {v : List Int} {c : Nat} (h : Ech p n e) (hz : ZeroFrom e c) (hv : Vec p n v) (hp : 0 < p) {j : Nat} (hj : c ≤ j) : (clearV p e v).getD j 0 = v.getD j 0 := by
  suffices H : ∀ k, k ≤ e.length → (clearV p (e.take k) v).getD j 0 = v.getD j 0 by
    have := H e.length (Nat.le_refl _)
    rwa [List.take_length] at this
  intro k
  induction k with
  | zero => intro _; simp [clearV]
  | succ k ih =>
    intro hk
    have h1 := (h.clear_to hp hv k (by omega)).1
    have hl : (e.getD k []).length = (clearV p (e.take k) v).length := by rw [(h.vec k (by omega)).len, h1.len]
    rw [clear_take (by omega)]
    unfold clearStep
    rw [addV_get hl, hz k (by omega) j hj, ih (by omega), Int.mul_zero, Int.add_zero, hv.mod]
theorem step_grows {n : Nat} {e : List (List Int)} {row : List Int} {c : Nat} (hp : gp p = true) (h : Ech p n e) (hv : Vec p n row) (hz : ZeroFrom e c) (hc : c < n) (h1 : row.getD c 0 = 1) (h2 : ∀ j, c < j → row.getD j 0 = 0) :
    (reduceStep p e row).length = e.length + 1 ∧ ZeroFrom (reduceStep p e row) (c + 1) := by
  have hp2 := gp_le hp
  obtain ⟨c1, c2⟩ := h.clear (by omega) hv
  have e1 : ∀ j, c ≤ j → (clearV p e row).getD j 0 = row.getD j 0 := fun j hj => clear_zero_from h hz hv (by omega) hj
  have hk : lead (clearV p e row) < n := by
    rcases Nat.lt_or_ge c (lead (clearV p e row)) with g | g
    · have := lead_zero g
      rw [e1 c (Nat.le_refl _), h1] at this
      omega
    · omega
  obtain ⟨u1, u2, u3⟩ := unify_facts hp c1 hk
  have hle := c1.len
  unfold reduceStep
  rw [if_neg (by omega)]
  have hpl : place e (lead (clearV p e row)) ≤ (e.map (cut p (unify p (clearV p e row)) (lead (clearV p e row)))).length := by simpa using place_le e _
  have hu : ∀ j, c + 1 ≤ j → (unify p (clearV p e row)).getD j 0 = 0 := fun j hj => u2 j (by rw [e1 j (by omega)]; exact h2 j (by omega))
  refine ⟨by unfold insRow; rw [putAt_length hpl]; simp, fun i hi j hj => ?_⟩
  have hi' : i < e.length + 1 := by unfold insRow at hi; rw [putAt_length hpl] at hi; simpa using hi
  have key : ∀ a, a < e.length → (cut p (unify p (clearV p e row)) (lead (clearV p e row)) (e.getD a [])).getD j 0 = 0 := fun a ha => by
    rw [cut_get (by rw [u1.len, (h.vec a ha).len]), hu j hj, hz a ha j (by omega)]
    simp
  have hple := place_le e (lead (clearV p e row))
  unfold insRow
  rw [putAt_get hpl]
  by_cases a : i < place e (lead (clearV p e row))
  · rw [if_pos a, map_getD (by omega)]; exact key i (by omega)
  · rw [if_neg a]
    by_cases b : i = place e (lead (clearV p e row))
    · rw [if_pos b]; exact hu j hj
    · rw [if_neg b, map_getD (by omega)]; exact key _ (by omega)
theorem wide_len_to (hp : gp p = true) (h : ∀ i, i < rows.length → Vec p C (rows.getD i [])) (j : Nat) (hj : j ≤ rows.length) :
    (reduceR p ((wideR rows).take j)).length = j ∧ ZeroFrom (reduceR p ((wideR rows).take j)) (C + j) := by
  have hp2 := gp_le hp
  have hw := wide_vec (by omega) h
  induction j with
  | zero => exact ⟨by simp [reduceR], fun i hi => by simp [reduceR] at hi⟩
  | succ j ih =>
    obtain ⟨i1, i2⟩ := ih (by omega)
    have hj' : j < (wideR rows).length := by rw [wideR_length]; omega
    rw [reduce_take hj']
    have hv := hw j hj'
    have g : ∀ c, ((wideR rows).getD j []).getD (C + c) 0 = if c < rows.length ∧ c = j then 1 else 0 := fun c => by
      rw [wideR_get (by omega), app_get, (h j (by omega)).len, if_neg (by omega), Nat.add_sub_cancel_left, unitV_get]
    obtain ⟨s1, s2⟩ := step_grows hp (ech_reduce hp hw j (by omega)) hv i2 (by omega) (by rw [g, if_pos ⟨by omega, rfl⟩]) (fun c hc => by
      have : c = C + (c - C) := by omega
      rw [this, g, if_neg (by omega)])
    exact ⟨by rw [s1, i1], s2⟩
theorem wide_len (hp : gp p = true) (h : ∀ i, i < rows.length → Vec p C (rows.getD i [])) : (wideE p rows).length = rows.length := by
  have := (wide_len_to hp h rows.length (Nat.le_refl _)).1
  rwa [List.take_of_length_le (by rw [wideR_length]; exact Nat.le_refl _)] at this
end wide
section ech
variable {p : Int} {n : Nat} {e : List (List Int)}
/-- All leads are the indices exactly if as many rows as columns lead ahead of C. -/
theorem Ech.full (h : Ech p n e) {C : Nat} (hl : e.length = C) : (∀ i, i < e.length → lead (e.getD i []) = i) ↔ ¬ place e C < C := by
  constructor
  · intro hi hlt
    have := place_at (e := e) (k := C) (by omega)
    rw [hi _ (by omega)] at this
    omega
  · intro hn i hi
    have hp : place e C = C := by have := place_le e C; omega
    have hup : ∀ j, j < C → lead (e.getD j []) < C := fun j hj => place_lt (by omega)
    have lo : ∀ j, j < C → j ≤ lead (e.getD j []) := by
      intro j
      induction j with
      | zero => intro _; omega
      | succ j ih => intro hj; have := ih (by omega); have := h.sorted j (j + 1) (by omega) (by omega); omega
    have hi2 : ∀ d j, j + d + 1 = C → lead (e.getD j []) ≤ j := by
      intro d
      induction d with
      | zero => intro j hj; have := hup j (by omega); omega
      | succ d ih => intro j hj; have := ih (j + 1) (by omega); have := h.sorted j (j + 1) (by omega) (by omega); omega
    have a := lo i (by omega)
    have b := hi2 (C - i - 1) i (by omega)
    omega
theorem filter_sorted {α : Type} (f : α → Bool) (d : α) : ∀ (l : List α) (k : Nat), k ≤ l.length → (∀ i, i < k → f (l.getD i d) = false) → (∀ i, k ≤ i → i < l.length → f (l.getD i d) = true) → l.filter f = l.drop k := by
  intro l
  induction l with
  | nil => intro k hk _ _; simp
  | cons a l ih =>
    intro k hk h1 h2
    cases k with
    | zero =>
      have ha : f a = true := by simpa using h2 0 (Nat.le_refl _) (by simp)
      rw [List.filter_cons_of_pos ha, ih 0 (by omega) (fun i hi => by omega) (fun i _ hi => by simpa using h2 (i + 1) (by omega) (by simpa using hi))]
      simp
    | succ k =>
      have ha : f a = false := by simpa using h1 0 (by omega)
      rw [List.filter_cons_of_neg (by simp [ha]), ih k (by simpa using hk) (fun i hi => by simpa using h1 (i + 1) (by omega)) (fun i hi hi' => by simpa using h2 (i + 1) (by omega) (by simpa using hi'))]
      simp
theorem filter_sorted_not {α : Type} (f : α → Bool) (d : α) : ∀ (l : List α) (k : Nat), k ≤ l.length → (∀ i, i < k → f (l.getD i d) = true) → (∀ i, k ≤ i → i < l.length → f (l.getD i d) = false) → l.filter f = l.take k := by
  intro l
  induction l with
  | nil => intro k hk _ _; simp
  | cons a l ih =>
    intro k hk h1 h2
    cases k with
    | zero =>
      have ha : f a = false := by simpa using h2 0 (Nat.le_refl _) (by simp)
      rw [List.filter_cons_of_neg (by simp [ha]), ih 0 (by omega) (fun i hi => by omega) (fun i _ hi => by simpa using h2 (i + 1) (by omega) (by simpa using hi))]
      simp
    | succ k =>
      have ha : f a = true := by simpa using h1 0 (by omega)
      rw [List.filter_cons_of_pos ha, ih k (by simpa using hk) (fun i hi => by simpa using h1 (i + 1) (by omega)) (fun i hi hi' => by simpa using h2 (i + 1) (by omega) (by simpa using hi'))]
      simp
theorem Ech.above (h : Ech p n e) (C : Nat) : e.filter (fun r => decide (C ≤ lead r)) = e.drop (place e C) :=
  filter_sorted _ [] e _ (place_le e C) (fun i hi => by have := place_lt hi; simpa using this) (fun i hi hl => by have := h.place_ge hi hl; simpa using this)
theorem Ech.ahead (h : Ech p n e) (C : Nat) : e.filter (fun r => decide (lead r < C)) = e.take (place e C) :=
  filter_sorted_not _ [] e _ (place_le e C) (fun i hi => by have := place_lt hi; simpa using this) (fun i hi hl => by have := h.place_ge hi hl; simpa using this)
end ech
/-- The rows behind column C of those that lead there: the left kernel. -/
noncomputable def nullR (p : Int) (rows : List (List Int)) (C : Nat) : List (List Int) := ((wideE p rows).drop (place (wideE p rows) C)).map (List.drop C)
noncomputable def invR (p : Int) (rows : List (List Int)) (C : Nat) : List (List Int) := (wideE p rows).map (List.drop C)
/-- What is left of the right side, and the solution in it. -/
noncomputable def restV (p : Int) (rows : List (List Int)) (b : List Int) : List Int := clearV p (wideE p rows) (b ++ zeroV rows.length)
noncomputable def solveV (p : Int) (rows : List (List Int)) (b : List Int) : List Int := scaleV p (neg p 1) ((restV p rows b).drop b.length)

/-! ### The solution in the model's way -/
theorem mod_eq {p x y : Int} (h : p ∣ x - y) : x % p = y % p := Int.emod_eq_emod_iff_emod_sub_eq_zero.2 (Int.emod_eq_zero_of_dvd h)
theorem lead_drop {v : List Int} {C : Nat} (h : C ≤ lead v) (hl : C ≤ v.length) : lead (v.drop C) = lead v - C := by
  have h1 := lead_le v
  refine lead_eq (by simp; omega) (fun i hi => ?_) fun hlt => ?_
  · rw [drop_get]; exact lead_zero (by omega)
  · have hlt' : lead v < v.length := by simp at hlt; omega
    have e : C + (lead v - C) = lead v := by omega
    rw [drop_get, e]
    exact lead_ne hlt'
theorem addV_drop {p c : Int} {v w : List Int} {C : Nat} (hw : w.length = v.length) : (addV p c v w).drop C = addV p c (v.drop C) (w.drop C) := by
  refine ext_getD 0 (by simp [addV_length]) fun i hi => ?_
  rw [drop_get, addV_get hw, addV_get (by simp [hw]), drop_get, drop_get]
theorem scaleV_step {p c : Int} {y r : List Int} (hl : r.length = y.length) : scaleV p c (clearStep p y r) = clearStep p (scaleV p c y) r := by
  refine ext_getD 0 (by simp [scaleV_length, clearStep, addV_length]) fun i hi => ?_
  unfold clearStep
  rw [scaleV_get, addV_get hl, addV_get (by rw [scaleV_length]; exact hl), scaleV_get, scaleV_get]
  generalize y.getD i 0 = a
  generalize y.getD (lead r) 0 = b
  generalize r.getD i 0 = d
  unfold neg
  apply mod_eq
  rw [Int.emod_def (c * a), Int.emod_def (c * b), Int.emod_def (a + -b % p * d), Int.emod_def (-b), Int.emod_def (-(c * b - p * (c * b / p)))]
  generalize c * a / p = q1
  generalize c * b / p = q2
  generalize -b / p = q3
  generalize -(c * b - p * q2) / p = q4
  generalize (a + (-b - p * q3) * d) / p = q5
  exact ⟨q1 - c * q5 - c * q3 * d + q4 * d - q2 * d, by grind⟩
theorem scaleV_clear {p c : Int} {n : Nat} (l : List (List Int)) (y : List Int) (hy : y.length = n) (hl : ∀ r ∈ l, r.length = n) : scaleV p c (clearV p l y) = clearV p l (scaleV p c y) := by
  unfold clearV
  induction l generalizing y with
  | nil => rfl
  | cons a l ih =>
    have ha : a.length = y.length := by rw [hy]; exact hl a (by simp)
    rw [List.foldl_cons, List.foldl_cons, ih _ (by unfold clearStep; rw [addV_length, hy]) (fun r hr => hl r (by simp [hr])), scaleV_step ha]
/-- Clearing with rows that lead from C on. -/
theorem clear_behind {p : Int} {m C : Nat} (hp : 0 < p) (l : List (List Int)) (v : List Int) (hv : Vec p m v) (hC : C ≤ m) (hl : ∀ r ∈ l, r.length = m ∧ C ≤ lead r) :
    (∀ c, c < C → (clearV p l v).getD c 0 = v.getD c 0) ∧ (clearV p l v).drop C = clearV p (l.map (List.drop C)) (v.drop C) := by
  unfold clearV
  induction l generalizing v with
  | nil => exact ⟨fun c _ => rfl, rfl⟩
  | cons a l ih =>
    obtain ⟨ha, hCa⟩ := hl a (by simp)
    have hav : a.length = v.length := by rw [ha, hv.len]
    have hv' : Vec p m (clearStep p v a) := Vec.add hp hv.len
    obtain ⟨i1, i2⟩ := ih _ hv' (fun r hr => hl r (by simp [hr]))
    rw [List.foldl_cons, List.map_cons, List.foldl_cons]
    refine ⟨fun c hc => ?_, ?_⟩
    · rw [i1 c hc]
      unfold clearStep
      rw [addV_get hav, lead_zero (by omega : c < lead a), Int.mul_zero, Int.add_zero, hv.mod]
    · rw [i2]
      congr 1
      unfold clearStep
      have e : C + (lead a - C) = lead a := by omega
      rw [addV_drop hav, lead_drop hCa (by rw [ha]; exact hC), drop_get, e]
section solve
variable {p : Int} {C : Nat} {rows : List (List Int)} {b : List Int}
noncomputable def headV (p : Int) (rows : List (List Int)) (C : Nat) (b : List Int) : List Int := clearV p ((wideE p rows).take (place (wideE p rows) C)) (b ++ zeroV rows.length)
theorem solve_parts (hp : gp p = true) (h : ∀ i, i < rows.length → Vec p C (rows.getD i [])) (hb : Vec p C b) :
    Vec p (C + rows.length) (headV p rows C b) ∧ Vec p (C + rows.length) (restV p rows b) ∧ (∀ c, c < C → (restV p rows b).getD c 0 = (headV p rows C b).getD c 0) ∧ solveV p rows b = clearV p (nullR p rows C) (scaleV p (neg p 1) ((headV p rows C b).drop C)) := by
  have hp2 := gp_le hp
  have E := wide_ech hp h
  have V : Vec p (C + rows.length) (b ++ zeroV rows.length) := hb.app (Vec.zeros (by omega) _)
  have hpl := place_le (wideE p rows) C
  have H := (E.clear_to (by omega) V _ hpl).1
  have R := (E.clear (by omega) V).1
  have dr : ∀ r ∈ (wideE p rows).drop (place (wideE p rows) C), r.length = C + rows.length ∧ C ≤ lead r := fun r hr => by
    obtain ⟨i, hi, rfl⟩ := List.mem_iff_getElem.mp hr
    have hi' : place (wideE p rows) C + i < (wideE p rows).length := by simpa [Nat.add_comm, Nat.lt_sub_iff_add_lt] using hi
    rw [List.getElem_drop]
    have e : (wideE p rows)[place (wideE p rows) C + i] = (wideE p rows).getD (place (wideE p rows) C + i) [] := (getD_lt _ _ hi').symm
    rw [e]
    exact ⟨(E.vec _ hi').len, E.place_ge (Nat.le_add_right _ _) hi'⟩
  have eq : restV p rows b = clearV p ((wideE p rows).drop (place (wideE p rows) C)) (headV p rows C b) := by
    unfold restV headV clearV
    rw [← List.foldl_append, List.take_append_drop]
  obtain ⟨b1, b2⟩ := clear_behind (by omega) _ _ H (Nat.le_add_right C rows.length) dr
  refine ⟨H, R, fun c hc => by rw [eq]; exact b1 c hc, ?_⟩
  unfold solveV
  rw [eq, hb.len]
  refine (congrArg _ b2).trans ?_
  refine scaleV_clear (n := rows.length) _ _ (by rw [List.length_drop, H.len]; omega) fun r hr => ?_
  obtain ⟨r', hr', rfl⟩ := List.mem_map.1 hr
  rw [List.length_drop, (dr r' hr').1]
  omega
theorem solve_head (hp : gp p = true) (h : ∀ i, i < rows.length → Vec p C (rows.getD i [])) (hb : Vec p C b) :
    lead (restV p rows b) < C ↔ ∃ c, c < C ∧ (headV p rows C b).getD c 0 ≠ 0 := by
  obtain ⟨H, R, h1, _⟩ := solve_parts hp h hb
  constructor
  · intro hl
    exact ⟨lead (restV p rows b), hl, by rw [← h1 _ hl]; exact lead_ne (by rw [R.len]; omega)⟩
  · rintro ⟨c, hc, hne⟩
    rcases Nat.lt_or_ge c (lead (restV p rows b)) with g | g
    · rw [← h1 c hc] at hne
      exact absurd (lead_zero g) hne
    · omega
end solve
end Go.Proofs.Yteappjgdcbploaa.Num
namespace Go.Proofs.Yteappjgdcbploaa.Num
set_option linter.unusedVariables false
set_option linter.unusedSimpArgs false

def sgn (i : Nat) : Int := if i % 2 = 0 then 1 else -1
theorem sgn_succ (i : Nat) : sgn (i + 1) = -sgn i := by
  unfold sgn
  by_cases h : i % 2 = 0
  · rw [if_pos h, if_neg (by omega)]
  · rw [if_neg h, if_pos (by omega)]; rfl
def sumN : Nat → (Nat → Int) → Int
  | 0, _ => 0
  | n + 1, f => sumN n f + f n
theorem sumN_congr {n : Nat} {f g : Nat → Int} (h : ∀ i, i < n → f i = g i) : sumN n f = sumN n g := by
  induction n with
  | zero => rfl
  | succ n ih => show sumN n f + f n = sumN n g + g n; rw [ih fun i hi => h i (by omega), h n (by omega)]
theorem sumN_mod {p : Int} {n : Nat} {f g : Nat → Int} (h : ∀ i, i < n → f i % p = g i % p) : sumN n f % p = sumN n g % p := by
  induction n with
  | zero => rfl
  | succ n ih => show (sumN n f + f n) % p = (sumN n g + g n) % p; rw [Int.add_emod, ih fun i hi => h i (by omega), h n (by omega), ← Int.add_emod]
theorem sumN_lin {n : Nat} {f g h : Nat → Int} {x y : Int} (e : ∀ i, i < n → f i = x * g i + y * h i) : sumN n f = x * sumN n g + y * sumN n h := by
  induction n with
  | zero => simp [sumN]
  | succ n ih =>
    show sumN n f + f n = x * (sumN n g + g n) + y * (sumN n h + h n)
    rw [ih fun i hi => e i (by omega), e n (by omega)]
    grind
theorem sumN_zero {n : Nat} {f : Nat → Int} (h : ∀ i, i < n → f i = 0) : sumN n f = 0 := by
  induction n with
  | zero => rfl
  | succ n ih => show sumN n f + f n = 0; rw [ih fun i hi => h i (by omega), h n (by omega)]; rfl
theorem sumN_one {n k : Nat} {f : Nat → Int} (hk : k < n) (h : ∀ i, i < n → i ≠ k → f i = 0) : sumN n f = f k := by
  induction n with
  | zero => omega
  | succ n ih =>
    show sumN n f + f n = f k
    by_cases e : k = n
    · subst e; rw [sumN_zero fun i hi => h i (by omega) (by omega)]; simp
    · rw [ih (by omega) fun i hi hn => h i (by omega) hn, h n (by omega) (by omega)]; simp
theorem sumN_two {n k : Nat} {f : Nat → Int} (hk : k + 1 < n) (h : ∀ i, i < n → i ≠ k → i ≠ k + 1 → f i = 0) : sumN n f = f k + f (k + 1) := by
  induction n with
  | zero => omega
  | succ n ih =>
    show sumN n f + f n = _
    by_cases e : k + 1 = n
    · subst e; rw [sumN_one (k := k) (by omega) fun i hi hn => h i (by omega) hn (by omega)]
    · rw [ih (by omega) fun i hi hn hm => h i (by omega) hn hm, h n (by omega) (by omega) (by omega)]; simp

def skip (i r : Nat) : Nat := if r < i then r else r + 1
theorem skip_ne (i r : Nat) : skip i r ≠ i := by unfold skip; split <;> omega
def minor (A : Nat → Nat → Int) (i : Nat) : Nat → Nat → Int := fun r c => A (skip i r) (c + 1)
def det : Nat → (Nat → Nat → Int) → Int
  | 0, _ => 1
  | n + 1, A => sumN (n + 1) fun i => sgn i * A i 0 * det n (minor A i)
theorem det_congr {n : Nat} {A B : Nat → Nat → Int} (h : ∀ r, r < n → ∀ c, c < n → A r c = B r c) : det n A = det n B := by
  induction n generalizing A B with
  | zero => rfl
  | succ n ih =>
    refine sumN_congr fun i hi => ?_
    rw [h i hi 0 (by omega), ih (A := minor A i) (B := minor B i) fun r hr c hc => h _ (by unfold skip; split <;> omega) _ (by omega)]
theorem det_mod {p : Int} {n : Nat} {A B : Nat → Nat → Int} (h : ∀ r, r < n → ∀ c, c < n → A r c % p = B r c % p) : det n A % p = det n B % p := by
  induction n generalizing A B with
  | zero => rfl
  | succ n ih =>
    refine sumN_mod fun i hi => ?_
    have h1 := ih (A := minor A i) (B := minor B i) fun r hr c hc => h _ (by unfold skip; split <;> omega) _ (by omega)
    have h2 := h i hi 0 (by omega)
    rw [Int.mul_emod, h1, Int.mul_emod (sgn i), h2, ← Int.mul_emod (sgn i), ← Int.mul_emod]
def setRow (A : Nat → Nat → Int) (i : Nat) (f : Nat → Int) : Nat → Nat → Int := fun r => if r = i then f else A r
theorem setRow_same (A : Nat → Nat → Int) (i : Nat) (f : Nat → Int) : setRow A i f i = f := if_pos rfl
theorem setRow_ne (A : Nat → Nat → Int) {i r : Nat} (f : Nat → Int) (h : r ≠ i) : setRow A i f r = A r := if_neg h
theorem minor_set_same (A : Nat → Nat → Int) (i : Nat) (f : Nat → Int) : minor (setRow A i f) i = minor A i := by
  funext r c
  unfold minor
  rw [setRow_ne _ _ (skip_ne i r)]
def back (k i : Nat) : Nat := if i < k then i else i - 1
theorem skip_back {i k : Nat} (h : i ≠ k) : skip k (back k i) = i := by
  unfold skip back
  by_cases h1 : i < k
  · rw [if_pos h1, if_pos h1]
  · rw [if_neg h1, if_neg (by omega)]; omega
theorem back_skip (k r : Nat) : back k (skip k r) = r := by
  unfold skip back
  by_cases h1 : r < k
  · rw [if_pos h1, if_pos h1]
  · rw [if_neg h1, if_neg (by omega)]; omega
theorem minor_set_ne (A : Nat → Nat → Int) {i k : Nat} (f : Nat → Int) (h : i ≠ k) : minor (setRow A i f) k = setRow (minor A k) (back k i) (fun c => f (c + 1)) := by
  funext r c
  by_cases e : r = back k i
  · have e2 : skip k r = i := by rw [e, skip_back h]
    unfold minor
    rw [e2, setRow_same]
    unfold setRow
    rw [if_pos e]
  · have e2 : skip k r ≠ i := by
      intro h2
      apply e
      rw [← h2, back_skip]
    unfold minor
    rw [setRow_ne _ _ e2, setRow_ne _ _ e]
theorem det_lin {n i : Nat} (A : Nat → Nat → Int) (f g : Nat → Int) (x y : Int) (hi : i < n) :
    det n (setRow A i fun c => x * f c + y * g c) = x * det n (setRow A i f) + y * det n (setRow A i g) := by
  induction n generalizing A i f g with
  | zero => omega
  | succ n ih =>
    refine sumN_lin fun k hk => ?_
    by_cases e : i = k
    · subst e
      rw [setRow_same, setRow_same, setRow_same, minor_set_same, minor_set_same, minor_set_same]
      grind
    · rw [setRow_ne _ _ (Ne.symm e), setRow_ne _ _ (Ne.symm e), setRow_ne _ _ (Ne.symm e), minor_set_ne _ _ e, minor_set_ne _ _ e, minor_set_ne _ _ e,
        ih (minor A k) (fun c => f (c + 1)) (fun c => g (c + 1)) (by unfold back; split <;> omega)]
      grind
theorem det_adj {n i : Nat} {A : Nat → Nat → Int} (hi : i + 1 < n) (h : ∀ c, A i c = A (i + 1) c) : det n A = 0 := by
  induction n generalizing A i with
  | zero => omega
  | succ n ih =>
    show sumN (n + 1) _ = 0
    rw [sumN_two hi fun k hk h1 h2 => ?_]
    · have e : minor A i = minor A (i + 1) := by
        funext r c
        unfold minor skip
        by_cases h1 : r < i
        · rw [if_pos h1, if_pos (by omega)]
        · by_cases h2 : r = i
          · subst h2; rw [if_neg (by omega), if_pos (by omega)]; exact (h _).symm
          · rw [if_neg h1, if_neg (by omega)]
      rw [sgn_succ, e, h 0]
      grind
    · have hz : det n (minor A k) = 0 := by
        refine ih (i := back k i) (by unfold back; split <;> omega) fun c => ?_
        unfold minor
        have e1 : skip k (back k i) = i := skip_back (Ne.symm h1)
        have e2 : skip k (back k i + 1) = i + 1 := by
          have a : back k i + 1 = back k (i + 1) := by unfold back; by_cases g : i < k; rw [if_pos g, if_pos (by omega)]; rw [if_neg g, if_neg (by omega)]; omega
          rw [a, skip_back (Ne.symm h2)]
        rw [e1, e2, h]
      rw [hz, Int.mul_zero]
theorem setRow_self (A : Nat → Nat → Int) (i : Nat) : setRow A i (A i) = A := by
  funext r; unfold setRow; split
  · next h => rw [h]
  · rfl
theorem setRow_comm (A : Nat → Nat → Int) {i j : Nat} (f g : Nat → Int) (h : i ≠ j) : setRow (setRow A i f) j g = setRow (setRow A j g) i f := by
  funext r; unfold setRow
  by_cases h1 : r = i
  · rw [if_neg (by omega), if_pos h1, if_pos h1]
  · rw [if_neg h1, if_neg h1]
theorem setRow_set (A : Nat → Nat → Int) (i : Nat) (f g : Nat → Int) : setRow (setRow A i f) i g = setRow A i g := by
  funext r; unfold setRow; split <;> rfl
theorem det_add {n i : Nat} (A : Nat → Nat → Int) (f g : Nat → Int) (hi : i < n) : det n (setRow A i fun c => f c + g c) = det n (setRow A i f) + det n (setRow A i g) := by
  have := det_lin A f g 1 1 hi
  simpa using this
def swapR (A : Nat → Nat → Int) (i j : Nat) : Nat → Nat → Int := setRow (setRow A i (A j)) j (A i)
theorem det_swap_adj {n i : Nat} (A : Nat → Nat → Int) (hi : i + 1 < n) : det n (swapR A i (i + 1)) = -det n A := by
  have B : ∀ x y : Nat → Int, ∀ z : Nat → Int, det n (setRow (setRow A i x) (i + 1) fun c => y c + z c) = det n (setRow (setRow A i x) (i + 1) y) + det n (setRow (setRow A i x) (i + 1) z) := fun x y z => det_add _ _ _ hi
  have B' : ∀ x y z : Nat → Int, det n (setRow (setRow A i fun c => x c + y c) (i + 1) z) = det n (setRow (setRow A i x) (i + 1) z) + det n (setRow (setRow A i y) (i + 1) z) := fun x y z => by
    rw [setRow_comm _ _ _ (by omega), det_add _ _ _ (by omega), setRow_comm _ _ _ (by omega : i + 1 ≠ i), setRow_comm _ _ _ (by omega : i + 1 ≠ i)]
  have Z : ∀ x : Nat → Int, det n (setRow (setRow A i x) (i + 1) x) = 0 := fun x => det_adj hi fun c => by
    rw [setRow_same, setRow_ne _ _ (by omega), setRow_same]
  have h := Z fun c => A i c + A (i + 1) c
  rw [B, B', B', Z, Z] at h
  have e : det n (setRow (setRow A i (A i)) (i + 1) (A (i + 1))) = det n A := by rw [setRow_self, setRow_self]
  unfold swapR
  omega
theorem det_eq_rows {n : Nat} (d : Nat) : ∀ {i : Nat} {A : Nat → Nat → Int}, i + d + 1 < n → (∀ c, A i c = A (i + d + 1) c) → det n A = 0 := by
  induction d with
  | zero => intro i A hi h; exact det_adj hi h
  | succ d ih =>
    intro i A hi h
    have h1 := det_swap_adj A (i := i + d + 1) (n := n) (by omega)
    have h2 : det n (swapR A (i + d + 1) (i + d + 1 + 1)) = 0 := ih (i := i) (by omega) fun c => by
      unfold swapR
      rw [setRow_ne _ _ (by omega), setRow_ne _ _ (by omega), setRow_ne _ _ (by omega), setRow_same]
      exact h c
    omega
theorem det_eq_rows' {n i j : Nat} {A : Nat → Nat → Int} (hi : i < n) (hj : j < n) (hn : i ≠ j) (h : ∀ c, A i c = A j c) : det n A = 0 := by
  rcases Nat.lt_or_gt_of_ne hn with g | g
  · have e : j = i + (j - i - 1) + 1 := by omega
    exact det_eq_rows (j - i - 1) (i := i) (by omega) fun c => by rw [← e]; exact h c
  · have e : i = j + (i - j - 1) + 1 := by omega
    exact det_eq_rows (i - j - 1) (i := j) (by omega) fun c => by rw [← e]; exact (h c).symm
/-- A multiple of another row is added. -/
theorem det_addRow {n i j : Nat} (A : Nat → Nat → Int) (x : Int) (hi : i < n) (hj : j < n) (hn : i ≠ j) : det n (setRow A i fun c => A i c + x * A j c) = det n A := by
  have h := det_lin A (A i) (A j) 1 x hi
  have z : det n (setRow A i (A j)) = 0 := det_eq_rows' hi hj hn fun c => by rw [setRow_same, setRow_ne _ _ (Ne.symm hn)]
  rw [z, setRow_self] at h
  simpa using h
theorem det_scale {n i : Nat} (A : Nat → Nat → Int) (f : Nat → Int) (x : Int) (hi : i < n) : det n (setRow A i fun c => x * f c) = x * det n (setRow A i f) := by
  have h := det_lin A f f x 0 hi
  simpa using h
theorem det_zero_row {n i : Nat} {A : Nat → Nat → Int} (hi : i < n) (h : ∀ c, A i c = 0) : det n A = 0 := by
  have e : A = setRow A i fun c => 0 * A i c := by
    funext r; unfold setRow; split
    · next g => rw [g]; funext c; rw [h c]; simp
    · rfl
  rw [e, det_scale _ _ _ hi]; simp
theorem det_swap {n i j : Nat} (A : Nat → Nat → Int) (hi : i < n) (hj : j < n) (hn : i ≠ j) : det n (swapR A i j) = -det n A := by
  -- i += j; j -= i; i += j; then row j is the old i with the sign turned
  have h1 := det_addRow A 1 hi hj hn
  generalize hA1 : (setRow A i fun c => A i c + 1 * A j c) = A1 at h1
  have h2 := det_addRow A1 (-1) hj hi (Ne.symm hn)
  generalize hA2 : (setRow A1 j fun c => A1 j c + -1 * A1 i c) = A2 at h2
  have h3 := det_addRow A2 1 hi hj hn
  generalize hA3 : (setRow A2 i fun c => A2 i c + 1 * A2 j c) = A3 at h3
  have r1i : ∀ c, A1 i c = A i c + A j c := fun c => by rw [← hA1, setRow_same]; omega
  have r1 : ∀ r, r ≠ i → A1 r = A r := fun r hr => by rw [← hA1, setRow_ne _ _ hr]
  have r2j : ∀ c, A2 j c = -A i c := fun c => by rw [← hA2, setRow_same, r1 j (Ne.symm hn), r1i]; omega
  have r2 : ∀ r, r ≠ j → A2 r = A1 r := fun r hr => by rw [← hA2, setRow_ne _ _ hr]
  have r3i : ∀ c, A3 i c = A j c := fun c => by rw [← hA3, setRow_same, r2 i hn, r1i, r2j]; omega
  have r3 : ∀ r, r ≠ i → A3 r = A2 r := fun r hr => by rw [← hA3, setRow_ne _ _ hr]
  have e : swapR A i j = setRow A3 j fun c => -1 * A3 j c := by
    funext r c
    unfold swapR
    by_cases e1 : r = j
    · subst e1; rw [setRow_same, setRow_same, r3 _ (Ne.symm hn), r2j]; omega
    · rw [setRow_ne _ _ e1, setRow_ne _ _ e1]
      by_cases e2 : r = i
      · subst e2; rw [setRow_same, r3i]
      · rw [setRow_ne _ _ e2, r3 _ e2, r2 _ e1, r1 _ e2]
  rw [e, det_scale _ _ _ hj, setRow_self, h3, h2, h1]
  omega
/-- Where the first column is 0 below the first row. -/
theorem det_first {n : Nat} {A : Nat → Nat → Int} (h : ∀ i, 1 ≤ i → i < n + 1 → A i 0 = 0) : det (n + 1) A = A 0 0 * det n fun r c => A (r + 1) (c + 1) := by
  show sumN (n + 1) _ = _
  rw [sumN_one (k := 0) (by omega) fun i hi hn => by rw [h i (by omega) hi]; simp]
  have e : minor A 0 = fun r c => A (r + 1) (c + 1) := by funext r c; simp [minor, skip]
  rw [e]
  simp [sgn]
theorem det_first_zero {n : Nat} {A : Nat → Nat → Int} (h : ∀ i, i < n + 1 → A i 0 = 0) : det (n + 1) A = 0 := by
  show sumN (n + 1) _ = 0
  exact sumN_zero fun i hi => by rw [h i hi]; simp
end Go.Proofs.Yteappjgdcbploaa.Num
namespace Go.Proofs.Yteappjgdcbploaa.Num
set_option linter.unusedVariables false
set_option linter.unusedSimpArgs false

def matF (L : List (List Int)) : Nat → Nat → Int := fun r c => (L.getD r []).getD c 0
def rowF (v : List Int) : Nat → Int := fun c => v.getD c 0
theorem mid_get (e : List (List Int)) (v : List Int) (t : List (List Int)) (r : Nat) : (e ++ v :: t).getD r [] = if r < e.length then e.getD r [] else if r = e.length then v else t.getD (r - e.length - 1) [] := by
  simp only [List.getD_eq_getElem?_getD]
  by_cases h : r < e.length
  · rw [if_pos h, List.getElem?_append_left h]
  · rw [if_neg h, List.getElem?_append_right (by omega)]
    by_cases h2 : r = e.length
    · subst h2; simp
    · rw [if_neg h2]
      have e1 : r - e.length = (r - e.length - 1) + 1 := by omega
      conv => lhs; rw [e1]
      rw [List.getElem?_cons_succ]
theorem matF_mid (e : List (List Int)) (v : List Int) (t : List (List Int)) : matF (e ++ v :: t) = setRow (matF (e ++ [] :: t)) e.length (rowF v) := by
  funext r c
  unfold setRow matF rowF
  rw [mid_get, mid_get]
  by_cases h : r = e.length
  · subst h; rw [if_neg (by omega), if_pos rfl, if_pos rfl]
  · rw [if_neg h]
    by_cases h2 : r < e.length
    · rw [if_pos h2, if_pos h2, if_neg h]
    · simp only [if_neg h2, if_neg h]
theorem mod_mul {p a b x : Int} (h : a % p = b % p) : x * a % p = x * b % p := by rw [Int.mul_emod, h, ← Int.mul_emod]
theorem mod_mul' {p a b x : Int} (h : a % p = b % p) : a * x % p = b * x % p := by rw [Int.mul_emod, h, ← Int.mul_emod]
section ops
variable {p : Int} {n : Nat}
/-- The row at i turned modulo p. -/
theorem det_set_mod (A : Nat → Nat → Int) (i : Nat) (f g : Nat → Int) (h : ∀ c, c < n → f c % p = g c % p) : det n (setRow A i f) % p = det n (setRow A i g) % p :=
  det_mod fun r hr c hc => by
    by_cases e : r = i
    · subst e; rw [setRow_same, setRow_same]; exact h c hc
    · rw [setRow_ne _ _ e, setRow_ne _ _ e]
theorem det_add_mod (A : Nat → Nat → Int) {i j : Nat} (f : Nat → Int) (x : Int) (hi : i < n) (hj : j < n) (hn : i ≠ j) (h : ∀ c, c < n → f c % p = (A i c + x * A j c) % p) : det n (setRow A i f) % p = det n A % p := by
  rw [det_set_mod A i f (fun c => A i c + x * A j c) h, det_addRow A x hi hj hn]
theorem det_clear (e : List (List Int)) (v : List Int) (t : List (List Int)) (hn : e.length + 1 + t.length = n) (hl : ∀ i, i < e.length → (e.getD i []).length = v.length) :
    det n (matF (e ++ clearV p e v :: t)) % p = det n (matF (e ++ v :: t)) % p := by
  suffices H : ∀ j, j ≤ e.length → det n (matF (e ++ clearV p (e.take j) v :: t)) % p = det n (matF (e ++ v :: t)) % p by
    have := H e.length (Nat.le_refl _)
    rwa [List.take_length] at this
  intro j
  induction j with
  | zero => intro _; simp [clearV]
  | succ j ih =>
    intro hj
    rw [← ih (by omega), clear_take (by omega)]
    generalize hu : clearV p (e.take j) v = u at *
    have ul : u.length = v.length := by rw [← hu, clear_length]
    have e1 : matF (e ++ clearStep p u (e.getD j []) :: t) = setRow (matF (e ++ u :: t)) e.length (rowF (clearStep p u (e.getD j []))) := by
      rw [matF_mid, matF_mid e u t, setRow_set]
    rw [e1]
    refine det_add_mod _ (j := j) _ (neg p (u.getD (lead (e.getD j [])) 0)) (by omega) (by omega) (by omega) fun c _ => ?_
    unfold rowF clearStep
    rw [addV_get (by rw [hl j (by omega), ul])]
    unfold matF
    rw [mid_get, mid_get, if_neg (by omega), if_pos rfl, if_pos (by omega), Int.emod_emod]
theorem det_unit (e : List (List Int)) (v u : List Int) (t : List (List Int)) (x : Int) (hn : e.length + 1 + t.length = n) (h : ∀ c, v.getD c 0 % p = (x * u.getD c 0) % p) :
    det n (matF (e ++ v :: t)) % p = (x * det n (matF (e ++ u :: t))) % p := by
  rw [matF_mid, matF_mid e u, ← det_scale _ _ _ (by omega)]
  exact det_set_mod _ _ _ _ fun c _ => h c
theorem take_snoc_drop (e : List (List Int)) (f : List Int → List Int) {i : Nat} (hi : i < e.length) : (e.map f).take (i + 1) ++ e.drop (i + 1) = ((e.map f).take i ++ e.drop i).set i (f (e.getD i [])) := by
  have hl : ((e.map f).take i).length = i := by simp; omega
  refine List.ext_getElem (by simp; omega) fun r h1 h2 => ?_
  simp only [List.getElem_set, List.getElem_append, List.getElem_take, List.getElem_drop, List.getElem_map, List.length_take, List.length_map]
  have hr : r < e.length := by simp at h1; omega
  by_cases a : r = i
  · subst a
    rw [dif_pos (by omega), if_pos rfl, getD_lt _ _ hi]
  · rw [if_neg (Ne.symm a)]
    by_cases b : r < i
    · rw [dif_pos (by omega), dif_pos (by omega)]
    · rw [dif_neg (by omega), dif_neg (by omega)]
      congr 1
      omega
theorem det_cut (e : List (List Int)) (v : List Int) (k : Nat) (t : List (List Int)) (hn : e.length + 1 + t.length = n) (hl : ∀ i, i < e.length → (e.getD i []).length = v.length) :
    det n (matF (e.map (cut p v k) ++ v :: t)) % p = det n (matF (e ++ v :: t)) % p := by
  suffices H : ∀ j, j ≤ e.length → det n (matF (((e.map (cut p v k)).take j ++ e.drop j) ++ v :: t)) % p = det n (matF (e ++ v :: t)) % p by
    have := H e.length (Nat.le_refl _)
    rwa [List.drop_length, List.append_nil, List.take_of_length_le (by simp)] at this
  intro j
  induction j with
  | zero => intro _; simp
  | succ j ih =>
    intro hj
    have hj' : j < e.length := by omega
    rw [← ih (by omega), take_snoc_drop _ _ hj']
    generalize hE : (e.map (cut p v k)).take j ++ e.drop j = E
    have El : E.length = e.length := by rw [← hE]; simp; omega
    have Ej : E.getD j [] = e.getD j [] := by
      rw [← hE, List.getD_eq_getElem?_getD, List.getElem?_append_right (by simp; omega)]
      have : j - ((e.map (cut p v k)).take j).length = 0 := by simp; omega
      rw [this, List.getElem?_drop, Nat.add_zero, ← List.getD_eq_getElem?_getD]
    have e1 : matF (E.set j (cut p v k (e.getD j [])) ++ v :: t) = setRow (matF (E ++ v :: t)) j (rowF (cut p v k (e.getD j []))) := by
      funext r c
      unfold setRow matF rowF
      rw [mid_get, mid_get, List.length_set]
      by_cases a : r = j
      · subst a
        have : (E.set r (cut p v k (e.getD r []))).getD r [] = cut p v k (e.getD r []) := by rw [List.getD_eq_getElem?_getD, List.getElem?_set_self (by omega)]; rfl
        rw [if_pos (by omega), if_pos rfl, this]
      · rw [if_neg a]
        have : (E.set j (cut p v k (e.getD j []))).getD r [] = E.getD r [] := by rw [List.getD_eq_getElem?_getD, List.getElem?_set_ne (Ne.symm a), ← List.getD_eq_getElem?_getD]
        rw [this]
    rw [e1]
    refine det_add_mod _ (j := E.length) _ (neg p ((e.getD j []).getD k 0)) (by omega) (by omega) (by omega) fun c _ => ?_
    unfold rowF
    rw [cut_get (hl j hj').symm]
    unfold matF
    rw [mid_get, mid_get, if_pos (by omega), if_neg (by omega), if_pos rfl, Ej, Int.emod_emod]
theorem sgn_mul (m : Nat) : sgn m * sgn m = 1 := by unfold sgn; split <;> rfl
theorem det_move (e : List (List Int)) (v : List Int) (t : List (List Int)) (hn : e.length + 1 + t.length = n) (d i : Nat) (hd : i + d = e.length) :
    det n (matF (putAt e i v ++ t)) = sgn d * det n (matF (e ++ v :: t)) := by
  induction d generalizing i with
  | zero =>
    obtain rfl : i = e.length := by omega
    unfold putAt
    rw [List.take_length, List.drop_length]
    simp [sgn]
  | succ d ih =>
    have h := ih (i + 1) (by omega)
    have hi : i < e.length := by omega
    have g : ∀ (a : Nat), a ≤ e.length → ∀ r, (putAt e a v ++ t).getD r [] = if r < a then e.getD r [] else if r = a then v else (e ++ t).getD (r - 1) [] := fun a ha r => by
      have hp : (putAt e a v).length = e.length + 1 := putAt_length ha
      by_cases b : r < e.length + 1
      · have : (putAt e a v ++ t).getD r [] = (putAt e a v).getD r [] := by rw [List.getD_eq_getElem?_getD, List.getElem?_append_left (by omega), ← List.getD_eq_getElem?_getD]
        rw [this, putAt_get ha]
        split
        · rfl
        · split
          · rfl
          · rw [List.getD_eq_getElem?_getD (l := e ++ t), List.getElem?_append_left (by omega), ← List.getD_eq_getElem?_getD]
      · have : (putAt e a v ++ t).getD r [] = t.getD (r - (e.length + 1)) [] := by rw [List.getD_eq_getElem?_getD, List.getElem?_append_right (by omega), hp, ← List.getD_eq_getElem?_getD]
        rw [this, if_neg (by omega), if_neg (by omega), List.getD_eq_getElem?_getD (l := e ++ t), List.getElem?_append_right (by omega), ← List.getD_eq_getElem?_getD]
        congr 1
        omega
    have hs : matF (putAt e i v ++ t) = swapR (matF (putAt e (i + 1) v ++ t)) i (i + 1) := by
      funext r c
      unfold swapR setRow matF
      rw [g i (by omega)]
      have gi := g (i + 1) (by omega) i
      have gi1 := g (i + 1) (by omega) (i + 1)
      by_cases b : r = i + 1
      · subst b
        rw [if_neg (by omega), if_neg (by omega), if_pos rfl, gi, if_pos (by omega)]
        have : (e ++ t).getD i [] = e.getD i [] := by rw [List.getD_eq_getElem?_getD, List.getElem?_append_left hi, ← List.getD_eq_getElem?_getD]
        rw [Nat.add_sub_cancel, this]
      · rw [if_neg b]
        by_cases b2 : r = i
        · subst b2
          rw [if_neg (by omega), if_pos rfl, if_pos rfl, gi1, if_neg (by omega), if_pos rfl]
        · simp only [if_neg b, if_neg b2]
          by_cases b3 : r < i
          · rw [if_pos b3, g (i + 1) (by omega), if_pos (by omega)]
          · rw [if_neg b3, g (i + 1) (by omega), if_neg (by omega), if_neg b]
    rw [hs, det_swap_adj _ (by omega), h, sgn_succ]
    grind
end ops
/-! ### By remainders -/
section rem
variable {p : Int} {n : Nat}
/-- What is left of row j. -/
noncomputable def remV (p : Int) (rows : List (List Int)) (j : Nat) : List Int := clearV p (reduceR p (rows.take j)) (rows.getD j [])
noncomputable def passed (p : Int) (rows : List (List Int)) (j : Nat) : Nat := (reduceR p (rows.take j)).length - place (reduceR p (rows.take j)) (lead (remV p rows j))
noncomputable def detI (p : Int) (rows : List (List Int)) : Nat → Int
  | 0 => 1
  | j + 1 => if passed p rows j % 2 = 1 then neg p (detI p rows j * (remV p rows j).getD (lead (remV p rows j)) 0 % p) else detI p rows j * (remV p rows j).getD (lead (remV p rows j)) 0 % p
theorem detI_bd (hp : 1 < p) (rows : List (List Int)) (j : Nat) : 0 ≤ detI p rows j ∧ detI p rows j < p := by
  cases j with
  | zero => exact ⟨by simp [detI], by simpa [detI] using hp⟩
  | succ j => unfold detI; split <;> exact mod_bd _ (by omega)
theorem detI_to (hp : gp p = true) {rows : List (List Int)} (hn : rows.length = n) (h : ∀ i, i < rows.length → Vec p n (rows.getD i [])) (j : Nat) (hj : j ≤ n)
    (hz : ∀ i, i < j → lead (remV p rows i) < n) : (reduceR p (rows.take j)).length = j ∧ det n (matF rows) % p = (detI p rows j * det n (matF (reduceR p (rows.take j) ++ rows.drop j))) % p := by
  have hp2 := gp_le hp
  induction j with
  | zero => exact ⟨by simp [reduceR], by simp [reduceR, detI]⟩
  | succ j ih =>
    obtain ⟨i1, i2⟩ := ih (by omega) fun i hi => hz i (by omega)
    have hj' : j < rows.length := by omega
    have E := ech_reduce hp h j (by omega)
    have hv := h j hj'
    obtain ⟨c1, c2⟩ := E.clear (by omega) hv
    have hk := hz j (by omega)
    obtain ⟨u1, u2, u3⟩ := unify_facts hp c1 hk
    have st : reduceR p (rows.take (j + 1)) = insRow p (reduceR p (rows.take j)) (unify p (remV p rows j)) (lead (remV p rows j)) := by
      rw [reduce_take hj']
      unfold reduceStep
      have : ¬ lead (clearV p (reduceR p (rows.take j)) (rows.getD j [])) = (clearV p (reduceR p (rows.take j)) (rows.getD j [])).length := by
        rw [c1.len]; unfold remV at hk; omega
      rw [if_neg this]
      rfl
    have hdr : rows.drop j = rows.getD j [] :: rows.drop (j + 1) := by rw [List.drop_eq_getElem_cons hj', getD_lt _ _ hj']
    have hlen : (reduceR p (rows.take j)).length + 1 + (rows.drop (j + 1)).length = n := by simp; omega
    have hvl : ∀ i, i < (reduceR p (rows.take j)).length → ((reduceR p (rows.take j)).getD i []).length = n := fun i hi => (E.vec i hi).len
    have hpl : place (reduceR p (rows.take j)) (lead (remV p rows j)) ≤ ((reduceR p (rows.take j)).map (cut p (unify p (remV p rows j)) (lead (remV p rows j)))).length := by simpa using place_le _ _
    refine ⟨by rw [st]; unfold insRow; rw [putAt_length hpl]; simp; omega, ?_⟩
    -- the remainder, the unit, the others cut, the move
    have d1 := det_clear (p := p) (n := n) (reduceR p (rows.take j)) (rows.getD j []) (rows.drop (j + 1)) hlen fun i hi => by rw [hvl i hi, hv.len]
    have d2 := det_unit (p := p) (n := n) (reduceR p (rows.take j)) (remV p rows j) (unify p (remV p rows j)) (rows.drop (j + 1)) ((remV p rows j).getD (lead (remV p rows j)) 0) hlen fun c => by
      have a : (remV p rows j).getD (lead (remV p rows j)) 0 * bez ((remV p rows j).getD (lead (remV p rows j)) 0) p % p = 1 := by
        have h1 := lead_ne (v := remV p rows j) (by unfold remV at hk ⊢; rw [c1.len]; exact hk)
        have h2 := c1.lo (lead (remV p rows j))
        have h3 := c1.hi (lead (remV p rows j))
        obtain ⟨_, _, b⟩ := bez_inv h2 h3 (gp_gcd hp (by unfold remV at h1 h2 ⊢; omega) h3)
        rw [Int.emod_eq_of_lt (a := 1) (by omega) (by omega)] at b
        exact b
      unfold unify
      rw [scaleV_get]
      generalize (remV p rows j).getD (lead (remV p rows j)) 0 = x at *
      generalize bez x p = b at *
      generalize (remV p rows j).getD c 0 = y
      rw [Int.mul_emod, Int.emod_emod, ← Int.mul_emod, ← Int.mul_assoc, Int.mul_emod, a, Int.one_mul, Int.emod_emod]
    have d3 := det_cut (p := p) (n := n) (reduceR p (rows.take j)) (unify p (remV p rows j)) (lead (remV p rows j)) (rows.drop (j + 1)) hlen fun i hi => by rw [hvl i hi]; exact u1.len.symm
    have d4 := det_move (n := n) ((reduceR p (rows.take j)).map (cut p (unify p (remV p rows j)) (lead (remV p rows j)))) (unify p (remV p rows j)) (rows.drop (j + 1)) (by simpa using hlen) (passed p rows j) (place (reduceR p (rows.take j)) (lead (remV p rows j))) (by unfold passed; have := place_le (reduceR p (rows.take j)) (lead (remV p rows j)); simp; omega)
    have eqI : insRow p (reduceR p (rows.take j)) (unify p (remV p rows j)) (lead (remV p rows j)) ++ rows.drop (j + 1) = putAt ((reduceR p (rows.take j)).map (cut p (unify p (remV p rows j)) (lead (remV p rows j)))) (place (reduceR p (rows.take j)) (lead (remV p rows j))) (unify p (remV p rows j)) ++ rows.drop (j + 1) := rfl
    rw [st, eqI, d4, i2, hdr]
    change det n (matF (reduceR p (rows.take j) ++ remV p rows j :: rows.drop (j + 1))) % p = _ at d1
    rw [mod_mul d1.symm, mod_mul d2]
    have d5 := mod_mul (x := detI p rows j * (remV p rows j).getD (lead (remV p rows j)) 0) d3
    generalize det n (matF ((reduceR p (rows.take j)).map (cut p (unify p (remV p rows j)) (lead (remV p rows j))) ++ unify p (remV p rows j) :: rows.drop (j + 1))) = Y at *
    generalize det n (matF (reduceR p (rows.take j) ++ unify p (remV p rows j) :: rows.drop (j + 1))) = X at *
    rw [← Int.mul_assoc, ← d5]
    show _ = (if passed p rows j % 2 = 1 then neg p (detI p rows j * (remV p rows j).getD (lead (remV p rows j)) 0 % p) else detI p rows j * (remV p rows j).getD (lead (remV p rows j)) 0 % p) * _ % p
    generalize detI p rows j * (remV p rows j).getD (lead (remV p rows j)) 0 = z
    by_cases hs : passed p rows j % 2 = 1
    · rw [if_pos hs]
      have : sgn (passed p rows j) = -1 := by unfold sgn; rw [if_neg (by omega)]
      rw [this]
      unfold neg
      apply mod_eq
      rw [Int.emod_def (-(z % p)), Int.emod_def z]
      generalize z / p = q1
      generalize -(z - p * q1) / p = q2
      exact ⟨q1 * Y - q2 * Y, by grind⟩
    · rw [if_neg hs]
      have : sgn (passed p rows j) = 1 := by unfold sgn; rw [if_pos (by omega)]
      rw [this, Int.one_mul]
      conv => rhs; rw [Int.mul_emod, Int.emod_emod, ← Int.mul_emod]
theorem det_ident (n : Nat) (A : Nat → Nat → Int) (h : ∀ r, r < n → ∀ c, c < n → A r c = if r = c then 1 else 0) : det n A = 1 := by
  induction n generalizing A with
  | zero => rfl
  | succ n ih =>
    rw [det_first fun i hi hn => by rw [h i hn 0 (by omega), if_neg (by omega)], h 0 (by omega) 0 (by omega), if_pos rfl, ih _ fun r hr c hc => ?_]
    · rfl
    · rw [h _ (by omega) _ (by omega)]
      by_cases e : r = c
      · rw [if_pos e, if_pos (by omega)]
      · rw [if_neg e, if_neg (by omega)]
theorem Ech.ident {e : List (List Int)} (h : Ech p n e) (hl : e.length = n) : ∀ r, r < n → ∀ c, c < n → matF e r c = if r = c then 1 else 0 := by
  have hf := (h.full hl).2 (by
    rcases Nat.lt_or_ge (place e n) n with g | g
    · have := place_at (e := e) (k := n) (by omega); have := h.lt _ (by omega : place e n < e.length); omega
    · omega)
  intro r hr c hc
  unfold matF
  have a := hf r (by omega)
  have b := hf c (by omega)
  by_cases e1 : r = c
  · subst e1
    rw [if_pos rfl]
    have := h.one r (by omega)
    rwa [a] at this
  · rw [if_neg e1]
    have := h.zero c r (by omega) (by omega) (Ne.symm e1)
    rwa [b] at this
theorem detI_all (hp : gp p = true) {rows : List (List Int)} (hn : rows.length = n) (h : ∀ i, i < rows.length → Vec p n (rows.getD i [])) (hz : ∀ i, i < n → lead (remV p rows i) < n) :
    detI p rows n = det n (matF rows) % p := by
  have hp2 := gp_le hp
  obtain ⟨h1, h2⟩ := detI_to hp hn h n (Nat.le_refl _) hz
  have E := ech_reduce hp h n (by omega)
  have hd : rows.drop n = [] := List.drop_of_length_le (by omega)
  rw [h2, hd, List.append_nil, det_ident n _ (E.ident h1), Int.mul_one, Int.emod_eq_of_lt (detI_bd (by omega) _ _).1 (detI_bd (by omega) _ _).2]
theorem detI_zero (hp : gp p = true) {rows : List (List Int)} (hn : rows.length = n) (h : ∀ i, i < rows.length → Vec p n (rows.getD i [])) {j : Nat} (hj : j < n) (hz : ∀ i, i < j → lead (remV p rows i) < n) (h0 : ¬ lead (remV p rows j) < n) :
    det n (matF rows) % p = 0 := by
  have hp2 := gp_le hp
  obtain ⟨h1, h2⟩ := detI_to hp hn h j (by omega) hz
  have hj' : j < rows.length := by omega
  have E := ech_reduce hp h j (by omega)
  have hv := h j hj'
  have c1 := (E.clear (by omega) hv).1
  have hdr : rows.drop j = rows.getD j [] :: rows.drop (j + 1) := by rw [List.drop_eq_getElem_cons hj', getD_lt _ _ hj']
  have d1 := det_clear (p := p) (n := n) (reduceR p (rows.take j)) (rows.getD j []) (rows.drop (j + 1)) (by simp; omega) fun i hi => by rw [(E.vec i hi).len, hv.len]
  have z : det n (matF (reduceR p (rows.take j) ++ clearV p (reduceR p (rows.take j)) (rows.getD j []) :: rows.drop (j + 1))) = 0 := det_zero_row (i := j) hj fun c => by
    unfold matF
    rw [mid_get, if_neg (by omega), if_pos h1.symm]
    by_cases hc : c < n
    · exact lead_zero (by unfold remV at h0; omega)
    · exact getD_ge _ _ (by rw [c1.len]; omega)
  rw [z] at d1
  rw [h2, hdr, mod_mul d1.symm]
  simp
end rem
end Go.Proofs.Yteappjgdcbploaa.Num
namespace Go.Proofs.Yteappjgdcbploaa.Num
set_option linter.unusedVariables false
set_option linter.unusedSimpArgs false

def findRow (L : List (List Int)) (c : Nat) : Nat := (List.range L.length).findIdx fun i => decide (c ≤ i) && (L.getD i []).getD c 0 != 0
theorem findRow_le (L : List (List Int)) (c : Nat) : findRow L c ≤ L.length := by
  have := List.findIdx_le_length (xs := List.range L.length) (p := fun i => decide (c ≤ i) && (L.getD i []).getD c 0 != 0)
  simpa [findRow] using this
theorem findRow_zero {L : List (List Int)} {c i : Nat} (hi : i < findRow L c) (hc : c ≤ i) : (L.getD i []).getD c 0 = 0 := by
  have h1 := findRow_le L c
  have := List.not_of_lt_findIdx hi
  simp [hc] at this
  simpa using this
theorem findRow_ne {L : List (List Int)} {c : Nat} (h : findRow L c < L.length) : c ≤ findRow L c ∧ (L.getD (findRow L c) []).getD c 0 ≠ 0 := by
  have := List.findIdx_getElem (xs := List.range L.length) (p := fun i => decide (c ≤ i) && (L.getD i []).getD c 0 != 0) (w := by simpa [findRow] using h)
  simp only [List.getElem_range, Bool.and_eq_true, decide_eq_true_eq] at this
  refine ⟨this.1, ?_⟩
  have h2 := this.2
  intro e
  rw [show List.findIdx (fun i => decide (c ≤ i) && (L.getD i []).getD c 0 != 0) (List.range L.length) = findRow L c from rfl, e] at h2
  simp at h2
theorem findRow_eq {L : List (List Int)} {c r : Nat} (h0 : c ≤ r) (h1 : r ≤ L.length) (h2 : ∀ i, c ≤ i → i < r → (L.getD i []).getD c 0 = 0) (h3 : r < L.length → (L.getD r []).getD c 0 ≠ 0) : findRow L c = r := by
  rcases Nat.lt_trichotomy (findRow L c) r with h | h | h
  · obtain ⟨a, b⟩ := findRow_ne (L := L) (c := c) (by omega); exact absurd (h2 _ a h) b
  · exact h
  · exact absurd (findRow_zero h h0) (h3 (by have := findRow_le L c; omega))
def swapL (L : List (List Int)) (r c : Nat) : List (List Int) := (L.set r (L.getD c [])).set c (L.getD r [])
theorem swapL_length (L : List (List Int)) (r c : Nat) : (swapL L r c).length = L.length := by simp [swapL]
theorem set_get {α : Type} (L : List α) (d v : α) (i j : Nat) (hi : i < L.length) : (L.set i v).getD j d = if j = i then v else L.getD j d := by
  by_cases h : j = i
  · subst h; rw [if_pos rfl, List.getD_eq_getElem?_getD, List.getElem?_set_self hi]; rfl
  · rw [if_neg h, List.getD_eq_getElem?_getD, List.getElem?_set_ne (Ne.symm h), ← List.getD_eq_getElem?_getD]
theorem swapL_get {L : List (List Int)} {r c : Nat} (hr : r < L.length) (hc : c < L.length) (j : Nat) : (swapL L r c).getD j [] = if j = c then L.getD r [] else if j = r then L.getD c [] else L.getD j [] := by
  unfold swapL
  rw [set_get _ _ _ _ _ (by simpa using hc), set_get _ _ _ _ _ hr]
noncomputable def elimF (p : Int) (L : List (List Int)) (c k : Nat) : List Int := addV p (p - (L.getD k []).getD c 0 * bez ((L.getD c []).getD c 0) p % p) (L.getD k []) (L.getD c [])
def uptoL (f : Nat → List Int) (L : List (List Int)) (a j : Nat) : List (List Int) := (List.range L.length).map fun i => if a ≤ i ∧ i < j then f i else L.getD i []
theorem uptoL_length (f : Nat → List Int) (L : List (List Int)) (a j : Nat) : (uptoL f L a j).length = L.length := by simp [uptoL]
theorem uptoL_get (f : Nat → List Int) (L : List (List Int)) (a j : Nat) {i : Nat} (hi : i < L.length) : (uptoL f L a j).getD i [] = if a ≤ i ∧ i < j then f i else L.getD i [] := by
  rw [getD_lt _ _ (by rw [uptoL_length]; exact hi)]; simp [uptoL]
theorem uptoL_start (f : Nat → List Int) (L : List (List Int)) (a : Nat) : uptoL f L a a = L :=
  ext_getD [] (uptoL_length _ _ _ _) fun i hi => by rw [uptoL_get _ _ _ _ (by rwa [uptoL_length] at hi), if_neg (by omega)]
theorem uptoL_step (f : Nat → List Int) (L : List (List Int)) {a j : Nat} (ha : a ≤ j) (hj : j < L.length) : (uptoL f L a j).set j (f j) = uptoL f L a (j + 1) :=
  ext_getD [] (by simp [uptoL_length]) fun i hi => by
    have hi' : i < L.length := by simpa [uptoL_length] using hi
    rw [set_get _ _ _ _ _ (by rw [uptoL_length]; exact hj), uptoL_get _ _ _ _ hi', uptoL_get _ _ _ _ hi']
    by_cases e : i = j
    · subst e; rw [if_pos rfl, if_pos (by omega)]
    · rw [if_neg e]
      by_cases g : a ≤ i ∧ i < j
      · rw [if_pos g, if_pos (by omega)]
      · rw [if_neg g, if_neg (by omega)]
noncomputable def elimAll (p : Int) (L : List (List Int)) (c : Nat) : List (List Int) := uptoL (elimF p L c) L (c + 1) L.length
def pivotL (L : List (List Int)) (c : Nat) : List (List Int) := if findRow L c = c then L else swapL L (findRow L c) c
noncomputable def gW (p : Int) (rows : List (List Int)) : Nat → List (List Int)
  | 0 => rows
  | c + 1 => elimAll p (pivotL (gW p rows c) c) c
noncomputable def gS (p : Int) (rows : List (List Int)) (gOc : Int) (c : Nat) : Int := if findRow (gW p rows c) c = c then gOc else neg p gOc
noncomputable def gO (p : Int) (rows : List (List Int)) : Nat → Int
  | 0 => 1
  | c + 1 => gS p rows (gO p rows c) c * ((pivotL (gW p rows c) c).getD c []).getD c 0 % p
def dprod (A : Nat → Nat → Int) : Nat → Int
  | 0 => 1
  | c + 1 => dprod A c * A c c
theorem dprod_congr {A B : Nat → Nat → Int} {c : Nat} (h : ∀ i, i < c → A i i = B i i) : dprod A c = dprod B c := by
  induction c with
  | zero => rfl
  | succ c ih => show dprod A c * A c c = dprod B c * B c c; rw [ih fun i hi => h i (by omega), h c (by omega)]
theorem dprod_shift (A : Nat → Nat → Int) (c : Nat) : dprod A (c + 1) = A 0 0 * dprod (fun r k => A (r + 1) (k + 1)) c := by
  induction c with
  | zero => simp [dprod]
  | succ c ih => show dprod A (c + 1) * A (c + 1) (c + 1) = A 0 0 * (dprod (fun r k => A (r + 1) (k + 1)) c * A (c + 1) (c + 1)); rw [ih, Int.mul_assoc]
theorem det_upper (c : Nat) : ∀ {n : Nat} {A : Nat → Nat → Int}, c ≤ n → (∀ r, r < n → ∀ j, j < c → j < r → A r j = 0) → det n A = dprod A c * det (n - c) fun r k => A (r + c) (k + c) := by
  induction c with
  | zero => intro n A _ _; simp [dprod]
  | succ c ih =>
    intro n A hc h
    obtain ⟨m, rfl⟩ : ∃ m, n = m + 1 := ⟨n - 1, by omega⟩
    rw [det_first fun i h1 h2 => h i h2 0 (by omega) (by omega), ih (by omega) fun r hr j hj hjr => h _ (by omega) _ (by omega) (by omega), dprod_shift, Int.mul_assoc]
    have e1 : m + 1 - (c + 1) = m - c := by omega
    have e2 : (fun r k => A (r + c + 1) (k + c + 1)) = fun r k => A (r + (c + 1)) (k + (c + 1)) := rfl
    rw [e1, ← e2]
section gauss
variable {p : Int} {n : Nat} {rows : List (List Int)}
structure GInv (p : Int) (n : Nat) (rows : List (List Int)) (c : Nat) : Prop where
  len : (gW p rows c).length = n
  vec : ∀ i, i < n → Vec p n ((gW p rows c).getD i [])
  up : ∀ r, r < n → ∀ j, j < c → j < r → ((gW p rows c).getD r []).getD j 0 = 0
  lo : 0 ≤ gO p rows c
  hi : gO p rows c < p
  det : ∃ s : Int, det n (matF rows) % p = (s * det n (matF (gW p rows c))) % p ∧ gO p rows c % p = (s * dprod (matF (gW p rows c)) c) % p
theorem pivot_facts {c : Nat} (h : GInv p n rows c) (hc : c < n) (hf : findRow (gW p rows c) c < n) :
    (pivotL (gW p rows c) c).length = n ∧ (∀ i, i < n → Vec p n ((pivotL (gW p rows c) c).getD i [])) ∧ (∀ r, r < n → ∀ j, j < c → j < r → ((pivotL (gW p rows c) c).getD r []).getD j 0 = 0) ∧ ((pivotL (gW p rows c) c).getD c []).getD c 0 ≠ 0 ∧
      ∃ s : Int, Num.det n (matF rows) % p = (s * Num.det n (matF (pivotL (gW p rows c) c))) % p ∧ gS p rows (gO p rows c) c % p = (s * dprod (matF (pivotL (gW p rows c) c)) c) % p := by
  obtain ⟨s, d1, d2⟩ := h.det
  obtain ⟨f1, f2⟩ := findRow_ne (L := gW p rows c) (c := c) (by rw [h.len]; exact hf)
  unfold pivotL gS
  by_cases e : findRow (gW p rows c) c = c
  · rw [if_pos e, if_pos e]
    rw [e] at f2
    exact ⟨h.len, h.vec, h.up, f2, s, d1, d2⟩
  · rw [if_neg e, if_neg e]
    generalize hr : findRow (gW p rows c) c = r at *
    have hL := h.len
    have g := fun j => swapL_get (L := gW p rows c) (r := r) (c := c) (by omega) (by omega) j
    refine ⟨by rw [swapL_length, hL], fun i hi => ?_, fun a ha j hj hja => ?_, ?_, -s, ?_, ?_⟩
    · rw [g]
      split
      · exact h.vec r hf
      · split
        · exact h.vec c hc
        · exact h.vec i hi
    · rw [g]
      split
      · exact h.up r hf j hj (by omega)
      · split
        · exact h.up c hc j hj hj
        · exact h.up a ha j hj hja
    · rw [g, if_pos rfl]; exact f2
    · have e1 : matF (swapL (gW p rows c) r c) = swapR (matF (gW p rows c)) r c := by
        funext a b
        unfold swapR setRow matF
        rw [g]
        by_cases q : a = c
        · rw [if_pos q, if_pos q]
        · rw [if_neg q, if_neg q]
          by_cases q2 : a = r
          · rw [if_pos q2, if_pos q2]
          · rw [if_neg q2, if_neg q2]
      rw [e1, det_swap _ (by omega) (by omega) e, d1]
      congr 1
      grind
    · have e2 : dprod (matF (swapL (gW p rows c) r c)) c = dprod (matF (gW p rows c)) c := dprod_congr fun i hi => by
        unfold matF; rw [g, if_neg (by omega), if_neg (by omega)]
      rw [e2]
      unfold neg
      apply mod_eq
      obtain ⟨q, hq⟩ : p ∣ gO p rows c - s * dprod (matF (gW p rows c)) c := Int.dvd_of_emod_eq_zero (Int.emod_eq_emod_iff_emod_sub_eq_zero.1 d2)
      rw [Int.emod_def]
      generalize -gO p rows c / p = q2
      exact ⟨-q - q2, by grind⟩
theorem elim_det {L : List (List Int)} {c : Nat} (hL : L.length = n) (hv : ∀ i, i < n → Vec p n (L.getD i [])) (hc : c < n) : Num.det n (matF (elimAll p L c)) % p = Num.det n (matF L) % p := by
  suffices H : ∀ d, c + 1 + d ≤ n → Num.det n (matF (uptoL (elimF p L c) L (c + 1) (c + 1 + d))) % p = Num.det n (matF L) % p by
    have := H (n - (c + 1)) (by omega)
    have e : c + 1 + (n - (c + 1)) = L.length := by omega
    rw [e] at this
    exact this
  intro d
  induction d with
  | zero => intro _; rw [Nat.add_zero, uptoL_start]
  | succ d ih =>
    intro hd
    rw [← ih (by omega)]
    generalize hj : c + 1 + d = j at *
    have e0 : c + 1 + (d + 1) = j + 1 := by omega
    rw [e0]
    have hjl : j < L.length := by omega
    have e1 : matF (uptoL (elimF p L c) L (c + 1) (j + 1)) = setRow (matF (uptoL (elimF p L c) L (c + 1) j)) j (rowF (elimF p L c j)) := by
      rw [← uptoL_step _ _ (by omega) hjl]
      funext a b
      unfold setRow matF rowF
      rw [set_get _ _ _ _ _ (by rw [uptoL_length]; exact hjl)]
      split <;> rfl
    rw [e1]
    refine det_add_mod _ (j := c) _ (p - (L.getD j []).getD c 0 * bez ((L.getD c []).getD c 0) p % p) (by omega) hc (by omega) fun k _ => ?_
    unfold rowF elimF
    rw [addV_get (by rw [(hv j (by omega)).len, (hv c hc).len])]
    unfold matF
    rw [uptoL_get _ _ _ _ hjl, uptoL_get _ _ _ _ (by omega), if_neg (by omega), if_neg (by omega), Int.emod_emod]
theorem GInv.step {c : Nat} (hp : gp p = true) (h : GInv p n rows c) (hc : c < n) (hf : findRow (gW p rows c) c < n) : GInv p n rows (c + 1) := by
  have hp2 := gp_le hp
  obtain ⟨p1, p2, p3, p4, s, d1, d2⟩ := pivot_facts h hc hf
  have ow : gW p rows (c + 1) = elimAll p (pivotL (gW p rows c) c) c := rfl
  have oo : gO p rows (c + 1) = gS p rows (gO p rows c) c * ((pivotL (gW p rows c) c).getD c []).getD c 0 % p := rfl
  generalize pivotL (gW p rows c) c = L at *
  have gt : ∀ i, i < n → (elimAll p L c).getD i [] = if c + 1 ≤ i then elimF p L c i else L.getD i [] := fun i hi => by
    unfold elimAll
    rw [uptoL_get _ _ _ _ (by omega)]
    by_cases e : c + 1 ≤ i
    · rw [if_pos (by omega), if_pos e]
    · rw [if_neg (by omega), if_neg e]
  have el : ∀ i, i < n → ∀ j, (elimF p L c i).getD j 0 = ((L.getD i []).getD j 0 + (p - (L.getD i []).getD c 0 * bez ((L.getD c []).getD c 0) p % p) * (L.getD c []).getD j 0) % p := fun i hi j => by
    unfold elimF
    rw [addV_get (by rw [(p2 i hi).len, (p2 c hc).len])]
  refine ⟨by rw [ow]; unfold elimAll; rw [uptoL_length, p1], fun i hi => ?_, fun r hr j hj hjr => ?_, ?_, ?_, s, ?_, ?_⟩
  · rw [ow, gt i hi]
    split
    · exact Vec.add (by omega) (p2 i hi).len
    · exact p2 i hi
  · rw [ow, gt r hr]
    by_cases e : c + 1 ≤ r
    · rw [if_pos e, el r hr]
      by_cases e2 : j = c
      · subst e2
        have h2 := (p2 j hc).lo j
        have h3 := (p2 j hc).hi j
        obtain ⟨_, _, b⟩ := bez_inv h2 h3 (gp_gcd hp (by omega) h3)
        rw [Int.emod_eq_of_lt (a := 1) (by omega) (by omega)] at b
        generalize (L.getD j []).getD j 0 = y at *
        generalize bez y p = z at *
        generalize (L.getD r []).getD j 0 = x
        have hb : y * z = 1 + p * (y * z / p) := by have := Int.emod_add_mul_ediv (y * z) p; omega
        generalize y * z / p = q at *
        apply Int.emod_eq_zero_of_dvd
        rw [Int.emod_def]
        generalize x * z / p = q2
        exact ⟨y - x * q + q2 * y, by grind⟩
      · rw [p3 r hr j (by omega) hjr, p3 c hc j (by omega) (by omega)]
        simp
    · rw [if_neg e]
      exact p3 r hr j (by omega) hjr
  · rw [oo]; exact (mod_bd _ (by omega)).1
  · rw [oo]; exact (mod_bd _ (by omega)).2
  · rw [ow, d1]
    exact mod_mul (elim_det p1 p2 hc).symm
  · rw [ow, oo, Int.emod_emod]
    have e1 : dprod (matF (elimAll p L c)) (c + 1) = dprod (matF L) c * (L.getD c []).getD c 0 := by
      show dprod (matF (elimAll p L c)) c * matF (elimAll p L c) c c = _
      rw [dprod_congr (B := matF L) fun i hi => by unfold matF; rw [gt i (by omega), if_neg (by omega)]]
      unfold matF
      rw [gt c hc, if_neg (by omega)]
    rw [e1, ← Int.mul_assoc]
    exact mod_mul' d2
theorem ginv (hp : gp p = true) (hn : rows.length = n) (h : ∀ i, i < rows.length → Vec p n (rows.getD i [])) (c : Nat) (hc : c ≤ n) (hf : ∀ i, i < c → findRow (gW p rows i) i < n) : GInv p n rows c := by
  have hp2 := gp_le hp
  induction c with
  | zero => exact ⟨hn, fun i hi => h i (by omega), fun r _ j hj => by omega, by simp [gO], by show (1 : Int) < p; omega, 1, by simp [gW], by simp [gO, dprod]⟩
  | succ c ih => exact (ih (by omega) fun i hi => hf i (by omega)).step hp (by omega) (hf c (by omega))
theorem gauss_all (hp : gp p = true) (hn : rows.length = n) (h : ∀ i, i < rows.length → Vec p n (rows.getD i [])) (hf : ∀ i, i < n → findRow (gW p rows i) i < n) : gO p rows n = Num.det n (matF rows) % p := by
  have G := ginv hp hn h n (Nat.le_refl _) hf
  obtain ⟨s, d1, d2⟩ := G.det
  have hd := det_upper n (n := n) (A := matF (gW p rows n)) (Nat.le_refl _) G.up
  rw [d1, hd, Nat.sub_self]
  show _ = (s * (dprod (matF (gW p rows n)) n * 1)) % p
  rw [Int.mul_one, ← d2, Int.emod_eq_of_lt G.lo G.hi]
theorem gauss_zero (hp : gp p = true) (hn : rows.length = n) (h : ∀ i, i < rows.length → Vec p n (rows.getD i [])) {c : Nat} (hc : c < n) (hf : ∀ i, i < c → findRow (gW p rows i) i < n) (h0 : findRow (gW p rows c) c = n) : Num.det n (matF rows) % p = 0 := by
  have G := ginv hp hn h c (by omega) hf
  obtain ⟨s, d1, d2⟩ := G.det
  have hd := det_upper c (n := n) (A := matF (gW p rows c)) (by omega) G.up
  obtain ⟨m, hm⟩ : ∃ m, n - c = m + 1 := ⟨n - c - 1, by omega⟩
  rw [d1, hd, hm, det_first_zero fun i hi => ?_]
  · simp
  · unfold matF
    rw [Nat.zero_add]
    exact findRow_zero (by omega) (by omega)
end gauss
end Go.Proofs.Yteappjgdcbploaa.Num
namespace Go.Proofs.Yteappjgdcbploaa.Num
set_option linter.unusedVariables false
set_option linter.unusedSimpArgs false

/-- What has been laid behind j rows: v at its place. -/
def nx (E : List (List Int)) (pl : Nat) (v : List Int) (j : Nat) : List (List Int) := if j ≤ pl then E.take j else (putAt E pl v).take (j + 1)
theorem nx_zero (E : List (List Int)) (pl : Nat) (v : List Int) : nx E pl v 0 = [] := by simp [nx]
theorem nx_length {E : List (List Int)} {pl : Nat} {v : List Int} {j : Nat} (hp : pl ≤ E.length) (hj : j ≤ E.length) : (nx E pl v j).length = if j ≤ pl then j else j + 1 := by
  unfold nx
  split
  · rw [List.length_take]; omega
  · rw [List.length_take, putAt_length hp]; omega
theorem take_snoc {α : Type} (l : List α) (d : α) {j : Nat} (h : j < l.length) : l.take (j + 1) = l.take j ++ [l.getD j d] := by
  rw [List.take_succ_eq_append_getElem h, getD_lt _ _ h]
theorem nx_ahead {E : List (List Int)} {pl : Nat} {v : List Int} {j : Nat} (hp : pl ≤ E.length) (hj : j < pl) : nx E pl v (j + 1) = nx E pl v j ++ [E.getD j []] := by
  unfold nx
  rw [if_pos (by omega), if_pos (by omega), take_snoc E [] (by omega)]
theorem nx_at {E : List (List Int)} {pl : Nat} {v : List Int} (hp : pl < E.length) : nx E pl v (pl + 1) = (nx E pl v pl ++ [v]) ++ [E.getD pl []] := by
  unfold nx
  have h1 : (putAt E pl v).length = E.length + 1 := putAt_length (by omega)
  rw [if_neg (by omega), if_pos (by omega), take_snoc _ [] (by omega : pl + 1 < (putAt E pl v).length), take_snoc _ [] (by omega : pl < (putAt E pl v).length), putAt_get (by omega) pl, putAt_get (by omega) (pl + 1), if_neg (by omega), if_pos rfl, if_neg (by omega), if_neg (by omega)]
  have e : (putAt E pl v).take pl = E.take pl := by
    unfold putAt
    rw [List.take_append_of_le_length (by rw [List.length_take]; omega), List.take_take, Nat.min_self]
  rw [e, Nat.add_sub_cancel]
theorem nx_behind {E : List (List Int)} {pl : Nat} {v : List Int} {j : Nat} (hp : pl ≤ E.length) (hj : pl < j) (hl : j < E.length) : nx E pl v (j + 1) = nx E pl v j ++ [E.getD j []] := by
  unfold nx
  have h1 : (putAt E pl v).length = E.length + 1 := putAt_length hp
  rw [if_neg (by omega), if_neg (by omega), take_snoc _ [] (by omega : j + 1 < (putAt E pl v).length), putAt_get hp, if_neg (by omega), if_neg (by omega)]
  rfl
theorem nx_end {E : List (List Int)} {pl : Nat} {v : List Int} (hp : pl < E.length) : nx E pl v E.length = putAt E pl v := by
  unfold nx
  rw [if_neg (by omega), List.take_of_length_le (by rw [putAt_length (by omega)]; omega)]
theorem nx_end' {E : List (List Int)} {v : List Int} : nx E E.length v E.length ++ [v] = putAt E E.length v := by
  unfold nx putAt
  rw [if_pos (Nat.le_refl _), List.drop_length]
theorem addV_c {p c : Int} {v w : List Int} : addV p c v w = addV p (c % p) v w := tab_congr fun i _ => by
  unfold addF
  apply mod_eq
  rw [Int.emod_def]
  exact ⟨c / p * w.getD i 0, by grind⟩
theorem sub_mod_neg (p x : Int) : (p - x) % p = neg p x := by
  unfold neg
  apply mod_eq
  exact ⟨1, by omega⟩
theorem cut_sub {p : Int} {v r : List Int} {k : Nat} : addV p (p - r.getD k 0) r v = cut p v k r := by
  unfold cut
  rw [addV_c, sub_mod_neg]
/-- A row in reduced form leads elsewhere. -/
theorem Ech.lead_ne {p : Int} {n : Nat} {e : List (List Int)} (h : Ech p n e) {y : List Int} (h0 : ∀ i, i < e.length → y.getD (lead (e.getD i [])) 0 = 0) {k : Nat} (hk : y.getD k 0 ≠ 0) {j : Nat} (hj : j < e.length) : lead (e.getD j []) ≠ k := fun e1 => hk (e1 ▸ h0 j hj)
end Go.Proofs.Yteappjgdcbploaa.Num
