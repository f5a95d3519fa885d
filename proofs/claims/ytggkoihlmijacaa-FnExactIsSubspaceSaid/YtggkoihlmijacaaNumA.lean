/- Plain arithmetic without Go: greatest common divisors, the extended algorithm, residues. -/
namespace Go.Proofs.Ytggkoihlmijacaa.Num

theorem gcd_step (a b : Int) : Int.gcd b (a % b) = Int.gcd a b := by
  have h := Int.gcd_add_mul_left_right b (a % b) (a / b)
  rw [Int.emod_add_mul_ediv] at h
  rw [← h, Int.gcd_comm]

theorem gcd_tstep (a b : Int) : Int.gcd b (a.tmod b) = Int.gcd a b := by
  have h := Int.gcd_add_mul_left_right b (a.tmod b) (a.tdiv b)
  rw [Int.tmod_add_mul_tdiv] at h
  rw [← h, Int.gcd_comm]

theorem gcd_qstep (a b q : Int) : Int.gcd b (a - q * b) = Int.gcd a b := by
  rw [Int.mul_comm q b, Int.gcd_sub_mul_left_right, Int.gcd_comm]

theorem mul_natAbs_le {x y m : Int} (hy : 1 ≤ y) (h : (x.natAbs : Int) * y ≤ m) : (x.natAbs : Int) ≤ m := by
  have : (x.natAbs : Int) * 1 ≤ (x.natAbs : Int) * y := Int.mul_le_mul_of_nonneg_left hy (by omega)
  omega

/-- The state of the extended algorithm. -/
structure Eu (v m d r x y : Int) : Prop where
  d0 : 0 ≤ d
  r0 : 0 ≤ r
  dm : d ≤ m
  rm : r ≤ m
  cx : m ∣ x * v - d
  cy : m ∣ y * v - r
  b : (x.natAbs : Int) * r + (y.natAbs : Int) * d ≤ m
  xm : (x.natAbs : Int) ≤ m
  ym : (y.natAbs : Int) ≤ m
  g : Int.gcd d r = Int.gcd v m

theorem eu_start {v m : Int} (h0 : 0 ≤ v) (h1 : v < m) : Eu v m v m 1 0 where
  d0 := h0
  r0 := by omega
  dm := by omega
  rm := by omega
  cx := by simp
  cy := by simp
  b := by simp
  xm := by simp; omega
  ym := by simp; omega
  g := rfl

theorem eu_start' {v m : Int} (h0 : 0 ≤ v) (h1 : v < m) : Eu v m m v 0 1 where
  d0 := by omega
  r0 := h0
  dm := by omega
  rm := by omega
  cx := by simp
  cy := by simp
  b := by simp
  xm := by simp; omega
  ym := by simp; omega
  g := Int.gcd_comm _ _

theorem natAbs_sub_le (x z : Int) : ((x - z).natAbs : Int) ≤ x.natAbs + z.natAbs := by omega

theorem eu_step {v m d r x y : Int} (h : Eu v m d r x y) (hr : 0 < r) : Eu v m r (d - d / r * r) y (x - d / r * y) := by
  have hq0 : 0 ≤ d / r := Int.ediv_nonneg h.d0 (by omega)
  have hm := Int.emod_add_mul_ediv d r
  have h1 := Int.emod_nonneg d (b := r) (by omega)
  have h2 := Int.emod_lt_of_pos d hr
  have e : d - d / r * r = d % r := by rw [Int.mul_comm]; omega
  have hb : (y.natAbs : Int) * (d - d / r * r) + ((x - d / r * y).natAbs : Int) * r ≤ m := by
    have a1 : ((x - d / r * y).natAbs : Int) ≤ x.natAbs + (d / r * y).natAbs := natAbs_sub_le _ _
    have a2 : ((d / r * y).natAbs : Int) = d / r * y.natAbs := by
      rw [Int.natAbs_mul, Int.natCast_mul, Int.natAbs_of_nonneg hq0]
    have a3 : ((x - d / r * y).natAbs : Int) * r ≤ (x.natAbs + d / r * y.natAbs) * r :=
      Int.mul_le_mul_of_nonneg_right (by omega) (by omega)
    have a4 : (y.natAbs : Int) * (d - d / r * r) + ((x.natAbs : Int) + d / r * y.natAbs) * r = x.natAbs * r + y.natAbs * d := by
      generalize d / r = q
      rw [Int.mul_sub, Int.add_mul, Int.mul_comm q (y.natAbs : Int), Int.mul_assoc, ]
      omega
    have := h.b
    omega
  have hym : ((x - d / r * y).natAbs : Int) ≤ m := by
    apply mul_natAbs_le (y := r) (by omega)
    have : 0 ≤ (y.natAbs : Int) * (d - d / r * r) := Int.mul_nonneg (by omega) (by omega)
    omega
  refine ⟨h.r0, by omega, h.rm, by have := h.dm; have := h.rm; omega, h.cy, ?_, hb, h.ym, hym, ?_⟩
  · have e1 : (x - d / r * y) * v - (d - d / r * r) = (x * v - d) - d / r * (y * v - r) := by
      generalize d / r = q
      rw [Int.sub_mul, Int.mul_sub, Int.mul_assoc]; omega
    rw [e1]
    exact Int.dvd_sub h.cx (Int.dvd_mul_of_dvd_right h.cy)
  · rw [gcd_qstep]; exact h.g

/-- The products and differences of one round stay within m. -/
theorem eu_fits {v m d r x y : Int} (h : Eu v m d r x y) (hr : 0 < r) :
    0 ≤ d / r ∧ d / r ≤ m ∧ 0 ≤ d / r * r ∧ d / r * r ≤ d ∧ -(2 * m) ≤ d / r * y ∧ d / r * y ≤ 2 * m ∧ -m ≤ x - d / r * y ∧ x - d / r * y ≤ m := by
  have hq0 : 0 ≤ d / r := Int.ediv_nonneg h.d0 (by omega)
  have hm := Int.emod_add_mul_ediv d r
  have h1 := Int.emod_nonneg d (b := r) (by omega)
  have hqr : 0 ≤ d / r * r := Int.mul_nonneg hq0 (by omega)
  have hqr' : d / r * r ≤ d := by rw [Int.mul_comm]; omega
  have hq : d / r * 1 ≤ d / r * r := Int.mul_le_mul_of_nonneg_left (by omega) hq0
  have s := eu_step h hr
  have s1 := s.ym
  have s2 := h.xm
  have := h.dm
  have s3 : -m ≤ x - d / r * y ∧ x - d / r * y ≤ m := by omega
  refine ⟨hq0, by omega, hqr, hqr', ?_, ?_, s3.1, s3.2⟩ <;> omega

theorem eu_end {v m d x y : Int} (h : Eu v m d 0 x y) : d = Int.gcd v m := by
  have := h.g
  rw [Int.gcd_zero_right] at this
  have := h.d0
  omega

/-- The least x of at least 0 for which a x is congruent to the greatest common divisor. -/
noncomputable def bez (v m : Int) : Int := Classical.epsilon fun x : Int => 0 ≤ x ∧ x < m / Int.gcd v m ∧ m ∣ x * v - Int.gcd v m

theorem bez_unique {v m x z : Int} (hm : 0 < m) (hx0 : 0 ≤ x) (hx1 : x < m / Int.gcd v m) (hx : m ∣ x * v - Int.gcd v m)
    (hz0 : 0 ≤ z) (hz1 : z < m / Int.gcd v m) (hz : m ∣ z * v - Int.gcd v m) : x = z := by
  have hg : (Int.gcd v m : Int) ≠ 0 := by
    intro h
    have : Int.gcd v m = 0 := by omega
    rw [Int.gcd_eq_zero_iff] at this
    omega
  obtain ⟨v', hv⟩ := Int.gcd_dvd_left v m
  obtain ⟨m', hm'⟩ := Int.gcd_dvd_right v m
  have hd : m ∣ (x - z) * v := by
    have := Int.dvd_sub hx hz
    rw [Int.sub_mul]
    have e : x * v - ↑(v.gcd m) - (z * v - ↑(v.gcd m)) = x * v - z * v := by omega
    rwa [e] at this
  have hcop : Int.gcd v' m' = 1 := by
    have h := Int.gcd_mul_left (Int.gcd v m : Int) v' m'
    rw [← hv, ← hm'] at h
    have : (Int.gcd v m) ≠ 0 := by omega
    have h' : Int.gcd v m * 1 = Int.gcd v m * Int.gcd v' m' := by
      rw [Nat.mul_one]; simpa using h
    exact (Nat.eq_of_mul_eq_mul_left (by omega) h').symm
  have hd' : m' ∣ (x - z) * v' := by
    obtain ⟨c, hc⟩ := hd
    refine ⟨c, ?_⟩
    have : (Int.gcd v m : Int) * ((x - z) * v') = (Int.gcd v m : Int) * (m' * c) := by
      rw [← Int.mul_assoc _ m', ← hm', ← hc, Int.mul_left_comm, ← hv]
    exact Int.eq_of_mul_eq_mul_left hg this
  have hd2 : m' ∣ (x - z) := by
    have h1 : m'.natAbs ∣ (x - z).natAbs * v'.natAbs := by
      rw [← Int.natAbs_mul]; exact Int.natAbs_dvd_natAbs.mpr hd'
    have h2 : Nat.Coprime m'.natAbs v'.natAbs := by
      have := hcop; rw [Int.gcd_comm] at this; exact this
    exact Int.natAbs_dvd_natAbs.mp (h2.dvd_of_dvd_mul_right h1)
  have hq : m / Int.gcd v m = m' := by
    conv => lhs; lhs; rw [hm']
    exact Int.mul_ediv_cancel_left _ hg
  rw [hq] at hx1 hz1
  obtain ⟨c, hc⟩ := hd2
  have : c = 0 := by
    by_cases h0 : c = 0
    · exact h0
    · have : 0 < m' := by omega
      rcases Int.lt_or_gt_of_ne h0 with h | h
      · have : m' * c ≤ m' * (-1) := Int.mul_le_mul_of_nonneg_left (by omega) (by omega)
        omega
      · have : m' * 1 ≤ m' * c := Int.mul_le_mul_of_nonneg_left (by omega) (by omega)
        omega
  subst this
  omega

theorem bez_of {v m x : Int} (hm : 0 < m) (hx0 : 0 ≤ x) (hx1 : x < m / Int.gcd v m) (hx : m ∣ x * v - Int.gcd v m) : bez v m = x := by
  have h := Classical.epsilon_spec (p := fun x : Int => 0 ≤ x ∧ x < m / Int.gcd v m ∧ m ∣ x * v - Int.gcd v m) ⟨x, hx0, hx1, hx⟩
  exact bez_unique hm h.1 h.2.1 h.2.2 hx0 hx1 hx

/-- Go's remainder and the residue. -/
theorem tmod_neg {a m : Int} (hm : 0 < m) (h : a.tmod m < 0) : a % m = a.tmod m + m := by
  have h1 := Int.tmod_add_mul_tdiv a m
  have h2 := Int.lt_tmod_of_pos a hm
  have : a % m = (a.tmod m + m) % m := by
    conv => lhs; rw [← h1]
    rw [Int.add_mul_emod_self_left, Int.add_emod_right]
  rw [this, Int.emod_eq_of_lt (by omega) (by omega)]
theorem tmod_pos {a m : Int} (hm : 0 < m) (h : 0 ≤ a.tmod m) : a % m = a.tmod m := by
  have h1 := Int.tmod_add_mul_tdiv a m
  have h2 := Int.tmod_lt_of_pos a hm
  have : a % m = (a.tmod m) % m := by
    conv => lhs; rw [← h1]
    rw [Int.add_mul_emod_self_left]
  rw [this, Int.emod_eq_of_lt (by omega) (by omega)]
theorem tmod_bd (a : Int) {m : Int} (hm : 0 < m) : -m < a.tmod m ∧ a.tmod m < m :=
  ⟨Int.lt_tmod_of_pos a hm, Int.tmod_lt_of_pos a hm⟩
theorem mod_bd (a : Int) {m : Int} (hm : 0 < m) : 0 ≤ a % m ∧ a % m < m :=
  ⟨Int.emod_nonneg _ (by omega), Int.emod_lt_of_pos _ hm⟩

/-- The group primes. -/
def gp (n : Int) : Bool := decide (n = 2 ∨ n = 3 ∨ n = 5 ∨ n = 7)
theorem gp_yes {n : Int} (h : gp n = true) : n = 2 ∨ n = 3 ∨ n = 5 ∨ n = 7 := by simpa [gp] using h
theorem gp_no {n : Int} (h : gp n = false) : n ≠ 2 ∧ n ≠ 3 ∧ n ≠ 5 ∧ n ≠ 7 := by simpa [gp] using h
theorem gp_mk {n : Int} (h : n = 2 ∨ n = 3 ∨ n = 5 ∨ n = 7) : gp n = true := by simpa [gp] using h
theorem gp_mk' {n : Int} (h2 : n ≠ 2) (h3 : n ≠ 3) (h5 : n ≠ 5) (h7 : n ≠ 7) : gp n = false := by simp [gp, *]
theorem gp_bd {n : Int} (h : gp n = true) : 2 ≤ n ∧ n ≤ 7 := by have := gp_yes h; omega

/-- The sign. -/
def sg (a : Int) : Int := if 0 < a then 1 else if a < 0 then -1 else 0
theorem mul_sg (a : Int) : a * sg a = a.natAbs := by
  unfold sg
  split
  · omega
  · split <;> omega
theorem sg_bd (a : Int) : -1 ≤ sg a ∧ sg a ≤ 1 := by
  unfold sg
  split
  · omega
  · split <;> omega

/-- What the algorithm leaves where the greatest common divisor is 1. -/
theorem bez_eu {v m x y : Int} (hm : 0 < m) (h : Eu v m 1 0 x y) : x % m = bez v m := by
  have hg : (Int.gcd v m : Int) = 1 := (eu_end h).symm
  have hb := mod_bd x hm
  refine (bez_of hm hb.1 (by rw [hg, Int.ediv_one]; exact hb.2) ?_).symm
  rw [hg]
  have h1 := h.cx
  have e : x % m * v - 1 = (x * v - 1) - m * (x / m * v) := by
    have := Int.emod_add_mul_ediv x m
    have h2 : x % m = x - m * (x / m) := by omega
    rw [h2, Int.sub_mul, Int.mul_assoc]; omega
  rw [e]
  exact Int.dvd_sub h1 (Int.dvd_mul_right _ _)
theorem eu_lt {d r : Int} (hr : 0 < r) : d - d / r * r < r := by
  have := Int.emod_lt_of_pos d hr
  have h5 := Int.emod_add_mul_ediv d r
  rw [Int.mul_comm] at h5
  omega
theorem eu_run {v m : Int} (n : Nat) : ∀ d r x y : Int, r.toNat ≤ n → Eu v m d r x y → ∃ d' x' y', Eu v m d' 0 x' y' := by
  induction n with
  | zero =>
    intro d r x y hn h
    have : r = 0 := by have := h.r0; omega
    subst this
    exact ⟨d, x, y, h⟩
  | succ n ih =>
    intro d r x y hn h
    by_cases hr : r = 0
    · subst hr; exact ⟨d, x, y, h⟩
    · have hr' : 0 < r := by have := h.r0; omega
      exact ih _ _ _ _ (by have := eu_lt (d := d) hr'; have := (eu_step h hr').r0; omega) (eu_step h hr')
theorem eu_ex {v m : Int} (h0 : 0 ≤ v) (h1 : v < m) : ∃ x y : Int, Eu v m (Int.gcd v m) 0 x y := by
  obtain ⟨d, x, y, h⟩ := eu_run m.toNat v m 1 0 (Nat.le_refl _) (eu_start h0 h1)
  have := eu_end h
  subst this
  exact ⟨x, y, h⟩

/-- The state at the end, for any greatest common divisor. -/
theorem bez_eu' {v m x y : Int} (hm : 0 < m) (h : Eu v m (Int.gcd v m) 0 x y) : x % (m / Int.gcd v m) = bez v m := by
  have hg0 : (Int.gcd v m : Int) ≠ 0 := by
    intro h
    have : Int.gcd v m = 0 := by omega
    rw [Int.gcd_eq_zero_iff] at this
    omega
  obtain ⟨m', hm'⟩ := Int.gcd_dvd_right v m
  obtain ⟨v', hv'⟩ := Int.gcd_dvd_left v m
  have hq : m / Int.gcd v m = m' := by
    conv => lhs; lhs; rw [hm']
    exact Int.mul_ediv_cancel_left _ hg0
  have hgp : (0 : Int) < Int.gcd v m := by omega
  have hmp : 0 < m' := by
    by_cases hh : 0 < m'
    · exact hh
    · have : (Int.gcd v m : Int) * m' ≤ (Int.gcd v m : Int) * 0 := Int.mul_le_mul_of_nonneg_left (by omega) (by omega)
      omega
  have hb := mod_bd x hmp
  rw [hq]
  refine (bez_of hm hb.1 (by rw [hq]; exact hb.2) ?_).symm
  have h1 := h.cx
  have e : x % m' * v - Int.gcd v m = (x * v - Int.gcd v m) - m * (x / m' * v') := by
    have := Int.emod_add_mul_ediv x m'
    have h2 : x % m' = x - m' * (x / m') := by omega
    rw [h2, Int.sub_mul]
    have : m' * (x / m') * v = m * (x / m' * v') := by
      conv => lhs; rw [hv']
      conv => rhs; rw [hm']
      simp only [Int.mul_assoc, Int.mul_left_comm, Int.mul_comm]
    omega
  rw [e]
  exact Int.dvd_sub h1 (Int.dvd_mul_right _ _)
theorem bez_spec {v m : Int} (h0 : 0 ≤ v) (h1 : v < m) : 0 ≤ bez v m ∧ bez v m < m / Int.gcd v m ∧ m ∣ bez v m * v - Int.gcd v m := by
  obtain ⟨x, y, h⟩ := eu_ex h0 h1
  have e := bez_eu' (by omega) h
  have hg0 : (Int.gcd v m : Int) ≠ 0 := by
    intro h
    have : Int.gcd v m = 0 := by omega
    rw [Int.gcd_eq_zero_iff] at this
    omega
  have hx : ∃ x : Int, 0 ≤ x ∧ x < m / Int.gcd v m ∧ m ∣ x * v - Int.gcd v m := by
    obtain ⟨m', hm'⟩ := Int.gcd_dvd_right v m
    obtain ⟨v', hv'⟩ := Int.gcd_dvd_left v m
    have hq : m / Int.gcd v m = m' := by
      conv => lhs; lhs; rw [hm']
      exact Int.mul_ediv_cancel_left _ hg0
    have hmp : 0 < m' := by
      by_cases hh : 0 < m'
      · exact hh
      · have : (Int.gcd v m : Int) * m' ≤ (Int.gcd v m : Int) * 0 := Int.mul_le_mul_of_nonneg_left (by omega) (by omega)
        omega
    refine ⟨x % m', ?_⟩
    have hb := mod_bd x hmp
    refine ⟨hb.1, by rw [hq]; exact hb.2, ?_⟩
    have e : x % m' * v - Int.gcd v m = (x * v - Int.gcd v m) - m * (x / m' * v') := by
      have := Int.emod_add_mul_ediv x m'
      have h2 : x % m' = x - m' * (x / m') := by omega
      rw [h2, Int.sub_mul]
      have : m' * (x / m') * v = m * (x / m' * v') := by
        conv => lhs; rw [hv']
        conv => rhs; rw [hm']
        simp only [Int.mul_assoc, Int.mul_left_comm, Int.mul_comm]
      omega
    rw [e]
    exact Int.dvd_sub h.cx (Int.dvd_mul_right _ _)
  exact Classical.epsilon_spec (p := fun x : Int => 0 ≤ x ∧ x < m / Int.gcd v m ∧ m ∣ x * v - Int.gcd v m) hx

/-! Powers modulo m. -/
theorem mul_mod_left (a b m : Int) : a % m * b % m = a * b % m := by
  rw [Int.mul_emod, Int.emod_emod, ← Int.mul_emod]
theorem mul_mod_right (a b m : Int) : a * (b % m) % m = a * b % m := by
  rw [Int.mul_emod, Int.emod_emod, ← Int.mul_emod]
theorem pow_mod (a m : Int) (k : Nat) : (a % m) ^ k % m = a ^ k % m := by
  induction k with
  | zero => simp
  | succ k ih => rw [Int.pow_succ, Int.pow_succ, mul_mod_right, ← mul_mod_left, ih, mul_mod_left]
theorem pow_sq (b : Int) (k : Nat) : (b * b) ^ k = b ^ (2 * k) := by
  induction k with
  | zero => simp
  | succ k ih =>
    have : 2 * (k + 1) = 2 * k + 1 + 1 := by omega
    rw [this, Int.pow_succ, Int.pow_succ, Int.pow_succ, ih, Int.mul_assoc]
theorem pow_half (b m : Int) (k : Nat) (c : Int) : c * (b * b % m) ^ k % m = c * b ^ (2 * k) % m := by
  rw [← mul_mod_right, pow_mod, mul_mod_right, pow_sq]
/-- One round's number: the invariant of the power's loop. -/
def PowInv (v n m r b e : Int) : Prop := 0 ≤ r ∧ r < m ∧ 0 ≤ b ∧ b < m ∧ 0 ≤ e ∧ e ≤ n ∧ r * b ^ e.toNat % m = v ^ n.toNat % m
theorem powInv_bd {v n m r b e : Int} (h : PowInv v n m r b e) : 0 ≤ r ∧ r < m ∧ 0 ≤ b ∧ b < m ∧ 0 ≤ e ∧ e ≤ n := ⟨h.1, h.2.1, h.2.2.1, h.2.2.2.1, h.2.2.2.2.1, h.2.2.2.2.2.1⟩
theorem powInv_start {v n m : Int} (hv0 : 0 ≤ v) (hv1 : v < m) (hn : 0 ≤ n) : PowInv v n m (1 % m) v n := by
  have := mod_bd 1 (m := m) (by omega)
  refine ⟨this.1, this.2, hv0, hv1, hn, Int.le_refl _, ?_⟩
  have := mul_mod_left 1 (v ^ n.toNat) m
  rw [this, Int.one_mul]
theorem powInv_end {v n m r b : Int} (h : PowInv v n m r b 0) : r = v ^ n.toNat % m := by
  obtain ⟨h1, h2, _, _, _, _, h7⟩ := h
  rw [← h7]
  simp
  rw [Int.emod_eq_of_lt h1 h2]
theorem powInv_odd {v n m r b e : Int} (h : PowInv v n m r b e) (he : 0 < e) (ho : e % 2 = 1) : PowInv v n m (r * b % m) (b * b % m) (e / 2) := by
  obtain ⟨h1, h2, h3, h4, h5, h6, h7⟩ := h
  have a := mod_bd (r * b) (m := m) (by omega)
  have c := mod_bd (b * b) (m := m) (by omega)
  refine ⟨a.1, a.2, c.1, c.2, by omega, by omega, ?_⟩
  rw [← h7, mul_mod_left, pow_half, Int.mul_assoc, ← Int.pow_succ']
  congr 3
  omega
theorem powInv_even {v n m r b e : Int} (h : PowInv v n m r b e) (he : 0 < e) (ho : ¬ e % 2 = 1) : PowInv v n m r (b * b % m) (e / 2) := by
  obtain ⟨h1, h2, h3, h4, h5, h6, h7⟩ := h
  have c := mod_bd (b * b) (m := m) (by omega)
  refine ⟨h1, h2, c.1, c.2, by omega, by omega, ?_⟩
  rw [← h7, pow_half]
  congr 3
  omega

theorem mul_fits {x y m : Int} (hx0 : 0 ≤ x) (hx1 : x < m) (hy0 : 0 ≤ y) (hy1 : y < m) (hm : m ≤ 1000000) : 0 ≤ x * y ∧ x * y ≤ 1000000000000 := by
  have : x * y ≤ 1000000 * 1000000 := Int.mul_le_mul (by omega) (by omega) hy0 (by omega)
  exact ⟨Int.mul_nonneg hx0 hy0, by omega⟩
theorem gcd_div {v m : Int} (hm : 0 < m) : 1 ≤ (Int.gcd v m : Int) ∧ 1 ≤ m / Int.gcd v m ∧ m / Int.gcd v m ≤ m := by
  have hg0 : (Int.gcd v m : Int) ≠ 0 := by
    intro h
    have : Int.gcd v m = 0 := by omega
    rw [Int.gcd_eq_zero_iff] at this
    omega
  obtain ⟨m', hm'⟩ := Int.gcd_dvd_right v m
  have hq : m / Int.gcd v m = m' := by
    conv => lhs; lhs; rw [hm']
    exact Int.mul_ediv_cancel_left _ hg0
  have hmp : 0 < m' := by
    by_cases hh : 0 < m'
    · exact hh
    · have : (Int.gcd v m : Int) * m' ≤ (Int.gcd v m : Int) * 0 := Int.mul_le_mul_of_nonneg_left (by omega) (by omega)
      omega
  have : 1 * m' ≤ (Int.gcd v m : Int) * m' := Int.mul_le_mul_of_nonneg_right (by omega) (by omega)
  rw [hq]
  omega
end Go.Proofs.Ytggkoihlmijacaa.Num
