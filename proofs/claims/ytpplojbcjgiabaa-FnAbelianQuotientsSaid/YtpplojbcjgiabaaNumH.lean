/- Plain arithmetic without Go: the order of a residue. -/
import Derived.Test.YtpplojbcjgiabaaNumG
namespace Go.Proofs.Ytpplojbcjgiabaa.Num

/-- The least exponent of at least 1 with the power 1. -/
def IsOrd (v m k : Int) : Prop := 1 ≤ k ∧ v ^ k.toNat % m = 1 % m ∧ ∀ j, 1 ≤ j → j < k → v ^ j.toNat % m ≠ 1 % m
noncomputable def ordM (v m : Int) : Int := Classical.epsilon (IsOrd v m)
theorem isOrd_unique {v m a b : Int} (h : IsOrd v m a) (k : IsOrd v m b) : a = b := by
  rcases Int.lt_trichotomy a b with h1 | h1 | h1
  · exact absurd h.2.1 (k.2.2 a h.1 h1)
  · exact h1
  · exact absurd k.2.1 (h.2.2 b k.1 h1)
theorem isOrd_ex {v m : Int} (n : Nat) : ∀ k : Int, k.toNat ≤ n → 1 ≤ k → v ^ k.toNat % m = 1 % m → ∃ o, IsOrd v m o ∧ o ≤ k := by
  induction n with
  | zero => intro k h1 h2; omega
  | succ n ih =>
    intro k h1 h2 h3
    by_cases h : ∀ j, 1 ≤ j → j < k → v ^ j.toNat % m ≠ 1 % m
    · exact ⟨k, ⟨h2, h3, h⟩, Int.le_refl _⟩
    · have h : ∃ j, 1 ≤ j ∧ j < k ∧ v ^ j.toNat % m = 1 % m := by
        apply Classical.byContradiction
        intro hn
        apply h
        intro j j1 j2 j3
        exact hn ⟨j, j1, j2, j3⟩
      obtain ⟨j, j1, j2, j3⟩ := h
      obtain ⟨o, ho, hle⟩ := ih j (by omega) j1 j3
      exact ⟨o, ho, by omega⟩
theorem pow_one_mod {v m : Int} {a : Nat} (h : v ^ a % m = 1 % m) (b : Nat) : v ^ (a * b) % m = 1 % m := by
  rw [Int.pow_mul, ← pow_mod, h, pow_mod]
  congr 1
  induction b with
  | zero => simp
  | succ b ih => rw [Int.pow_succ, ih]; simp
theorem isOrd_dvd {v m o : Int} (h : IsOrd v m o) {k : Int} (hk : 0 ≤ k) (hv : v ^ k.toNat % m = 1 % m) : o ∣ k := by
  have ho := h.1
  have b := mod_bd k (m := o) (by omega)
  by_cases h0 : k % o = 0
  · exact Int.dvd_of_emod_eq_zero h0
  · exfalso
    apply h.2.2 (k % o) (by omega) (by omega)
    have hq : 0 ≤ k / o := Int.ediv_nonneg hk (by omega)
    have e : k.toNat = o.toNat * (k / o).toNat + (k % o).toNat := by
      have h1 : k = ((o.toNat * (k / o).toNat + (k % o).toNat : Nat) : Int) := by
        rw [Int.natCast_add, Int.natCast_mul, Int.toNat_of_nonneg (by omega), Int.toNat_of_nonneg hq, Int.toNat_of_nonneg b.1]
        have := Int.emod_add_mul_ediv k o
        omega
      have h2 := congrArg Int.toNat h1
      rwa [Int.toNat_natCast] at h2
    rw [e, Int.pow_add, ← mul_mod_left, pow_one_mod h.2.1, mul_mod_left, Int.one_mul] at hv
    exact hv

def phi (m : Int) : Int := phiL (facL 2 m)
theorem pow_phi {v m : Int} (hm : 1 ≤ m) (hg : Int.gcd v m = 1) : v ^ (phi m).toNat % m = 1 % m := by
  rw [Int.emod_eq_emod_iff_emod_sub_eq_zero]
  exact Int.emod_eq_zero_of_dvd ((fac_ok hm).euler v hg)
theorem phi_pos {m : Int} (hm : 1 ≤ m) : 1 ≤ phi m := (fac_ok hm).phi
theorem ord_spec {v m : Int} (hm : 1 ≤ m) (hg : Int.gcd v m = 1) : IsOrd v m (ordM v m) ∧ ordM v m ≤ phi m := by
  obtain ⟨o, ho, hle⟩ := isOrd_ex (phi m).toNat (phi m) (Nat.le_refl _) (phi_pos hm) (pow_phi hm hg)
  have h := Classical.epsilon_spec (p := IsOrd v m) ⟨o, ho⟩
  have e : ordM v m = o := isOrd_unique h ho
  rw [e]
  exact ⟨ho, hle⟩
theorem ord_is {v m k : Int} (h : IsOrd v m k) : ordM v m = k := isOrd_unique (Classical.epsilon_spec (p := IsOrd v m) ⟨k, h⟩) h

/-! The number of units, counted prime by prime. -/
theorem phiL_append (a b : List (Int × Int)) : phiL (a ++ b) = phiL a * phiL b := by
  induction a with
  | nil => simp [phiL]
  | cons x t ih => rw [List.cons_append, phiL_cons, phiL_cons, ih]; simp only [Int.mul_assoc]
def CuInv (m u : Int) (j : Nat) : Prop := 1 ≤ u ∧ u ≤ m ∧ u = phiL ((facL 2 m).take j) * prodL ((facL 2 m).drop j)
theorem cuInv_start {m : Int} (hm : 1 ≤ m) : CuInv m m 0 := ⟨hm, Int.le_refl _, by
  have h := (fac_ok hm).mul
  simp only [List.take_zero, List.drop_zero]
  rw [h]; simp [phiL]⟩
theorem cuInv_end {m u : Int} {j : Nat} (h : CuInv m u j) (hj : (facP 2 m).length ≤ j) : u = phi m ∧ 1 ≤ phi m ∧ phi m ≤ m := by
  obtain ⟨h1, h2, h3⟩ := h
  have hl : (facL 2 m).length ≤ j := by simpa [facP] using hj
  rw [List.take_of_length_le hl, List.drop_eq_nil_of_le hl] at h3
  have : u = phi m := by rw [h3]; simp [prodL, phi]
  omega
theorem cuInv_step {m u : Int} {j : Nat} (hm : 1 ≤ m) (h : CuInv m u j) (hj : j < (facP 2 m).length) :
    2 ≤ (facP 2 m).getD j 0 ∧ (facP 2 m).getD j 0 ≤ m ∧ 0 ≤ u / (facP 2 m).getD j 0 ∧ u / (facP 2 m).getD j 0 ≤ m ∧ CuInv m (u / (facP 2 m).getD j 0 * ((facP 2 m).getD j 0 - 1)) (j + 1) := by
  obtain ⟨h1, h2, h3⟩ := h
  have hl : j < (facL 2 m).length := by simpa [facP] using hj
  have hx : (facP 2 m).getD j 0 = ((facL 2 m)[j]).1 := by simp [facP, hl]
  rw [hx]
  obtain ⟨hp, he⟩ := (fac_ok hm).pr (facL 2 m)[j] (List.getElem_mem hl)
  have hp2 := hp.1
  rw [List.drop_eq_getElem_cons hl, prodL_cons] at h3
  generalize hxx : (facL 2 m)[j] = x at *
  have hee : x.2.toNat = (x.2 - 1).toNat + 1 := by omega
  have e1 : u = x.1 * (phiL ((facL 2 m).take j) * (x.1 ^ (x.2 - 1).toNat * prodL ((facL 2 m).drop (j + 1)))) := by
    rw [h3, hee, Int.pow_succ]
    simp only [Int.mul_assoc, Int.mul_left_comm, Int.mul_comm]
  have e2 : u / x.1 = phiL ((facL 2 m).take j) * (x.1 ^ (x.2 - 1).toNat * prodL ((facL 2 m).drop (j + 1))) := by
    conv => lhs; rw [e1]
    exact Int.mul_ediv_cancel_left _ (by omega)
  have e3 : u = x.1 * (u / x.1) := by rw [e2]; exact e1
  have hq : 1 ≤ u / x.1 := by
    rcases Int.lt_or_le (u / x.1) 1 with h0 | h0
    · exfalso
      have : x.1 * (u / x.1) ≤ x.1 * 0 := Int.mul_le_mul_of_nonneg_left (by omega) (by omega)
      omega
    · exact h0
  have hq2 : 1 * (u / x.1) ≤ x.1 * (u / x.1) := Int.mul_le_mul_of_nonneg_right (by omega) (by omega)
  have hq3 : u / x.1 * 1 ≤ u / x.1 * (x.1 - 1) := Int.mul_le_mul_of_nonneg_left (by omega) (by omega)
  have hq4 : u / x.1 * (x.1 - 1) ≤ u := by rw [Int.mul_sub, Int.mul_comm, ← e3]; omega
  have hq5 : x.1 * 1 ≤ x.1 * (u / x.1) := Int.mul_le_mul_of_nonneg_left hq (by omega)
  refine ⟨hp2, by omega, by omega, by omega, by omega, by omega, ?_⟩
  rw [e2, List.take_succ_eq_append_getElem hl, phiL_append, hxx, phiL_cons]
  have : phiL [] = 1 := rfl
  rw [this, Int.mul_one]
  simp only [Int.mul_assoc, Int.mul_left_comm, Int.mul_comm]

theorem cuInv_run {m : Int} (hm : 1 ≤ m) (j : Nat) (hj : j ≤ (facP 2 m).length) : ∃ u, CuInv m u j := by
  induction j with
  | zero => exact ⟨m, cuInv_start hm⟩
  | succ j ih =>
    obtain ⟨u, hu⟩ := ih (by omega)
    exact ⟨_, (cuInv_step hm hu (by omega)).2.2.2.2⟩
theorem phi_bd {m : Int} (hm : 1 ≤ m) : 1 ≤ phi m ∧ phi m ≤ m := by
  obtain ⟨u, hu⟩ := cuInv_run hm _ (Nat.le_refl _)
  exact (cuInv_end hu (Nat.le_refl _)).2

/-! The order, by taking away primes. -/
theorem cop_prodL {q : Int} (l : List (Int × Int)) (h : ∀ x ∈ l, Pr x.1 ∧ 1 ≤ x.2) (hq : ∀ x ∈ l, ¬ x.1 ∣ q) : Int.gcd (prodL l) q = 1 := by
  induction l with
  | nil => simp [prodL]
  | cons x t ih =>
    rw [prodL_cons]
    have h1 : Int.gcd (x.1 ^ x.2.toNat) q = 1 := cop_pow (by rw [Int.gcd_comm]; exact pr_gcd (h x (by simp)).1 (hq x (by simp))) _
    have h2 := ih (fun y hy => h y (by simp [hy])) (fun y hy => hq y (by simp [hy]))
    show Nat.gcd _ _ = 1
    rw [Int.natAbs_mul]
    exact Nat.Coprime.mul_left h1 h2
theorem some_prime {N q : Int} (hN : 1 ≤ N) (hq : q ∣ N) (h1 : 1 < q) : ∃ p ∈ facP 2 N, Pr p ∧ p ∣ q := by
  apply Classical.byContradiction
  intro hn
  have hk := fac_ok hN
  have h : Int.gcd (prodL (facL 2 N)) q = 1 := cop_prodL _ hk.pr fun x hx hd => hn ⟨x.1, by simp only [facP, List.mem_map]; exact ⟨x, hx, rfl⟩, (hk.pr x hx).1, hd⟩
  rw [hk.mul] at h
  have h2 : q ∣ N * 1 := Int.dvd_mul_of_dvd_left hq
  have h3 := cop_dvd h h2
  have := Int.le_of_dvd (by omega) h3
  omega
/-- The state of the search: the primes before index j can't be taken away. -/
def OrInv (v m N c : Int) (j : Nat) : Prop :=
  1 ≤ c ∧ c ∣ N ∧ v ^ c.toNat % m = 1 % m ∧ ∀ i, i < j → ¬ (c % (facP 2 N).getD i 0 = 0 ∧ v ^ (c / (facP 2 N).getD i 0).toNat % m = 1 % m)
theorem orInv_start {v m N : Int} (hN : 1 ≤ N) (h : v ^ N.toNat % m = 1 % m) : OrInv v m N N 0 := ⟨hN, Int.dvd_refl _, h, fun i hi => by omega⟩
theorem facP_pr {N : Int} (hN : 1 ≤ N) {j : Nat} (hj : j < (facP 2 N).length) : Pr ((facP 2 N).getD j 0) := by
  have hl : j < (facL 2 N).length := by simpa [facP] using hj
  have hx : (facP 2 N).getD j 0 = ((facL 2 N)[j]).1 := by simp [facP, hl]
  rw [hx]
  exact ((fac_ok hN).pr _ (List.getElem_mem hl)).1
theorem facP_le {N : Int} (hN : 1 ≤ N) {j : Nat} (hj : j < (facP 2 N).length) : (facP 2 N).getD j 0 ≤ N := by
  obtain ⟨u, hu⟩ := cuInv_run hN j (by omega)
  exact (cuInv_step hN hu hj).2.1
theorem orInv_bd {v m N c : Int} {j : Nat} (hN : 1 ≤ N) (h : OrInv v m N c j) : 1 ≤ c ∧ c ≤ N := ⟨h.1, Int.le_of_dvd (by omega) h.2.1⟩
theorem orInv_take {v m N c p : Int} {j : Nat} (hN : 1 ≤ N) (h : OrInv v m N c j) (hj : j ≤ (facP 2 N).length) (hp : 2 ≤ p) (hd : c % p = 0) (hv : v ^ (c / p).toNat % m = 1 % m) : OrInv v m N (c / p) j ∧ c / p < c := by
  obtain ⟨h1, h2, h3, h4⟩ := h
  obtain ⟨b1, b2, b3⟩ := div_bd hp h1 hd
  refine ⟨⟨b1, Int.dvd_trans ⟨p, by rw [Int.mul_comm]; exact b3⟩ h2, hv, fun i hi hc => ?_⟩, b2⟩
  apply h4 i hi
  have hr := (facP_pr hN (j := i) (by omega)).1
  generalize (facP 2 N).getD i 0 = r at *
  obtain ⟨c1, c2⟩ := hc
  obtain ⟨y, hy⟩ := Int.dvd_of_emod_eq_zero c1
  have e1 : c = r * (p * y) := by rw [Int.mul_left_comm, ← hy]; exact b3
  have hy0 : 0 ≤ y := by
    rcases Int.lt_or_le y 0 with h0 | h0
    · exfalso
      have : r * y ≤ r * 0 := Int.mul_le_mul_of_nonneg_left (by omega) (by omega)
      omega
    · exact h0
  refine ⟨by rw [e1]; exact Int.mul_emod_right _ _, ?_⟩
  have e2 : c / r = p * y := by rw [e1]; exact Int.mul_ediv_cancel_left _ (by omega)
  have e3 : c / p / r = y := by rw [hy]; exact Int.mul_ediv_cancel_left _ (by omega)
  rw [e3] at c2
  have e4 : (c / r).toNat = y.toNat * p.toNat := by
    rw [e2, Int.mul_comm]
    have : y * p = ((y.toNat * p.toNat : Nat) : Int) := by rw [Int.natCast_mul, Int.toNat_of_nonneg hy0, Int.toNat_of_nonneg (by omega)]
    rw [this, Int.toNat_natCast]
  rw [e4]
  exact pow_one_mod c2 _
theorem orInv_next {v m N c : Int} {j : Nat} (h : OrInv v m N c j) (hn : ¬ (c % (facP 2 N).getD j 0 = 0 ∧ v ^ (c / (facP 2 N).getD j 0).toNat % m = 1 % m)) : OrInv v m N c (j + 1) := by
  obtain ⟨h1, h2, h3, h4⟩ := h
  refine ⟨h1, h2, h3, fun i hi => ?_⟩
  by_cases e : i = j
  · rw [e]; exact hn
  · exact h4 i (by omega)
theorem orInv_end {v m N c : Int} {j : Nat} (hN : 1 ≤ N) (hm : 1 ≤ m) (hg : Int.gcd v m = 1) (h : OrInv v m N c j) (hj : (facP 2 N).length ≤ j) : c = ordM v m := by
  obtain ⟨h1, h2, h3, h4⟩ := h
  obtain ⟨ho, hle⟩ := ord_spec hm hg
  obtain ⟨q, hq⟩ := isOrd_dvd ho (by omega) h3
  have ho1 := ho.1
  by_cases h5 : 1 < q
  · exfalso
    obtain ⟨p, hp, hpr, ⟨y, hy⟩⟩ := some_prime hN (Int.dvd_trans ⟨ordM v m, by rw [Int.mul_comm]; exact hq⟩ h2) h5
    obtain ⟨i, hi, he⟩ := List.mem_iff_getElem.mp hp
    have hp2 := hpr.1
    have hgd : (facP 2 N).getD i 0 = p := by rw [List.getD_eq_getElem?_getD, List.getElem?_eq_getElem hi, he]; rfl
    apply h4 i (by omega)
    rw [hgd]
    have e1 : c = p * (ordM v m * y) := by rw [hq, hy, Int.mul_left_comm]
    have hy0 : 0 ≤ y := by
      rcases Int.lt_or_le y 0 with h0 | h0
      · exfalso
        have : p * y ≤ p * 0 := Int.mul_le_mul_of_nonneg_left (by omega) (by omega)
        omega
      · exact h0
    refine ⟨by rw [e1]; exact Int.mul_emod_right _ _, ?_⟩
    have e2 : c / p = ordM v m * y := by rw [e1]; exact Int.mul_ediv_cancel_left _ (by omega)
    have e4 : (c / p).toNat = (ordM v m).toNat * y.toNat := by
      rw [e2]
      have : ordM v m * y = (((ordM v m).toNat * y.toNat : Nat) : Int) := by rw [Int.natCast_mul, Int.toNat_of_nonneg hy0, Int.toNat_of_nonneg (by omega)]
      rw [this, Int.toNat_natCast]
    rw [e4]
    exact pow_one_mod ho.2.1 _
  · have hq1 : q = 1 := by
      rcases Int.lt_or_le q 1 with h0 | h0
      · exfalso
        have : ordM v m * q ≤ ordM v m * 0 := Int.mul_le_mul_of_nonneg_left (by omega) (by omega)
        omega
      · omega
    rw [hq1] at hq
    omega
end Go.Proofs.Ytpplojbcjgiabaa.Num
