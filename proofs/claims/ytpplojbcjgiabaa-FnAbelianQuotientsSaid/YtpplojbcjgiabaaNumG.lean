/- Plain arithmetic without Go: primes, Fermat's and Euler's theorems by trial division, orders. -/
import Derived.Test.YtpplojbcjgiabaaNumF
namespace Go.Proofs.Ytpplojbcjgiabaa.Num

def Pr (p : Int) : Prop := 2 ≤ p ∧ ∀ x, 2 ≤ x → x < p → p % x ≠ 0

theorem cop_dvd {m a b : Int} (hg : Int.gcd a m = 1) (h : m ∣ a * b) : m ∣ b := by
  have h1 : m.natAbs ∣ a.natAbs * b.natAbs := by rw [← Int.natAbs_mul]; exact Int.natAbs_dvd_natAbs.mpr h
  have h2 : Nat.Coprime m.natAbs a.natAbs := by rw [Int.gcd_comm] at hg; exact hg
  exact Int.natAbs_dvd_natAbs.mp (h2.dvd_of_dvd_mul_left h1)
theorem cop_mul {m r x : Int} (hg : Int.gcd m r = 1) (h1 : m ∣ x) (h2 : r ∣ x) : m * r ∣ x := by
  apply Int.natAbs_dvd_natAbs.mp
  rw [Int.natAbs_mul]
  exact Nat.Coprime.mul_dvd_of_dvd_of_dvd hg (Int.natAbs_dvd_natAbs.mpr h1) (Int.natAbs_dvd_natAbs.mpr h2)
theorem cop_pow {d r : Int} (h : Int.gcd d r = 1) (e : Nat) : Int.gcd (d ^ e) r = 1 := by
  show Nat.gcd (d ^ e).natAbs r.natAbs = 1
  rw [Int.natAbs_pow]
  exact Nat.Coprime.pow_left e h
theorem pr_gcd {p a : Int} (hp : Pr p) (h : ¬ p ∣ a) : Int.gcd a p = 1 := by
  have h1 := Int.gcd_dvd_left a p
  have h2 := Int.gcd_dvd_right a p
  have hp2 := hp.1
  have hle := Int.le_of_dvd (by omega) h2
  have h0 : (Int.gcd a p : Int) ≠ 0 := by
    intro e
    have : Int.gcd a p = 0 := by omega
    rw [Int.gcd_eq_zero_iff] at this
    omega
  by_cases he : (Int.gcd a p : Int) = p
  · rw [he] at h1; exact absurd h1 h
  · by_cases h2' : 2 ≤ (Int.gcd a p : Int)
    · exact absurd (Int.emod_eq_zero_of_dvd h2) (hp.2 _ h2' (by omega))
    · omega
theorem pr_mul {p a b : Int} (hp : Pr p) (h : p ∣ a * b) : p ∣ a ∨ p ∣ b := by
  by_cases ha : p ∣ a
  · exact .inl ha
  · exact .inr (cop_dvd (pr_gcd hp ha) h)

/-! Fermat. -/
def prod (l : List Int) : Int := l.foldr (· * ·) 1
theorem prod_cons (a : Int) (l : List Int) : prod (a :: l) = a * prod l := rfl
theorem prod_erase (l : List Int) (a : Int) (h : a ∈ l) : prod l = a * prod (l.erase a) := by
  induction l with
  | nil => simp at h
  | cons b t ih =>
    by_cases hb : b = a
    · subst hb; simp [prod_cons]
    · have hm : a ∈ t := by
        rcases List.mem_cons.mp h with h | h
        · exact absurd h.symm hb
        · exact h
      rw [List.erase_cons_tail (by simpa using hb), prod_cons, prod_cons, ih hm, Int.mul_left_comm]
theorem prod_sub (l1 : List Int) : ∀ l2 : List Int, l1.Nodup → l1.length = l2.length → (∀ x ∈ l1, x ∈ l2) → prod l1 = prod l2 := by
  induction l1 with
  | nil => intro l2 _ hl _; cases l2 <;> simp_all
  | cons a t ih =>
    intro l2 hn hl hs
    have ha : a ∈ l2 := hs a (by simp)
    have hn' := List.nodup_cons.mp hn
    rw [prod_erase l2 a ha, prod_cons, ih (l2.erase a) hn'.2 ?_ ?_]
    · rw [List.length_erase_of_mem ha]; simp at hl; omega
    · intro x hx
      have hne : x ≠ a := by intro e; subst e; exact hn'.1 hx
      exact (List.mem_erase_of_ne hne).mpr (hs x (by simp [hx]))
def R1 (n : Nat) : List Int := (List.range n).map fun (i : Nat) => (i : Int) + 1
theorem mem_R1 {n : Nat} {x : Int} : x ∈ R1 n ↔ 1 ≤ x ∧ x ≤ n := by
  simp only [R1, List.mem_map, List.mem_range]
  constructor
  · rintro ⟨i, hi, rfl⟩; omega
  · rintro ⟨h1, h2⟩; exact ⟨(x - 1).toNat, by omega, by omega⟩
theorem nodup_map_of_inj {f : Int → Int} : ∀ (l : List Int), l.Nodup → (∀ x ∈ l, ∀ y ∈ l, f x = f y → x = y) → (l.map f).Nodup := by
  intro l
  induction l with
  | nil => intro _ _; simp
  | cons a t ih =>
    intro hn hi
    have hn' := List.nodup_cons.mp hn
    rw [List.map_cons, List.nodup_cons]
    refine ⟨?_, ih hn'.2 fun x hx y hy => hi x (by simp [hx]) y (by simp [hy])⟩
    intro hm
    obtain ⟨x, hx, he⟩ := List.mem_map.mp hm
    have := hi x (by simp [hx]) a (by simp) he
    subst this
    exact hn'.1 hx
theorem nodup_R1 (n : Nat) : (R1 n).Nodup := by
  induction n with
  | zero => simp [R1]
  | succ n ih =>
    have e : R1 (n + 1) = R1 n ++ [(n : Int) + 1] := by simp [R1, List.range_succ]
    rw [e, List.nodup_append]
    refine ⟨ih, by simp, ?_⟩
    intro a ha b hb hab
    have := mem_R1.mp ha
    simp at hb
    omega
theorem prod_map_mod (v p : Int) (l : List Int) : prod (l.map fun x => v * x % p) % p = v ^ l.length * prod l % p := by
  induction l with
  | nil => simp [prod]
  | cons a t ih =>
    rw [List.map_cons, prod_cons, prod_cons, List.length_cons, Int.pow_succ, mul_mod_left, ← mul_mod_right, ih, mul_mod_right]
    congr 1
    simp only [Int.mul_assoc, Int.mul_left_comm, Int.mul_comm]
theorem prod_R1_cop {p : Int} (hp : Pr p) : ∀ l : List Int, (∀ x ∈ l, 1 ≤ x ∧ x < p) → ¬ p ∣ prod l := by
  intro l
  induction l with
  | nil =>
    intro _ h
    have := Int.le_of_dvd (by decide) h
    have := hp.1
    simp [prod] at *
    omega
  | cons a t ih =>
    intro h hd
    rw [prod_cons] at hd
    rcases pr_mul hp hd with h1 | h1
    · have := h a (by simp)
      have := Int.le_of_dvd (by omega) h1
      omega
    · exact ih (fun x hx => h x (by simp [hx])) h1
theorem fermat {p v : Int} (hp : Pr p) (hv : ¬ p ∣ v) : p ∣ v ^ (p - 1).toNat - 1 := by
  have hp2 := hp.1
  have hlen : (R1 (p - 1).toNat).length = (p - 1).toNat := by simp [R1]
  have hmem : ∀ x ∈ R1 (p - 1).toNat, 1 ≤ x ∧ x < p := fun x hx => by have := mem_R1.mp hx; omega
  have hperm : prod ((R1 (p - 1).toNat).map fun x => v * x % p) = prod (R1 (p - 1).toNat) := by
    apply prod_sub
    · apply nodup_map_of_inj _ (nodup_R1 _)
      intro x hx y hy he
      have h1 := hmem x hx
      have h2 := hmem y hy
      have hd : p ∣ v * (x - y) := by
        rw [Int.mul_sub]
        apply Int.dvd_of_emod_eq_zero
        rw [← Int.emod_eq_emod_iff_emod_sub_eq_zero]
        exact he
      rcases pr_mul hp hd with h | h
      · exact absurd h hv
      · obtain ⟨c, hc⟩ := h
        have : c = 0 := by
          rcases Int.lt_trichotomy c 0 with h0 | h0 | h0
          · have : p * c ≤ p * (-1) := Int.mul_le_mul_of_nonneg_left (by omega) (by omega)
            omega
          · exact h0
          · have : p * 1 ≤ p * c := Int.mul_le_mul_of_nonneg_left (by omega) (by omega)
            omega
        subst this
        omega
    · simp
    · intro y hy
      obtain ⟨x, hx, rfl⟩ := List.mem_map.mp hy
      have h1 := hmem x hx
      have b := mod_bd (v * x) (m := p) (by omega)
      apply mem_R1.mpr
      have h0 : v * x % p ≠ 0 := by
        intro h
        rcases pr_mul hp (Int.dvd_of_emod_eq_zero h) with h | h
        · exact hv h
        · have := Int.le_of_dvd (by omega) h; omega
      omega
  have h1 := prod_map_mod v p (R1 (p - 1).toNat)
  rw [hperm, hlen] at h1
  have h2 : p ∣ prod (R1 (p - 1).toNat) * (v ^ (p - 1).toNat - 1) := by
    rw [Int.mul_sub, Int.mul_one, Int.mul_comm]
    apply Int.dvd_of_emod_eq_zero
    rw [← Int.emod_eq_emod_iff_emod_sub_eq_zero]
    exact h1.symm
  rcases pr_mul hp h2 with h | h
  · exact absurd h (prod_R1_cop hp _ hmem)
  · exact h

/-! From p to its powers. -/
def geo (a : Int) : Nat → Int
  | 0 => 0
  | n + 1 => geo a n * a + 1
theorem geo_mul (a : Int) (n : Nat) : (a - 1) * geo a n = a ^ n - 1 := by
  induction n with
  | zero => simp [geo]
  | succ n ih =>
    rw [geo, Int.mul_add, ← Int.mul_assoc, ih, Int.pow_succ, Int.sub_mul]
    omega
theorem geo_mod {a p : Int} (h : p ∣ a - 1) (n : Nat) : p ∣ geo a n - n := by
  induction n with
  | zero => simp [geo]
  | succ n ih =>
    have e : geo a (n + 1) - ((n + 1 : Nat) : Int) = geo a n * (a - 1) + (geo a n - n) := by
      rw [geo, Int.mul_sub]; omega
    rw [e]
    exact Int.dvd_add (Int.dvd_mul_of_dvd_right h) ih
theorem pow_one_dvd {m a : Int} (h : m ∣ a - 1) (k : Nat) : m ∣ a ^ k - 1 := by
  rw [← geo_mul]
  exact Int.dvd_mul_of_dvd_left h
theorem lift_pow {p a : Int} {k : Nat} (hp : 2 ≤ p) (h : p ^ (k + 1) ∣ a - 1) : p ^ (k + 2) ∣ a ^ p.toNat - 1 := by
  have h1 : p ∣ a - 1 := Int.dvd_trans (by rw [Int.pow_succ]; exact Int.dvd_mul_left _ _) h
  have h2 := geo_mod h1 p.toNat
  have h3 : p ∣ geo a p.toNat := by
    have : geo a p.toNat = (geo a p.toNat - (p.toNat : Int)) + p := by omega
    rw [this]
    exact Int.dvd_add h2 (Int.dvd_refl _)
  rw [← geo_mul, Int.pow_succ]
  exact Int.mul_dvd_mul h h3
theorem euler_pow {p v : Int} (hp : Pr p) (hv : ¬ p ∣ v) (k : Nat) : p ^ (k + 1) ∣ v ^ (p.toNat ^ k * (p - 1).toNat) - 1 := by
  induction k with
  | zero =>
    have h := fermat hp hv
    rw [Int.pow_succ, Int.pow_zero, Int.one_mul, Nat.pow_zero, Nat.one_mul]
    exact h
  | succ k ih =>
    have := lift_pow hp.1 ih
    rw [← Int.pow_mul] at this
    have e : p.toNat ^ k * (p - 1).toNat * p.toNat = p.toNat ^ (k + 1) * (p - 1).toNat := by
      rw [Nat.pow_succ, Nat.mul_assoc, Nat.mul_comm _ p.toNat, ← Nat.mul_assoc]
    rwa [e] at this

/-! Trial division finds primes. -/
def NoDiv (d n : Int) : Prop := ∀ x, 2 ≤ x → x < d → n % x ≠ 0
theorem noDiv_start (n : Int) : NoDiv 2 n := fun x h1 h2 => by omega
theorem noDiv_skip {d n : Int} (h : NoDiv d n) (hm : n % d ≠ 0) : NoDiv (d + 1) n := fun x h1 h2 => by
  by_cases hx : x = d
  · subst hx; exact hm
  · exact h x h1 (by omega)
theorem vr_dvd {d n : Int} (hd : 2 ≤ d) (hn : 1 ≤ n) : vr d n ∣ n := by
  have := pp_mul hd hn
  exact ⟨pp d n, by rw [Int.mul_comm]; exact this⟩
theorem noDiv_vr {d n : Int} (hd : 2 ≤ d) (hn : 1 ≤ n) (h : NoDiv d n) : NoDiv (d + 1) (vr d n) := fun x h1 h2 hx => by
  by_cases hxd : x = d
  · subst hxd; exact (v_all hd n.toNat n (Nat.le_refl _) hn).2.2 hx
  · exact h x h1 (by omega) (Int.emod_eq_zero_of_dvd (Int.dvd_trans (Int.dvd_of_emod_eq_zero hx) (vr_dvd hd hn)))
theorem pr_div {d n : Int} (hd : 2 ≤ d) (h : NoDiv d n) (hm : n % d = 0) : Pr d := ⟨hd, fun x h1 h2 hx =>
  h x h1 h2 (Int.emod_eq_zero_of_dvd (Int.dvd_trans (Int.dvd_of_emod_eq_zero hx) (Int.dvd_of_emod_eq_zero hm)))⟩
theorem pr_last {d n : Int} (hd : 2 ≤ d) (h : NoDiv d n) (hs : n < d * d) (hn : 1 < n) : Pr n := ⟨by omega, fun x h1 h2 hx => by
  obtain ⟨y, hy⟩ := Int.dvd_of_emod_eq_zero hx
  have hy2 : 2 ≤ y := by
    rcases Int.lt_or_le y 2 with h0 | h0
    · exfalso
      have : x * y ≤ x * 1 := Int.mul_le_mul_of_nonneg_left (by omega) (by omega)
      omega
    · exact h0
  by_cases hxd : x < d
  · exact h x h1 hxd hx
  · by_cases hyd : y < d
    · exact h y hy2 hyd (Int.emod_eq_zero_of_dvd ⟨x, by rw [Int.mul_comm]; exact hy⟩)
    · have : d * d ≤ x * y := Int.mul_le_mul (by omega) (by omega) (by omega) (by omega)
      omega⟩

/-- The product of the prime powers, and the number of units. -/
def prodL (l : List (Int × Int)) : Int := l.foldr (fun x a => x.1 ^ x.2.toNat * a) 1
def phiL (l : List (Int × Int)) : Int := l.foldr (fun x a => x.1 ^ (x.2 - 1).toNat * (x.1 - 1) * a) 1
theorem prodL_cons (x : Int × Int) (l : List (Int × Int)) : prodL (x :: l) = x.1 ^ x.2.toNat * prodL l := rfl
theorem phiL_cons (x : Int × Int) (l : List (Int × Int)) : phiL (x :: l) = x.1 ^ (x.2 - 1).toNat * (x.1 - 1) * phiL l := rfl
/-- All that holds of the list. -/
structure FacOk (n : Int) (l : List (Int × Int)) : Prop where
  pr : ∀ x ∈ l, Pr x.1 ∧ 1 ≤ x.2
  mul : prodL l = n
  phi : 1 ≤ phiL l
  euler : ∀ v, Int.gcd v n = 1 → n ∣ v ^ (phiL l).toNat - 1
theorem gcd_of_dvd {v n d : Int} (h : Int.gcd v n = 1) (hd : d ∣ n) : Int.gcd v d = 1 := by
  have h1 : Int.gcd v d ∣ Int.gcd v n := Int.dvd_gcd (Int.gcd_dvd_left v d) (Int.dvd_trans (Int.gcd_dvd_right v d) hd)
  rw [h] at h1
  exact Nat.dvd_one.mp h1
theorem not_dvd_of_gcd {v p : Int} (hp : Pr p) (h : Int.gcd v p = 1) : ¬ p ∣ v := fun hd => by
  have h1 : p.natAbs ∣ Int.gcd v p := Int.dvd_gcd (by rwa [Int.natAbs_dvd]) (by rw [Int.natAbs_dvd]; exact Int.dvd_refl _)
  rw [h] at h1
  have := Nat.dvd_one.mp h1
  have := hp.1
  omega
theorem facOk_one : FacOk 1 [] := ⟨by simp, rfl, by decide, fun v _ => Int.one_dvd _⟩
theorem facOk_cons {p e r : Int} {l : List (Int × Int)} (hp : Pr p) (he : 1 ≤ e) (hpr : ¬ p ∣ r) (h : FacOk r l) : FacOk (p ^ e.toNat * r) ((p, e) :: l) := by
  have hp2 := hp.1
  have hpow : 0 < p ^ (e - 1).toNat := Int.pow_pos (by omega)
  have hpp : 0 < p ^ (e - 1).toNat * (p - 1) := Int.mul_pos hpow (by omega)
  have hphi := h.phi
  refine ⟨?_, ?_, ?_, ?_⟩
  · intro x hx
    rcases List.mem_cons.mp hx with rfl | hx
    · exact ⟨hp, he⟩
    · exact h.pr x hx
  · rw [prodL_cons, h.mul]
  · rw [phiL_cons]
    have : 0 < p ^ (e - 1).toNat * (p - 1) * phiL l := Int.mul_pos hpp (by omega)
    exact this
  · intro v hv
    rw [phiL_cons]
    have hee : e.toNat = (e - 1).toNat + 1 := by omega
    have hcop : Int.gcd (p ^ e.toNat) r = 1 := cop_pow (by rw [Int.gcd_comm]; exact pr_gcd hp hpr) _
    have hvp : Int.gcd v p = 1 := gcd_of_dvd hv (Int.dvd_mul_of_dvd_left (by rw [hee, Int.pow_succ]; exact Int.dvd_mul_left _ _))
    have hvr : Int.gcd v r = 1 := gcd_of_dvd hv (Int.dvd_mul_left _ _)
    have hN : (p ^ (e - 1).toNat * (p - 1) * phiL l).toNat = (p.toNat ^ (e - 1).toNat * (p - 1).toNat) * (phiL l).toNat := by
      have e1 : p ^ (e - 1).toNat * (p - 1) * phiL l = (((p.toNat ^ (e - 1).toNat * (p - 1).toNat) * (phiL l).toNat : Nat) : Int) := by
        rw [Int.natCast_mul, Int.natCast_mul, Int.natCast_pow, Int.toNat_of_nonneg (by omega), Int.toNat_of_nonneg (by omega), Int.toNat_of_nonneg (by omega)]
      rw [e1, Int.toNat_natCast]
    rw [hN]
    apply cop_mul hcop
    · rw [Int.pow_mul]
      apply pow_one_dvd
      rw [hee]
      exact euler_pow hp (not_dvd_of_gcd hp hvp) _
    · rw [Nat.mul_comm, Int.pow_mul]
      exact pow_one_dvd (h.euler v hvr) _
theorem facOk_last {p : Int} (hp : Pr p) : FacOk p [(p, 1)] := by
  have h := facOk_cons (r := 1) (e := 1) hp (by omega) (fun hdv => by have := Int.le_of_dvd (by omega) hdv; have := hp.1; omega) facOk_one
  have e : p ^ (1 : Int).toNat * 1 = p := by
    show p ^ 1 * 1 = p
    rw [Int.pow_succ, Int.pow_zero]; omega
  rwa [e] at h
theorem facOk (k : Nat) : ∀ d n : Int, (n - d).toNat ≤ k → 2 ≤ d → 1 ≤ n → NoDiv d n → FacOk n (facL d n) := by
  induction k with
  | zero =>
    intro d n hk hd hn h
    by_cases hs : d * d ≤ n
    · have := sq_big hd hs; omega
    · by_cases h1 : 1 < n
      · rw [facL_last (by omega) h1]
        exact facOk_last (pr_last hd h (by omega) h1)
      · obtain rfl : n = 1 := by omega
        rw [facL_one hd]; exact facOk_one
  | succ k ih =>
    intro d n hk hd hn h
    by_cases hs : d * d ≤ n
    · have hlt := sq_big hd hs
      by_cases hm : n % d = 0
      · rw [facL_div hd hs hm]
        have hv := vr_bd (p := d) hd hn
        have hr := ih (d + 1) (vr d n) (by omega) (by omega) hv.1 (noDiv_vr hd hn h)
        have hpos := ve_pos hd hn hm
        have hnd : ¬ d ∣ vr d n := fun hdv => (v_all hd n.toNat n (Nat.le_refl _) hn).2.2 (Int.emod_eq_zero_of_dvd hdv)
        have := facOk_cons (e := ve d n) (pr_div hd h hm) (by omega) hnd hr
        have e : d ^ (ve d n).toNat * vr d n = n := (pp_mul hd hn).symm
        rwa [e] at this
      · rw [facL_skip hd hs hm]
        exact ih (d + 1) n (by omega) (by omega) hn (noDiv_skip h hm)
    · by_cases h1 : 1 < n
      · rw [facL_last (by omega) h1]
        exact facOk_last (pr_last hd h (by omega) h1)
      · obtain rfl : n = 1 := by omega
        rw [facL_one hd]; exact facOk_one
theorem fac_ok {n : Int} (hn : 1 ≤ n) : FacOk n (facL 2 n) := facOk _ 2 n (Nat.le_refl _) (by omega) hn (noDiv_start n)
end Go.Proofs.Ytpplojbcjgiabaa.Num
