/- Plain arithmetic without Go: the part of a prime in the list of prime powers. -/
import Derived.Test.YtpplojbcjgiabaaNumH
namespace Go.Proofs.Ytpplojbcjgiabaa.Num

theorem ve_of {q : Int} (hq : 2 ≤ q) (a : Nat) : ∀ n y : Int, 1 ≤ y → ¬ q ∣ y → n = q ^ a * y → ve q n = a := by
  induction a with
  | zero =>
    intro n y hy hd hn
    rw [Int.pow_zero, Int.one_mul] at hn
    subst hn
    have := (v_stop (p := q) hy hq (fun h => hd (Int.dvd_of_emod_eq_zero h))).1
    simpa using this
  | succ a ih =>
    intro n y hy hd hn
    have hpos : 0 < q ^ a * y := Int.mul_pos (Int.pow_pos (by omega)) (by omega)
    have e : n = q * (q ^ a * y) := by rw [hn, Int.pow_succ, Int.mul_comm (q ^ a) q, Int.mul_assoc]
    have h2 : 1 * (q ^ a * y) ≤ q * (q ^ a * y) := Int.mul_le_mul_of_nonneg_right (by omega) (by omega)
    have hm : n % q = 0 := by rw [e]; exact Int.mul_emod_right _ _
    have hdv : n / q = q ^ a * y := by rw [e]; exact Int.mul_ediv_cancel_left _ (by omega)
    have h3 := (v_step (p := q) (n := n) hq (by omega) hm).1
    rw [hdv, ih _ y hy hd rfl] at h3
    omega
theorem pp_of {q n y : Int} {a : Nat} (hq : 2 ≤ q) (hy : 1 ≤ y) (hd : ¬ q ∣ y) (hn : n = q ^ a * y) : pp q n = q ^ a := by
  unfold pp
  rw [ve_of hq a n y hy hd hn, Int.toNat_natCast]
theorem pr_pow {q d : Int} (hq : Pr q) (e : Nat) (h : q ∣ d ^ e) : q ∣ d := by
  induction e with
  | zero =>
    rw [Int.pow_zero] at h
    have := Int.le_of_dvd (by omega) h
    have := hq.1
    omega
  | succ e ih =>
    rw [Int.pow_succ] at h
    rcases pr_mul hq h with h | h
    · exact ih h
    · exact h
theorem pr_eq {q d : Int} (hq : Pr q) (hd : Pr d) (h : q ∣ d) : q = d := by
  have h1 := hq.1
  have h2 := hd.1
  have hle := Int.le_of_dvd (by omega) h
  by_cases e : q = d
  · exact e
  · exact absurd (Int.emod_eq_zero_of_dvd h) (hd.2 q h1 (by omega))

/-- The part of q as the law's loop collects it. -/
def partF (q : Int) (acc : Int) (l : List (Int × Int)) : Int := l.foldl (fun a x => if x.1 = q then x.1 ^ x.2.toNat else a) acc
theorem partF_cons (q acc : Int) (x : Int × Int) (l : List (Int × Int)) : partF q acc (x :: l) = partF q (if x.1 = q then x.1 ^ x.2.toNat else acc) l := rfl
theorem partF_snoc (q acc : Int) (x : Int × Int) (l : List (Int × Int)) : partF q acc (l ++ [x]) = if x.1 = q then x.1 ^ x.2.toNat else partF q acc l := by
  simp [partF, List.foldl_append]
theorem partF_fac {q : Int} (hq : Pr q) (k : Nat) : ∀ d n acc : Int, (n - d).toNat ≤ k → 2 ≤ d → 1 ≤ n → NoDiv d n →
    (q ∣ n → partF q acc (facL d n) = pp q n) ∧ (¬ q ∣ n → partF q acc (facL d n) = acc) := by
  have hq2 := hq.1
  have one : ∀ d acc : Int, 2 ≤ d → (q ∣ 1 → partF q acc (facL d 1) = pp q 1) ∧ (¬ q ∣ 1 → partF q acc (facL d 1) = acc) := by
    intro d acc hd
    rw [facL_one hd]
    refine ⟨fun h => ?_, fun _ => rfl⟩
    have := Int.le_of_dvd (by omega) h
    omega
  have last : ∀ d n acc : Int, 2 ≤ d → 1 < n → n < d * d → NoDiv d n → (q ∣ n → partF q acc (facL d n) = pp q n) ∧ (¬ q ∣ n → partF q acc (facL d n) = acc) := by
    intro d n acc hd h1 hs h
    have hp := pr_last hd h hs h1
    rw [facL_last hs h1, partF_cons]
    refine ⟨fun hdv => ?_, fun hdv => ?_⟩
    · have e := pr_eq hq hp hdv
      rw [if_pos e.symm]
      subst e
      show q ^ 1 = pp q q
      rw [pp_of (a := 1) (y := 1) hq2 (by omega) (fun hh => by have := Int.le_of_dvd (by omega) hh; omega) (by rw [Int.pow_succ, Int.pow_zero]; omega)]
    · rw [if_neg (fun (e : n = q) => hdv (by rw [e]; exact Int.dvd_refl _))]
      rfl
  induction k with
  | zero =>
    intro d n acc hk hd hn h
    by_cases hs : d * d ≤ n
    · have := sq_big hd hs; omega
    · by_cases h1 : 1 < n
      · exact last d n acc hd h1 (by omega) h
      · obtain rfl : n = 1 := by omega
        exact one d acc hd
  | succ k ih =>
    intro d n acc hk hd hn h
    by_cases hs : d * d ≤ n
    · have hlt := sq_big hd hs
      by_cases hm : n % d = 0
      · have hv := vr_bd (p := d) hd hn
        have hdp := pr_div hd h hm
        have hnd : ¬ d ∣ vr d n := fun hdv => (v_all hd n.toNat n (Nat.le_refl _) hn).2.2 (Int.emod_eq_zero_of_dvd hdv)
        have e : n = d ^ (ve d n).toNat * vr d n := pp_mul hd hn
        obtain ⟨i1, i2⟩ := ih (d + 1) (vr d n) (if d = q then d ^ (ve d n).toNat else acc) (by omega) (by omega) hv.1 (noDiv_vr hd hn h)
        rw [facL_div hd hs hm, partF_cons]
        show (q ∣ n → partF q (if d = q then d ^ (ve d n).toNat else acc) (facL (d + 1) (vr d n)) = pp q n) ∧ (¬ q ∣ n → partF q (if d = q then d ^ (ve d n).toNat else acc) (facL (d + 1) (vr d n)) = acc)
        by_cases hdq : d = q
        · subst hdq
          rw [if_pos rfl] at i2 ⊢
          refine ⟨fun _ => i2 hnd, fun hdv => absurd (Int.dvd_of_emod_eq_zero hm) hdv⟩
        · rw [if_neg hdq] at i1 i2 ⊢
          have hqd : ¬ q ∣ d ^ (ve d n).toNat := fun hh => hdq (pr_eq hq hdp (pr_pow hq _ hh)).symm
          have hiff : q ∣ n ↔ q ∣ vr d n := by
            constructor
            · intro hh
              rw [e] at hh
              rcases pr_mul hq hh with h1 | h1
              · exact absurd h1 hqd
              · exact h1
            · intro hh
              exact Int.dvd_trans hh (vr_dvd hd hn)
          refine ⟨fun hdv => ?_, fun hdv => i2 (fun hh => hdv (hiff.mpr hh))⟩
          rw [i1 (hiff.mp hdv)]
          have hb := pp_mul (p := q) hq2 hv.1
          have hvq := vr_bd (p := q) hq2 hv.1
          have hnq : ¬ q ∣ vr q (vr d n) := fun hh => (v_all hq2 (vr d n).toNat (vr d n) (Nat.le_refl _) hv.1).2.2 (Int.emod_eq_zero_of_dvd hh)
          have hpos : 0 < d ^ (ve d n).toNat := Int.pow_pos (by omega)
          have h3 : 0 < d ^ (ve d n).toNat * vr q (vr d n) := Int.mul_pos hpos (by omega)
          refine (pp_of (a := (ve q (vr d n)).toNat) (y := d ^ (ve d n).toNat * vr q (vr d n)) hq2 (by omega) (fun hh => ?_) ?_).symm
          · rcases pr_mul hq hh with h1 | h1
            · exact hqd h1
            · exact hnq h1
          · have hb' : vr d n = q ^ (ve q (vr d n)).toNat * vr q (vr d n) := hb
            rw [Int.mul_left_comm, ← hb', ← e]
      · rw [facL_skip hd hs hm]
        exact ih (d + 1) n acc (by omega) (by omega) hn (noDiv_skip h hm)
    · by_cases h1 : 1 < n
      · exact last d n acc hd h1 (by omega) h
      · obtain rfl : n = 1 := by omega
        exact one d acc hd
theorem partF_is {q n : Int} (hq : Pr q) (hn : 1 ≤ n) : partF q 1 (facL 2 n) = pp q n := by
  obtain ⟨h1, h2⟩ := partF_fac hq _ 2 n 1 (Nat.le_refl _) (by omega) hn (noDiv_start n)
  by_cases h : q ∣ n
  · exact h1 h
  · rw [h2 h, pp_stop hq.1 hn (fun hh => h (Int.dvd_of_emod_eq_zero hh))]
theorem pr_gp {q : Int} (h : gp q = true) : Pr q := by
  rcases gp_yes h with rfl | rfl | rfl | rfl
  · exact ⟨by omega, fun x h1 h2 => by omega⟩
  · exact ⟨by omega, fun x h1 h2 => (by
      have hx : x = 2 := by omega
      subst hx
      decide)⟩
  · refine ⟨by omega, fun x h1 h2 => ?_⟩
    have : x = 2 ∨ x = 3 ∨ x = 4 := by omega
    rcases this with rfl | rfl | rfl <;> decide
  · refine ⟨by omega, fun x h1 h2 => ?_⟩
    have : x = 2 ∨ x = 3 ∨ x = 4 ∨ x = 5 ∨ x = 6 := by omega
    rcases this with rfl | rfl | rfl | rfl | rfl <;> decide

/-- The products that the law makes stay below the number. -/
theorem prodL_append (a b : List (Int × Int)) : prodL (a ++ b) = prodL a * prodL b := by
  induction a with
  | nil => simp [prodL]
  | cons x t ih => rw [List.cons_append, prodL_cons, prodL_cons, ih]; simp only [Int.mul_assoc]
theorem prodL_pos (l : List (Int × Int)) (h : ∀ x ∈ l, Pr x.1 ∧ 1 ≤ x.2) : 1 ≤ prodL l := by
  induction l with
  | nil => simp [prodL]
  | cons x t ih =>
    rw [prodL_cons]
    have h1 := ih (fun y hy => h y (by simp [hy]))
    have h2 : 0 < x.1 ^ x.2.toNat := Int.pow_pos (by have := (h x (by simp)).1.1; omega)
    have := Int.mul_pos h2 (by omega : 0 < prodL t)
    omega
theorem lt_pow {p : Int} (hp : 2 ≤ p) (k : Nat) : (k : Int) < p ^ k := by
  induction k with
  | zero => rw [Int.pow_zero]; decide
  | succ k ih =>
    rw [Int.pow_succ]
    have h1 : p ^ k * 2 ≤ p ^ k * p := Int.mul_le_mul_of_nonneg_left hp (by omega)
    omega
theorem not_million {p : Int} {k : Nat} (hp : Pr p) : p ^ k ≠ 1000000 := fun h => by
  have h2 : (2 : Int) = p := pr_eq (pr_gp (by decide)) hp (pr_pow (pr_gp (by decide)) k (by rw [h]; decide))
  have h5 : (5 : Int) = p := pr_eq (pr_gp (by decide)) hp (pr_pow (pr_gp (by decide)) k (by rw [h]; decide))
  omega
/-- At index i: the prime, its exponent, the product so far and behind it. -/
theorem at_index {n : Int} (hn : 1 ≤ n) {i : Nat} (hi : i < (facP 2 n).length) :
    ∃ p e : Int, (facP 2 n).getD i 0 = p ∧ (facE 2 n).getD i 0 = e ∧ 2 ≤ p ∧ 1 ≤ e ∧ e ≤ n ∧ 1 ≤ p ^ e.toNat ∧ p ^ e.toNat ≤ n ∧ p ^ e.toNat ≠ 1000000 ∧
      prodL ((facL 2 n).take (i + 1)) = prodL ((facL 2 n).take i) * p ^ e.toNat ∧ 1 ≤ prodL ((facL 2 n).take i) ∧ prodL ((facL 2 n).take i) ≤ n ∧ prodL ((facL 2 n).take i) * p ^ e.toNat ≤ n ∧
      ∀ q acc, partF q acc ((facL 2 n).take (i + 1)) = if p = q then p ^ e.toNat else partF q acc ((facL 2 n).take i) := by
  have hok := fac_ok hn
  have hl : i < (facL 2 n).length := by simpa [facP] using hi
  have hsplit : facL 2 n = (facL 2 n).take i ++ ((facL 2 n)[i] :: (facL 2 n).drop (i + 1)) := by
    rw [← List.drop_eq_getElem_cons hl, List.take_append_drop]
  have hx := hok.pr _ (List.getElem_mem hl)
  have hp := hx.1.1
  have htk := List.take_succ_eq_append_getElem hl
  have e1 : (facP 2 n).getD i 0 = ((facL 2 n)[i]).1 := by simp [facP, hl]
  have e2 : (facE 2 n).getD i 0 = ((facL 2 n)[i]).2 := by simp [facE, hl]
  have hm := hok.mul
  rw [hsplit, prodL_append, prodL_cons] at hm
  have t1 := prodL_pos ((facL 2 n).take i) (fun x hx => hok.pr x (List.mem_of_mem_take hx))
  have t2 := prodL_pos ((facL 2 n).drop (i + 1)) (fun x hx => hok.pr x (List.mem_of_mem_drop hx))
  rw [htk]
  generalize (facL 2 n)[i] = x at *
  have t3 : 0 < x.1 ^ x.2.toNat := Int.pow_pos (by omega)
  have t4 := lt_pow hp x.2.toNat
  have a1 : prodL ((facL 2 n).take i) * x.1 ^ x.2.toNat * 1 ≤ prodL ((facL 2 n).take i) * x.1 ^ x.2.toNat * prodL ((facL 2 n).drop (i + 1)) := Int.mul_le_mul_of_nonneg_left t2 (Int.le_of_lt (Int.mul_pos (by omega) t3))
  have hm' : prodL ((facL 2 n).take i) * x.1 ^ x.2.toNat * prodL ((facL 2 n).drop (i + 1)) = n := by rw [Int.mul_assoc]; exact hm
  rw [hm', Int.mul_one] at a1
  have a2 : 1 * x.1 ^ x.2.toNat ≤ prodL ((facL 2 n).take i) * x.1 ^ x.2.toNat := Int.mul_le_mul_of_nonneg_right t1 (by omega)
  have a3 : prodL ((facL 2 n).take i) * 1 ≤ prodL ((facL 2 n).take i) * x.1 ^ x.2.toNat := Int.mul_le_mul_of_nonneg_left (by omega) (by omega)
  have hone : prodL [x] = x.1 ^ x.2.toNat := by simp [prodL]
  refine ⟨x.1, x.2, e1, e2, hp, hx.2, by omega, by omega, by omega, not_million hx.1, by rw [prodL_append, hone], t1, by omega, by omega, fun q acc => partF_snoc q acc x _⟩

/-- The group primes in their order, and the parts that the law has collected. -/
def grp (j : Nat) : Int := ([2, 3, 5, 7] : List Int).getD j 0
theorem gp_grp {j : Nat} (h : j < 4) : gp (grp j) = true := by
  have : j = 0 ∨ j = 1 ∨ j = 2 ∨ j = 3 := by omega
  rcases this with rfl | rfl | rfl | rfl <;> decide
/-- The first k parts are those behind index i, the others those before it. -/
def MixAt (n : Int) (i k : Nat) (ls : List Int) : Prop := ls.length = 4 ∧ ∀ j, j < 4 → ls.getD j 0 = partF (grp j) 1 ((facL 2 n).take (if j < k then i + 1 else i))
theorem mix_start (n : Int) : MixAt n 0 0 [1, 1, 1, 1] := by
  refine ⟨rfl, fun j hj => ?_⟩
  have : j = 0 ∨ j = 1 ∨ j = 2 ∨ j = 3 := by omega
  rcases this with rfl | rfl | rfl | rfl <;> rfl
theorem mix_hit {n p P : Int} {i k : Nat} {ls : List Int} (h : MixAt n i k ls) (hk : k < 4) (hp : grp k = p)
    (hs : ∀ q acc, partF q acc ((facL 2 n).take (i + 1)) = if p = q then P else partF q acc ((facL 2 n).take i)) : MixAt n i (k + 1) (ls.set k P) := by
  obtain ⟨h1, h2⟩ := h
  refine ⟨by simpa using h1, fun j hj => ?_⟩
  by_cases hjk : j = k
  · subst hjk
    rw [if_pos (by omega), hs, if_pos hp.symm]
    simp [List.getD_eq_getElem?_getD, h1, hk]
  · have h3 := h2 j hj
    have e : (if j < k + 1 then i + 1 else i) = (if j < k then i + 1 else i) := by
      by_cases hlt : j < k
      · rw [if_pos hlt, if_pos (by omega)]
      · rw [if_neg hlt, if_neg (by omega)]
    rw [e, ← h3, List.getD_eq_getElem?_getD, List.getElem?_set_ne (by omega), ← List.getD_eq_getElem?_getD]
theorem mix_miss {n p P : Int} {i k : Nat} {ls : List Int} (h : MixAt n i k ls) (hk : k < 4) (hp : grp k ≠ p)
    (hs : ∀ q acc, partF q acc ((facL 2 n).take (i + 1)) = if p = q then P else partF q acc ((facL 2 n).take i)) : MixAt n i (k + 1) ls := by
  obtain ⟨h1, h2⟩ := h
  refine ⟨h1, fun j hj => ?_⟩
  rw [h2 j hj]
  by_cases hjk : j = k
  · subst hjk
    rw [if_neg (by omega), if_pos (by omega), hs, if_neg (fun e => hp e.symm)]
  · by_cases hlt : j < k
    · rw [if_pos hlt, if_pos (by omega)]
    · rw [if_neg hlt, if_neg (by omega)]
theorem mix_next {n : Int} {i : Nat} {ls : List Int} (h : MixAt n i 4 ls) : MixAt n (i + 1) 0 ls := by
  obtain ⟨h1, h2⟩ := h
  refine ⟨h1, fun j hj => ?_⟩
  rw [h2 j hj, if_pos hj, if_neg (by omega)]
theorem mix_end {n : Int} {i : Nat} {ls : List Int} (hn : 1 ≤ n) (h : MixAt n i 0 ls) (hi : (facP 2 n).length ≤ i) : ∀ j, j < 4 → ls.getD j 0 = pp (grp j) n := by
  intro j hj
  have hl : (facL 2 n).length ≤ i := by simpa [facP] using hi
  rw [h.2 j hj, if_neg (by omega), List.take_of_length_le hl, partF_is (pr_gp (gp_grp hj)) hn]
theorem prodL_end {n : Int} {i : Nat} (hn : 1 ≤ n) (hi : (facP 2 n).length ≤ i) : prodL ((facL 2 n).take i) = n := by
  have hl : (facL 2 n).length ≤ i := by simpa [facP] using hi
  rw [List.take_of_length_le hl, (fac_ok hn).mul]
end Go.Proofs.Ytpplojbcjgiabaa.Num
