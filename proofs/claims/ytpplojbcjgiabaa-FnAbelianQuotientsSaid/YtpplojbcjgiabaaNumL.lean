/- Plain arithmetic without Go: the primary parts of a list of factors, in the order of their primes. -/
import Derived.Test.YtpplojbcjgiabaaNumP
import Derived.Test.YtpplojbcjgiabaaNumJ
import Derived.Test.YtpplojbcjgiabaaNumK
namespace Go.Proofs.Ytpplojbcjgiabaa.Num
open List (Perm)

/-- Primes of trial division come in ascending order. -/
theorem facP_asc (k : Nat) : ∀ d n : Int, (n - d).toNat ≤ k → 2 ≤ d → 1 ≤ n → NoDiv d n → (facP d n).Pairwise (· < ·) ∧ ∀ x ∈ facP d n, d ≤ x := by
  induction k with
  | zero =>
    intro d n hk hd hn h
    have hs : ¬ (d * d ≤ n) := fun hs => by have := sq_big hd hs; omega
    by_cases h1 : 1 < n
    · rw [facP, facL_last (by omega) h1]
      refine ⟨by simp, fun x hx => ?_⟩
      simp at hx
      subst hx
      by_cases hlt : x < d
      · exact absurd Int.emod_self (h x (by omega) hlt)
      · omega
    · obtain rfl : n = 1 := by omega
      rw [facP, facL_one hd]
      simp
  | succ k ih =>
    intro d n hk hd hn h
    by_cases hs : d * d ≤ n
    · have hb := sq_big hd hs
      by_cases hm : n % d = 0
      · have hv := vr_bd (p := d) hd hn
        obtain ⟨i1, i2⟩ := ih (d + 1) (vr d n) (by omega) (by omega) hv.1 (noDiv_vr hd hn h)
        rw [facP, facL_div hd hs hm]
        simp only [List.map_cons, List.pairwise_cons]
        refine ⟨⟨fun x hx => ?_, i1⟩, fun x hx => ?_⟩
        · have := i2 x hx; omega
        · rcases List.mem_cons.mp hx with rfl | hx
          · exact Int.le_refl _
          · have := i2 x hx; omega
      · obtain ⟨i1, i2⟩ := ih (d + 1) n (by omega) (by omega) hn (noDiv_skip h hm)
        rw [facP, facL_skip hd hs hm]
        exact ⟨i1, fun x hx => by have := i2 x hx; omega⟩
    · by_cases h1 : 1 < n
      · rw [facP, facL_last (by omega) h1]
        refine ⟨by simp, fun x hx => ?_⟩
        simp at hx
        subst hx
        by_cases hlt : x < d
        · exact absurd Int.emod_self (h x (by omega) hlt)
        · omega
      · obtain rfl : n = 1 := by omega
        rw [facP, facL_one hd]
        simp
theorem facP_up {n : Int} (hn : 1 ≤ n) : (facP 2 n).Pairwise (· < ·) := (facP_asc _ 2 n (Nat.le_refl _) (by omega) hn (noDiv_start n)).1
theorem dvd_prod {l : List (Int × Int)} {x : Int × Int} (h : x ∈ l) (he : 1 ≤ x.2) : x.1 ∣ prodL l := by
  induction l with
  | nil => simp at h
  | cons y t ih =>
    rw [prodL_cons]
    rcases List.mem_cons.mp h with rfl | h
    · refine Int.dvd_mul_of_dvd_left ?_
      have : x.2.toNat = (x.2.toNat - 1) + 1 := by omega
      rw [this, Int.pow_succ]
      exact Int.dvd_mul_left _ _
    · exact Int.dvd_mul_of_dvd_right (ih h)
theorem pr_in {q : Int} (hq : Pr q) : ∀ {l : List (Int × Int)}, (∀ x ∈ l, Pr x.1 ∧ 1 ≤ x.2) → q ∣ prodL l → ∃ x ∈ l, x.1 = q
  | [], _, h => by
    have := Int.le_of_dvd (by decide) h
    have := hq.1
    simp [prodL] at *
    omega
  | y :: t, hl, h => by
    rw [prodL_cons] at h
    rcases pr_mul hq h with h | h
    · exact ⟨y, by simp, (pr_eq hq (hl y (by simp)).1 (pr_pow hq _ h)).symm⟩
    · obtain ⟨x, hx, e⟩ := pr_in hq (fun x hx => hl x (by simp [hx])) h
      exact ⟨x, by simp [hx], e⟩
/-- The primes of a number are those that divide it. -/
theorem mem_facP {n p : Int} (hn : 1 ≤ n) : p ∈ facP 2 n ↔ Pr p ∧ p ∣ n := by
  have h := fac_ok hn
  constructor
  · intro hp
    obtain ⟨x, hx, rfl⟩ := List.mem_map.mp hp
    exact ⟨(h.pr x hx).1, by have := dvd_prod hx (h.pr x hx).2; rwa [h.mul] at this⟩
  · intro ⟨h1, h2⟩
    rw [← h.mul] at h2
    obtain ⟨x, hx, rfl⟩ := pr_in h1 h.pr h2
    exact List.mem_map.mpr ⟨x, hx, rfl⟩
/-- Lists in strictly ascending order with the same members are equal. -/
theorem asc_ext : ∀ {l m : List Int}, l.Pairwise (· < ·) → m.Pairwise (· < ·) → (∀ x, x ∈ l ↔ x ∈ m) → l = m := by
  intro l m hl hm h
  have n1 : l.Nodup := hl.imp fun h e => by omega
  have n2 : m.Nodup := hm.imp fun h e => by omega
  have hp : l.Perm m := (List.perm_ext_iff_of_nodup n1 n2).mpr h
  exact hp.eq_of_pairwise (le := (· < ·)) (fun a b _ _ h1 h2 => by omega) hl hm
/-- The primes of a divisor. -/
theorem facP_filter {N f : Int} (hN : 1 ≤ N) (hf : 1 ≤ f) (hd : f ∣ N) : (facP 2 N).filter (fun p => decide (f % p = 0)) = facP 2 f := by
  refine asc_ext (List.Pairwise.filter _ (facP_up hN)) (facP_up hf) fun x => ?_
  rw [List.mem_filter, mem_facP hN, mem_facP hf, decide_eq_true_eq]
  constructor
  · intro ⟨⟨h1, h2⟩, h3⟩
    exact ⟨h1, Int.dvd_of_emod_eq_zero h3⟩
  · intro ⟨h1, h2⟩
    exact ⟨⟨h1, Int.dvd_trans h2 hd⟩, Int.emod_eq_zero_of_dvd h2⟩
theorem pr_not_pow {q d : Int} (hq : Pr q) (hd : Pr d) (hne : q ≠ d) (e : Nat) : ¬ q ∣ d ^ e := fun h => hne (pr_eq hq hd (pr_pow hq e h))
theorem pp_times {q d r : Int} {e : Nat} (hq : Pr q) (hd : Pr d) (hne : q ≠ d) (hr : 1 ≤ r) : pp q (d ^ e * r) = pp q r := by
  have hv := v_all hq.1 r.toNat r (Nat.le_refl _) hr
  have hdp : 0 < d ^ e := Int.pow_pos (by have := hd.1; omega)
  have hy : 0 < d ^ e * vr q r := Int.mul_pos hdp (by omega)
  have h := pp_of (q := q) (n := d ^ e * r) (y := d ^ e * vr q r) (a := (ve q r).toNat) hq.1 (by omega)
    (fun h => by
      rcases pr_mul hq h with h | h
      · exact pr_not_pow hq hd hne e h
      · exact hv.2.2 (Int.emod_eq_zero_of_dvd h))
    (by
      have e1 : r = q ^ (ve q r).toNat * vr q r := hv.1
      have e2 : d ^ e * r = d ^ e * (q ^ (ve q r).toNat * vr q r) := by rw [← e1]
      rw [e2, Int.mul_left_comm])
  rw [h]
  rfl
theorem facL_pp (k : Nat) : ∀ d n : Int, (n - d).toNat ≤ k → 2 ≤ d → 1 ≤ n → NoDiv d n → ∀ x ∈ facL d n, x.1 ^ x.2.toNat = pp x.1 n := by
  have last : ∀ d n : Int, 2 ≤ d → 1 < n → NoDiv d n → ¬ d * d ≤ n → ∀ x ∈ facL d n, x.1 ^ x.2.toNat = pp x.1 n := by
    intro d n hd h1 h hs x hx
    rw [facL_last (by omega) h1] at hx
    simp at hx
    subst hx
    have := (v_self h1).1
    unfold pp
    rw [this]
  induction k with
  | zero =>
    intro d n hk hd hn h
    have hs : ¬ (d * d ≤ n) := fun hs => by have := sq_big hd hs; omega
    by_cases h1 : 1 < n
    · exact last d n hd h1 h hs
    · obtain rfl : n = 1 := by omega
      rw [facL_one hd]; simp
  | succ k ih =>
    intro d n hk hd hn h
    by_cases hs : d * d ≤ n
    · have hb := sq_big hd hs
      by_cases hm : n % d = 0
      · have hv := vr_bd (p := d) hd hn
        have hpd := pr_div hd h hm
        have hr := facOk _ (d + 1) (vr d n) (Nat.le_refl _) (by omega) hv.1 (noDiv_vr hd hn h)
        have hb2 := (facP_asc _ (d + 1) (vr d n) (Nat.le_refl _) (by omega) hv.1 (noDiv_vr hd hn h)).2
        rw [facL_div hd hs hm]
        intro x hx
        rcases List.mem_cons.mp hx with rfl | hx
        · rfl
        · rw [ih (d + 1) (vr d n) (by omega) (by omega) hv.1 (noDiv_vr hd hn h) x hx]
          have hx1 := hb2 x.1 (List.mem_map.mpr ⟨x, hx, rfl⟩)
          have e := pp_mul (p := d) (n := n) hd hn
          have := pp_times (q := x.1) (d := d) (r := vr d n) (e := (ve d n).toNat) (hr.pr x hx).1 hpd (by omega) hv.1
          rw [← this]
          exact congrArg (pp x.1) e.symm
      · rw [facL_skip hd hs hm]
        exact ih (d + 1) n (by omega) (by omega) hn (noDiv_skip h hm)
    · by_cases h1 : 1 < n
      · exact last d n hd h1 h hs
      · obtain rfl : n = 1 := by omega
        rw [facL_one hd]; simp
/-- The prime powers of a number, in the order of trial division. -/
def ppart (f : Int) : List Int := (facL 2 f).map fun x => x.1 ^ x.2.toNat
theorem ppart_eq {N f : Int} (hN : 1 ≤ N) (hf : 1 ≤ f) (hd : f ∣ N) : ppart f = ((facP 2 N).filter (fun p => decide (f % p = 0))).map (fun p => pp p f) := by
  rw [facP_filter hN hf hd, facP, List.map_map]
  exact List.map_congr_left fun x hx => facL_pp _ 2 f (Nat.le_refl _) (by omega) hf (noDiv_start f) x hx
/-- The parts that the program makes: a prime, then a factor. -/
def partOf (F : List Int) (p : Int) : List Int := (F.filter (fun f => decide (f % p = 0))).map (fun f => pp p f)
def partsL (N : Int) (F : List Int) : List Int := (facP 2 N).flatMap (partOf F)
theorem flat_split {α β : Type} (f g : α → List β) : ∀ (l : List α), (l.flatMap fun a => f a ++ g a).Perm (l.flatMap f ++ l.flatMap g)
  | [] => by simp
  | a :: t => by
    simp only [List.flatMap_cons]
    refine ((flat_split f g t).append_left _).trans ?_
    rw [List.append_assoc, List.append_assoc]
    refine List.Perm.append_left _ ?_
    rw [← List.append_assoc, ← List.append_assoc]
    exact List.Perm.append_right _ List.perm_append_comm
theorem partsL_perm {N : Int} (hN : 1 ≤ N) : ∀ (F : List Int), (∀ f ∈ F, 1 ≤ f ∧ f ∣ N) → (partsL N F).Perm (F.flatMap ppart)
  | [], _ => by simp [partsL, partOf]
  | f :: t, h => by
    have h1 := h f (by simp)
    have ih := partsL_perm hN t fun x hx => h x (by simp [hx])
    have e : partsL N (f :: t) = (facP 2 N).flatMap fun p => (if f % p = 0 then [pp p f] else []) ++ partOf t p := by
      unfold partsL
      congr 1
      funext p
      unfold partOf
      by_cases hp : f % p = 0
      · rw [List.filter_cons_of_pos (by simpa using hp), if_pos hp]; rfl
      · rw [List.filter_cons_of_neg (by simpa using hp), if_neg hp]; rfl
    have e2 : ((facP 2 N).flatMap fun p => if f % p = 0 then [pp p f] else []) = ppart f := by
      rw [ppart_eq hN h1.1 h1.2]
      generalize facP 2 N = ps
      induction ps with
      | nil => rfl
      | cons p ps ihp =>
        simp only [List.flatMap_cons]
        by_cases hp : f % p = 0
        · rw [List.filter_cons_of_pos (by simpa using hp), if_pos hp, ihp]; rfl
        · rw [List.filter_cons_of_neg (by simpa using hp), if_neg hp, ihp]; rfl
    rw [e]
    refine (flat_split _ _ _).trans ?_
    rw [e2, List.flatMap_cons]
    exact List.Perm.append_left _ ih
/-- The base of the power of a prime. -/
theorem baseN_ppow {p : Int} (hp : Pr p) {e : Nat} (he : 1 ≤ e) : baseN (p ^ e) = p := by
  have hp2 := hp.1
  have hpos : 0 < p ^ e := Int.pow_pos (by omega)
  have hpe : p ^ e = p ^ (e - 1) * p := by rw [← Int.pow_succ]; congr 1; omega
  have hpos1 : 0 < p ^ (e - 1) := Int.pow_pos (by omega)
  have hge : p ≤ p ^ e := by
    rw [hpe]
    have := Int.mul_le_mul_of_nonneg_right (show 1 ≤ p ^ (e - 1) by omega) (show 0 ≤ p by omega)
    omega
  have hf := facP_one (n := p ^ e) (by omega)
  have hm : facP 2 (p ^ e) = [p] := by
    refine asc_ext (facP_up (by omega)) (by simp) fun x => ?_
    rw [mem_facP (by omega)]
    simp only [List.mem_singleton]
    constructor
    · intro ⟨h1, h2⟩
      exact pr_eq h1 hp (pr_pow h1 e h2)
    · rintro rfl
      exact ⟨hp, by rw [hpe]; exact Int.dvd_mul_left _ _⟩
  have hne := hf.mp (by rw [hm]; rfl)
  have hs := (leastD_spec _ 2 (p ^ e) (Nat.le_refl _) (by omega) (by omega)).2
  have hq := leastD_ge (n := p ^ e) (by omega)
  generalize p ^ e = n at *
  rw [facP] at hm
  by_cases h2 : leastD 2 n * leastD 2 n ≤ n
  · by_cases h3 : 1 < vr (leastD 2 n) n
    · exact absurd (baseN_none (by omega) h2 h3) hne
    · rw [baseN_pow (by omega) h2 h3]
      rw [hs, if_pos h2] at hm
      simp at hm
      exact hm.1
  · rw [baseN_self (by omega) (by omega)]
    rw [hs, if_neg h2] at hm
    simpa using hm
/-- The order of prime powers. -/
def befP (a b : Int) : Prop := baseN a < baseN b ∨ baseN a = baseN b ∧ a < b
instance (a b : Int) : Decidable (befP a b) := by unfold befP; infer_instance
def leP (a b : Int) : Prop := ¬ befP b a
theorem leP_anti {a b : Int} (h1 : leP a b) (h2 : leP b a) : a = b := by
  unfold leP befP at h1 h2
  omega
theorem sortP_unique {S T : List Int} (hp : S.Perm T) (hS : S.Pairwise leP) (hT : T.Pairwise leP) : S = T :=
  hp.eq_of_pairwise (le := leP) (fun _ _ _ _ h1 h2 => leP_anti h1 h2) hS hT
theorem mod_dvd {f p : Int} (h : decide (f % p = 0) = true) : p ∣ f := Int.dvd_of_emod_eq_zero (of_decide_eq_true h)
theorem pp_mono {p a b : Int} (hp : Pr p) (ha : 1 ≤ a) (hb : 1 ≤ b) (h : a ∣ b) : pp p a ≤ pp p b := by
  have h1 := v_all hp.1 a.toNat a (Nat.le_refl _) ha
  have h2 := v_all hp.1 b.toNat b (Nat.le_refl _) hb
  have hd : pp p a ∣ pp p b * vr p b := by rw [← h2.1]; exact Int.dvd_trans ⟨vr p a, h1.1⟩ h
  have hc : Int.gcd (pp p a) (vr p b) = 1 := cop_pow (by rw [Int.gcd_comm]; exact pr_gcd hp (fun h => h2.2.2 (Int.emod_eq_zero_of_dvd h))) _
  have hd' : pp p a ∣ pp p b := cop_dvd (a := vr p b) (by rw [Int.gcd_comm]; exact hc) (by rw [Int.mul_comm]; exact hd)
  exact Int.le_of_dvd (by have := (pp_bd hp.1 hb).1; omega) hd'
theorem base_pp {p f : Int} (hp : Pr p) (hf : 1 ≤ f) (hd : f % p = 0) : baseN (pp p f) = p :=
  baseN_ppow hp (by have := ve_pos hp.1 hf hd; omega)
theorem partsL_sorted {N : Int} (hN : 1 ≤ N) {F : List Int} (hF : ∀ f ∈ F, 1 ≤ f) (hc : F.Pairwise (· ∣ ·)) : (partsL N F).Pairwise leP := by
  unfold partsL
  rw [List.pairwise_flatMap]
  constructor
  · intro p hp
    have hpr := ((mem_facP hN).mp hp).1
    unfold partOf
    rw [List.pairwise_map]
    have h1 : (F.filter fun f => decide (f % p = 0)).Pairwise (fun a b => a ∣ b) := List.Pairwise.filter _ hc
    refine h1.imp_of_mem ?_
    intro a b ha hb hab
    have ma := List.mem_filter.mp ha
    have mb := List.mem_filter.mp hb
    have e1 := base_pp hpr (hF a ma.1) (of_decide_eq_true ma.2)
    have e2 := base_pp hpr (hF b mb.1) (of_decide_eq_true mb.2)
    have := pp_mono hpr (hF a ma.1) (hF b mb.1) hab
    unfold leP befP
    omega
  · refine (facP_up hN).imp_of_mem ?_
    intro p q hp hq hpq x hx y hy
    have hpr := ((mem_facP hN).mp hp).1
    have hqr := ((mem_facP hN).mp hq).1
    unfold partOf at hx hy
    obtain ⟨a, ha, rfl⟩ := List.mem_map.mp hx
    obtain ⟨b, hb, rfl⟩ := List.mem_map.mp hy
    have ma := List.mem_filter.mp ha
    have mb := List.mem_filter.mp hb
    have e1 := base_pp hpr (hF a ma.1) (of_decide_eq_true ma.2)
    have e2 := base_pp hqr (hF b mb.1) (of_decide_eq_true mb.2)
    unfold leP befP
    omega
/-- A sorted list of the parts of the factors is the program's list. -/
theorem partsL_is {N : Int} (hN : 1 ≤ N) {F S : List Int} (hF : ∀ f ∈ F, 1 ≤ f ∧ f ∣ N) (hc : F.Pairwise (· ∣ ·)) (hp : S.Perm (F.flatMap ppart)) (hS : S.Pairwise leP) : S = partsL N F :=
  sortP_unique (hp.trans (partsL_perm hN F hF).symm) hS (partsL_sorted hN (fun f hf => (hF f hf).1) hc)
end Go.Proofs.Ytpplojbcjgiabaa.Num
