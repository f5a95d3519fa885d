/- Plain arithmetic without Go: the model's products of the last powers of each prime; limits of chains. -/
import Derived.Test.YtpplojbcjgiabaaNumAn
namespace Go.Proofs.Ytpplojbcjgiabaa.Num

/-- A power of a prime. -/
structure PPow (z : Int) : Prop where
  two : 2 ≤ z
  pr : Pr (baseN z)
  pow : ∃ e : Nat, 1 ≤ e ∧ z = baseN z ^ e
theorem ppow_of {z : Int} (h2 : 2 ≤ z) (h : baseN z ≠ 0) : PPow z := by
  have hl := (facP_one (n := z) (by omega)).mpr h
  have hf := fac_ok (n := z) (by omega)
  unfold facP at hl
  rw [List.length_map] at hl
  obtain ⟨y, hy⟩ := List.length_eq_one_iff.mp hl
  have hp := hf.pr y (by rw [hy]; simp)
  have hm := hf.mul
  rw [hy] at hm
  have e1 : z = y.1 ^ y.2.toNat := by
    rw [← hm]
    simp [prodL]
  have e2 : baseN z = y.1 := by rw [e1]; exact baseN_ppow hp.1 (by omega)
  exact ⟨h2, by rw [e2]; exact hp.1, y.2.toNat, by omega, by rw [e2]; exact e1⟩
theorem ppow_base {z : Int} (h : PPow z) : baseN z ≠ 0 := by have := h.pr.1; omega
theorem PPow.only {p z : Int} {e : Nat} (h : PPow z) (hp : Pr p) (he : 1 ≤ e) (hd : p ^ e ∣ z) : p = baseN z := by
  obtain ⟨k, hk, ez⟩ := h.pow
  have h1 : p ∣ p ^ e := by
    have : e = (e - 1) + 1 := by omega
    rw [this, Int.pow_succ]
    exact Int.dvd_mul_left _ _
  rw [ez] at hd
  exact pr_eq hp h.pr (pr_pow hp k (Int.dvd_trans h1 hd))
theorem pow_le_pow' {p : Int} (hp : Pr p) {a b : Nat} (h : p ^ a ≤ p ^ b) : a ≤ b := by
  by_cases hab : a ≤ b
  · exact hab
  · exfalso
    have h1 : a = b + ((a - b - 1) + 1) := by omega
    have h3 := Int.mul_le_mul (pr_pos hp (a - b - 1)) hp.1 (by decide) (by have := pr_pos hp (a - b - 1); omega)
    have h4 := Int.mul_le_mul (Int.le_refl (p ^ b)) h3 (by decide) (by have := pr_pos hp b; omega)
    rw [h1, Int.pow_add, Int.pow_succ] at h
    have := pr_pos hp b
    omega
theorem PPow.dvd {z y : Int} (hz : PPow z) (hy : PPow y) (hb : baseN z = baseN y) (hle : z ≤ y) : z ∣ y := by
  obtain ⟨a, ha, ez⟩ := hz.pow
  obtain ⟨b, hb2, ey⟩ := hy.pow
  have hp := hz.pr
  rw [← hb] at ey
  generalize baseN z = p at *
  subst ez
  subst ey
  exact pow_dvd_pow' (pow_le_pow' hp hle)
theorem prodZ_dvd {z : Int} : ∀ {L : List Int}, z ∈ L → z ∣ prodZ L
  | x :: L, h => by
    rw [prodZ]
    rcases List.mem_cons.mp h with rfl | h
    · exact Int.dvd_mul_right _ _
    · exact Int.dvd_trans (prodZ_dvd h) (Int.dvd_mul_left _ _)
/-- A list of powers of different primes. -/
def Diff (L : List Int) : Prop := L.Pairwise (fun a b => baseN a < baseN b) ∧ ∀ z ∈ L, PPow z
theorem Diff.tail {x : Int} {L : List Int} (h : Diff (x :: L)) : Diff L := ⟨(List.pairwise_cons.mp h.1).2, fun y hy => h.2 y (by simp [hy])⟩
theorem Diff.apart {p x : Int} {L : List Int} (h : Diff (x :: L)) (hp : p = baseN x) : ¬ p ∣ prodZ L := by
  induction L with
  | nil =>
    intro hd
    have := Int.le_of_dvd (by decide) hd
    have := (h.2 x (by simp)).pr.1
    simp [prodZ] at *
    omega
  | cons y L ih =>
    intro hd
    rw [prodZ] at hd
    have hpr : Pr p := by rw [hp]; exact (h.2 x (by simp)).pr
    rcases pr_mul hpr hd with hd | hd
    · have := (h.2 y (by simp)).only hpr (Nat.le_refl 1) (by rwa [Int.pow_succ, Int.pow_zero, Int.one_mul])
      have h2 := (List.pairwise_cons.mp h.1).1 y (by simp)
      omega
    · refine ih ⟨?_, fun z hz => h.2 z (by simp at hz ⊢; rcases hz with rfl | hz <;> simp [*])⟩ hd
      obtain ⟨h1, h2⟩ := List.pairwise_cons.mp h.1
      exact List.pairwise_cons.mpr ⟨fun z hz => h1 z (by simp [hz]), (List.pairwise_cons.mp h2).2⟩
theorem diff_pos {L : List Int} (h : ∀ z ∈ L, PPow z) : 1 ≤ prodZ L := prodZ_pos fun z hz => by have := (h z hz).two; omega
theorem diff_cnt {q : Int} (hq : PP q) : ∀ {L : List Int}, Diff L → cntQ q L = if q ∣ prodZ L then 1 else 0
  | [], _ => by rw [show prodZ [] = 1 from rfl, if_neg hq.not_one]; rfl
  | z :: L, h => by
    have ih := diff_cnt hq h.tail
    have hz := h.2 z (by simp)
    rw [cntQ_cons, ih, prodZ]
    rcases hq with rfl | ⟨p, e, hp, he, rfl⟩
    · have h1 := diff_pos (fun y hy => h.tail.2 y hy)
      have h2 := hz.two
      rw [if_neg fun h => by have := Int.zero_dvd.mp h; omega, if_neg fun h => by have := Int.zero_dvd.mp h; omega, if_neg fun h => by
        have := Int.zero_dvd.mp h
        have := Int.mul_le_mul h2 h1 (by decide) (by omega)
        omega]
    · by_cases hb : p = baseN z
      · have hna := h.apart hb
        have h1 : ¬ p ^ e ∣ prodZ L := fun hh => hna (Int.dvd_trans (by
          have : e = (e - 1) + 1 := by omega
          rw [this, Int.pow_succ]
          exact Int.dvd_mul_left _ _) hh)
        obtain ⟨k, hk, ez⟩ := hz.pow
        have h2 : p ^ e ∣ z * prodZ L ↔ p ^ e ∣ z := by
          constructor
          · intro hh
            rw [ez, ← hb] at hh
            have := pow_le_of hp hna hh
            rw [ez, ← hb]
            exact pow_dvd_pow' this
          · intro hh
            exact Int.dvd_trans hh (Int.dvd_mul_right _ _)
        rw [if_neg h1]
        by_cases hh : p ^ e ∣ z
        · rw [if_pos hh, if_pos (h2.mpr hh)]
        · rw [if_neg hh, if_neg fun x => hh (h2.mp x)]
      · have h1 : ¬ p ^ e ∣ z := fun hh => hb (hz.only hp he hh)
        obtain ⟨k, hk, ez⟩ := hz.pow
        have h2 : p ^ e ∣ z * prodZ L ↔ p ^ e ∣ prodZ L := by
          constructor
          · intro hh
            refine cop_dvd ?_ hh
            rw [Int.gcd_comm]
            refine cop_pow ?_ e
            rw [Int.gcd_comm]
            exact pr_gcd hp fun h3 => hb (by rw [ez] at h3; exact pr_eq hp hz.pr (pr_pow hp k h3))
          · intro hh
            exact Int.dvd_trans hh (Int.dvd_mul_left _ _)
        rw [if_neg h1]
        by_cases hh : p ^ e ∣ prodZ L
        · rw [if_pos hh, if_pos (h2.mpr hh)]
        · rw [if_neg hh, if_neg fun x => hh (h2.mp x)]
theorem diff_ex {q : Int} (hq : PP q) {L : List Int} (h : Diff L) : q ∣ prodZ L ↔ ∃ z ∈ L, q ∣ z := by
  have := diff_cnt hq h
  rw [← cntQ_pos, this]
  split <;> simp [*]
/-- The last power of each prime in a sorted list, and the others. -/
def lastsL : List Int → List Int
  | [] => []
  | [z] => [z]
  | z :: y :: t => if baseN z = baseN y then lastsL (y :: t) else z :: lastsL (y :: t)
def restL : List Int → List Int
  | [] => []
  | [_] => []
  | z :: y :: t => if baseN z = baseN y then z :: restL (y :: t) else restL (y :: t)
theorem lasts_sub : ∀ (S : List Int), (lastsL S).Sublist S
  | [] => by simp [lastsL]
  | [z] => by simp [lastsL]
  | z :: y :: t => by
    rw [lastsL]
    split
    · exact (lasts_sub (y :: t)).cons z
    · exact (lasts_sub (y :: t)).cons_cons z
theorem rest_sub : ∀ (S : List Int), (restL S).Sublist S
  | [] => by simp [restL]
  | [z] => by simp [restL]
  | z :: y :: t => by
    rw [restL]
    split
    · exact (rest_sub (y :: t)).cons_cons z
    · exact (rest_sub (y :: t)).cons z
theorem rest_len : ∀ (S : List Int), S ≠ [] → (restL S).length < S.length
  | [], h => absurd rfl h
  | [z], _ => by simp [restL]
  | z :: y :: t, _ => by
    have := rest_len (y :: t) (by simp)
    rw [restL]
    split <;> simp at this ⊢ <;> omega
theorem lasts_ne : ∀ (S : List Int), S ≠ [] → lastsL S ≠ []
  | [], h => absurd rfl h
  | [z], _ => by simp [lastsL]
  | z :: y :: t, _ => by
    rw [lastsL]
    split
    · exact lasts_ne (y :: t) (by simp)
    · simp
theorem split_cnt (q : Int) : ∀ (S : List Int), cntQ q S = cntQ q (lastsL S) + cntQ q (restL S)
  | [] => rfl
  | [z] => by simp [lastsL, restL, cntQ_nil]
  | z :: y :: t => by
    have ih := split_cnt q (y :: t)
    rw [lastsL, restL, cntQ_cons q z (y :: t), ih]
    by_cases e : baseN z = baseN y
    · rw [if_pos e, if_pos e, cntQ_cons q z]; omega
    · rw [if_neg e, if_neg e, cntQ_cons q z]; omega
theorem leP_base {a b : Int} (h : leP a b) : baseN a ≤ baseN b := by unfold leP befP at h; omega
theorem leP_same {a b : Int} (h : leP a b) (e : baseN a = baseN b) : a ≤ b := by unfold leP befP at h; omega
theorem lasts_diff : ∀ {S : List Int}, S.Pairwise leP → (∀ z ∈ S, PPow z) → Diff (lastsL S)
  | [], _, _ => ⟨by simp [lastsL], by simp [lastsL]⟩
  | [z], _, h => ⟨by simp [lastsL], by simpa [lastsL] using h⟩
  | z :: y :: t, hs, h => by
    obtain ⟨h1, h2⟩ := List.pairwise_cons.mp hs
    have ih := lasts_diff h2 fun x hx => h x (by simp at hx ⊢; rcases hx with rfl | hx <;> simp [*])
    rw [lastsL]
    split
    · exact ih
    · rename_i hne
      refine ⟨List.pairwise_cons.mpr ⟨fun x hx => ?_, ih.1⟩, fun x hx => ?_⟩
      · have hx2 := (lasts_sub (y :: t)).subset hx
        have a := leP_base (h1 y (by simp))
        have b : baseN y ≤ baseN x := by
          rcases List.mem_cons.mp hx2 with rfl | hx3
          · exact Int.le_refl _
          · exact leP_base ((List.pairwise_cons.mp h2).1 x hx3)
        omega
      · rcases List.mem_cons.mp hx with rfl | hx
        · exact h _ (by simp)
        · exact ih.2 x hx
theorem lasts_top : ∀ {S : List Int}, S.Pairwise leP → (∀ z ∈ S, PPow z) → ∀ z ∈ S, ∃ y ∈ lastsL S, z ∣ y
  | [z], _, _, x, hx => ⟨x, by simpa [lastsL] using hx, Int.dvd_refl _⟩
  | z :: y :: t, hs, h, x, hx => by
    obtain ⟨h1, h2⟩ := List.pairwise_cons.mp hs
    have ih := lasts_top h2 fun x hx => h x (by simp at hx ⊢; rcases hx with rfl | hx <;> simp [*])
    rw [lastsL]
    split
    · rename_i e
      rcases List.mem_cons.mp hx with rfl | hx
      · obtain ⟨u, hu, hd⟩ := ih y (by simp)
        exact ⟨u, hu, Int.dvd_trans ((h x (by simp)).dvd (h y (by simp)) e (leP_same (h1 y (by simp)) e)) hd⟩
      · exact ih x hx
    · rcases List.mem_cons.mp hx with rfl | hx
      · exact ⟨x, by simp, Int.dvd_refl _⟩
      · obtain ⟨u, hu, hd⟩ := ih x hx
        exact ⟨u, by simp [hu], hd⟩
theorem lasts_ex {q : Int} (hq : PP q) {S : List Int} (hs : S.Pairwise leP) (h : ∀ z ∈ S, PPow z) : q ∣ prodZ (lastsL S) ↔ 0 < cntQ q S := by
  rw [diff_ex hq (lasts_diff hs h), cntQ_pos]
  constructor
  · rintro ⟨z, hz, hd⟩; exact ⟨z, (lasts_sub S).subset hz, hd⟩
  · rintro ⟨z, hz, hd⟩
    obtain ⟨y, hy, hzy⟩ := lasts_top hs h z hz
    exact ⟨y, hy, Int.dvd_trans hd hzy⟩
/-- The factors of the model, from the greatest one on. -/
def fromA : Nat → List Int → List Int
  | 0, _ => []
  | k + 1, S => if S = [] then [] else prodZ (lastsL S) :: fromA k (restL S)
theorem fromA_fuel : ∀ (k l : Nat) (S : List Int), S.length ≤ k → S.length ≤ l → fromA k S = fromA l S
  | 0, 0, _, _, _ => rfl
  | 0, l + 1, S, h, _ => by
    obtain rfl : S = [] := List.eq_nil_of_length_eq_zero (by omega)
    simp [fromA]
  | k + 1, 0, S, _, h => by
    obtain rfl : S = [] := List.eq_nil_of_length_eq_zero (by omega)
    simp [fromA]
  | k + 1, l + 1, S, h1, h2 => by
    rw [fromA, fromA]
    by_cases e : S = []
    · rw [if_pos e, if_pos e]
    · have := rest_len S e
      rw [if_neg e, if_neg e, fromA_fuel k l (restL S) (by omega) (by omega)]
def fromS (S : List Int) : List Int := fromA S.length S
theorem fromS_nil : fromS [] = [] := rfl
theorem fromS_step {S : List Int} (h : S ≠ []) : fromS S = prodZ (lastsL S) :: fromS (restL S) := by
  unfold fromS
  have hl := rest_len S h
  have e : S.length = (S.length - 1) + 1 := by omega
  rw [e, fromA, if_neg h, fromA_fuel (S.length - 1) (restL S).length (restL S) (by omega) (Nat.le_refl _)]
theorem fromS_ok : ∀ (k : Nat) (S : List Int), S.length ≤ k → S.Pairwise leP → (∀ z ∈ S, PPow z) → DC (fromS S) ∧ ∀ q, PP q → cntQ q (fromS S) = cntQ q S
  | 0, S, hk, _, _ => by
    obtain rfl : S = [] := List.eq_nil_of_length_eq_zero (by omega)
    exact ⟨DC.nil, fun _ _ => rfl⟩
  | k + 1, S, hk, hs, h => by
    by_cases e : S = []
    · rw [e]; exact ⟨DC.nil, fun _ _ => rfl⟩
    · have hl := rest_len S e
      obtain ⟨i1, i2⟩ := fromS_ok k (restL S) (by omega) (hs.sublist (rest_sub S)) (fun z hz => h z ((rest_sub S).subset hz))
      have hd := lasts_diff hs h
      have hpos := diff_pos hd.2
      rw [fromS_step e]
      have hq1 : ∀ q, PP q → cntQ q (prodZ (lastsL S) :: fromS (restL S)) = cntQ q S := fun q hq => by
        rw [cntQ_cons, i2 q hq, split_cnt q S, diff_cnt hq hd]; omega
      refine ⟨⟨List.pairwise_cons.mpr ⟨fun y hy => ?_, i1.1⟩, fun y hy => ?_⟩, hq1⟩
      · refine dvd_pp (i1.2 y hy).1 (by omega) fun q hq hqy => ?_
        rw [lasts_ex hq hs h, split_cnt q S]
        have : 0 < cntQ q (fromS (restL S)) := cntQ_pos.mpr ⟨y, hy, hqy⟩
        rw [i2 q hq] at this
        omega
      · rcases List.mem_cons.mp hy with rfl | hy
        · refine ⟨by omega, fun h1 => ?_⟩
          cases hL : lastsL S with
          | nil => exact lasts_ne S e hL
          | cons x t =>
            have hx := hd.2 x (by rw [hL]; simp)
            have := Int.le_of_dvd (by omega) (prodZ_dvd (L := lastsL S) (z := x) (by rw [hL]; simp))
            have := hx.two
            omega
        · exact i1.2 y hy
/-- What the program makes of powers of primes is what the model makes. -/
theorem fromS_is {gs S : List Int} (hp : S.Perm gs) (hs : S.Pairwise leP) (h : ∀ z ∈ gs, PPow z) : chR gs = fromS S := by
  have hS : ∀ z ∈ S, PPow z := fun z hz => h z (hp.subset hz)
  obtain ⟨i1, i2⟩ := fromS_ok _ S (Nat.le_refl _) hs hS
  have h0 : ∀ g ∈ gs, 0 ≤ g := fun g hg => by have := (h g hg).two; omega
  refine chain_unique (chR_dc h0) i1 fun q hq => ?_
  rw [chR_cnt h0 hq, i2 q hq]
  exact (hp.countP_eq _).symm
end Go.Proofs.Ytpplojbcjgiabaa.Num
