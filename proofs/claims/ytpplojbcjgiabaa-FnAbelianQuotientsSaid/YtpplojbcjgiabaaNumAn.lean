/- Plain arithmetic without Go: chains of divisors are determined by how many of their elements each power of a prime divides; an order put into a chain. -/
import Derived.Test.YtpplojbcjgiabaaNumAm
import Derived.Test.YtpplojbcjgiabaaNumL
namespace Go.Proofs.Ytpplojbcjgiabaa.Num

theorem lcmI_nat (m n : Nat) : lcmI (m : Int) (n : Int) = (Nat.lcm m n : Int) := by
  unfold lcmI
  rw [Int.gcd_natCast_natCast]
  by_cases h : m = 0
  · subst h; simp
  · rw [if_neg (by omega), ← Int.natCast_ediv, ← Int.natCast_mul]
    congr 1
    rw [Nat.lcm, Nat.div_mul_right_comm (Nat.gcd_dvd_left m n)]
theorem lcmI_left {a b : Int} (ha : 0 ≤ a) (hb : 0 ≤ b) : a ∣ lcmI a b := by
  obtain ⟨m, rfl⟩ := Int.eq_ofNat_of_zero_le ha
  obtain ⟨n, rfl⟩ := Int.eq_ofNat_of_zero_le hb
  rw [lcmI_nat]
  exact Int.natCast_dvd_natCast.mpr (Nat.dvd_lcm_left m n)
theorem lcmI_right {a b : Int} (ha : 0 ≤ a) (hb : 0 ≤ b) : b ∣ lcmI a b := by
  obtain ⟨m, rfl⟩ := Int.eq_ofNat_of_zero_le ha
  obtain ⟨n, rfl⟩ := Int.eq_ofNat_of_zero_le hb
  rw [lcmI_nat]
  exact Int.natCast_dvd_natCast.mpr (Nat.dvd_lcm_right m n)
theorem lcmI_min {a b m : Int} (ha : 0 ≤ a) (hb : 0 ≤ b) (h1 : a ∣ m) (h2 : b ∣ m) : lcmI a b ∣ m := by
  obtain ⟨x, rfl⟩ := Int.eq_ofNat_of_zero_le ha
  obtain ⟨y, rfl⟩ := Int.eq_ofNat_of_zero_le hb
  rw [lcmI_nat]
  rw [← Int.natAbs_dvd_natAbs] at h1 h2 ⊢
  exact Nat.lcm_dvd h1 h2
theorem lcmI_nn {a b : Int} (ha : 0 ≤ a) (hb : 0 ≤ b) : 0 ≤ lcmI a b := by
  obtain ⟨x, rfl⟩ := Int.eq_ofNat_of_zero_le ha
  obtain ⟨y, rfl⟩ := Int.eq_ofNat_of_zero_le hb
  rw [lcmI_nat]
  omega
theorem lcmI_eq_zero {a b : Int} (ha : 0 ≤ a) (hb : 0 ≤ b) : lcmI a b = 0 ↔ a = 0 ∨ b = 0 := by
  obtain ⟨x, rfl⟩ := Int.eq_ofNat_of_zero_le ha
  obtain ⟨y, rfl⟩ := Int.eq_ofNat_of_zero_le hb
  rw [lcmI_nat]
  have := Nat.lcm_eq_zero_iff (m := x) (n := y)
  omega
/-- The powers of primes, and 0. -/
def PP (q : Int) : Prop := q = 0 ∨ ∃ (p : Int) (e : Nat), Pr p ∧ 1 ≤ e ∧ q = p ^ e
theorem PP.not_one {q : Int} (h : PP q) : ¬ q ∣ 1 := by
  rcases h with rfl | ⟨p, e, hp, he, rfl⟩
  · intro h; have := Int.zero_dvd.mp h; omega
  · intro h
    have h1 : p ∣ p ^ e := by
      have : e = (e - 1) + 1 := by omega
      rw [this, Int.pow_succ]
      exact Int.dvd_mul_left _ _
    have := Int.le_of_dvd (by decide) (Int.dvd_trans h1 h)
    have := hp.1
    omega
theorem pr_pos {p : Int} (hp : Pr p) (e : Nat) : 1 ≤ p ^ e := by
  have : 0 < p ^ e := Int.pow_pos (by have := hp.1; omega)
  omega
theorem split_v {p n : Int} (hp : Pr p) (hn : 1 ≤ n) : ∃ (a : Nat) (y : Int), n = p ^ a * y ∧ 1 ≤ y ∧ ¬ p ∣ y := by
  have hv := v_all hp.1 n.toNat n (Nat.le_refl _) hn
  exact ⟨_, vr p n, hv.1, (vr_bd (p := p) hp.1 hn).1, fun h => hv.2.2 (Int.emod_eq_zero_of_dvd h)⟩
theorem pow_le_of {p y : Int} (hp : Pr p) (hy : ¬ p ∣ y) : ∀ {e a : Nat}, p ^ e ∣ p ^ a * y → e ≤ a
  | 0, _, _ => Nat.zero_le _
  | e + 1, 0, h => by
    rw [Int.pow_zero, Int.one_mul, Int.pow_succ] at h
    exact absurd (Int.dvd_trans (Int.dvd_mul_left _ _) h) hy
  | e + 1, a + 1, h => by
    rw [Int.pow_succ, Int.pow_succ, Int.mul_right_comm] at h
    have hp0 : p ≠ 0 := by have := hp.1; omega
    have := pow_le_of hp hy (Int.dvd_of_mul_dvd_mul_right hp0 h)
    omega
theorem pow_dvd_pow' {p : Int} {e a : Nat} (h : e ≤ a) : p ^ e ∣ p ^ a := by
  have : a = e + (a - e) := by omega
  rw [this, Int.pow_add]
  exact Int.dvd_mul_right _ _
theorem pp_lcm {q a b : Int} (hq : PP q) (ha : 0 ≤ a) (hb : 0 ≤ b) : q ∣ lcmI a b ↔ q ∣ a ∨ q ∣ b := by
  constructor
  · intro h
    rcases hq with rfl | ⟨p, e, hp, he, rfl⟩
    · rw [Int.zero_dvd, Int.zero_dvd]
      exact (lcmI_eq_zero ha hb).mp (Int.zero_dvd.mp h)
    · by_cases a0 : a = 0
      · left; rw [a0]; exact Int.dvd_zero _
      · by_cases b0 : b = 0
        · right; rw [b0]; exact Int.dvd_zero _
        · obtain ⟨i, x, ea, hx, px⟩ := split_v hp (show 1 ≤ a by omega)
          obtain ⟨j, y, eb, hy, py⟩ := split_v hp (show 1 ≤ b by omega)
          have hxy : ¬ p ∣ x * y := fun hh => (pr_mul hp hh).elim px py
          rcases Nat.le_total i j with hij | hij
          · right
            have hd : lcmI a b ∣ p ^ j * (x * y) := lcmI_min ha hb (by rw [ea]; exact Int.mul_dvd_mul (pow_dvd_pow' hij) (Int.dvd_mul_right _ _)) (by rw [eb]; exact Int.mul_dvd_mul (Int.dvd_refl _) (Int.dvd_mul_left _ _))
            have := pow_le_of hp hxy (Int.dvd_trans h hd)
            rw [eb]
            exact Int.dvd_trans (pow_dvd_pow' this) (Int.dvd_mul_right _ _)
          · left
            have hd : lcmI a b ∣ p ^ i * (x * y) := lcmI_min ha hb (by rw [ea]; exact Int.mul_dvd_mul (Int.dvd_refl _) (Int.dvd_mul_right _ _)) (by rw [eb]; exact Int.mul_dvd_mul (pow_dvd_pow' hij) (Int.dvd_mul_left _ _))
            have := pow_le_of hp hxy (Int.dvd_trans h hd)
            rw [ea]
            exact Int.dvd_trans (pow_dvd_pow' this) (Int.dvd_mul_right _ _)
  · rintro (h | h)
    · exact Int.dvd_trans h (lcmI_left ha hb)
    · exact Int.dvd_trans h (lcmI_right ha hb)
theorem exists_pr {x : Int} (hx : 2 ≤ x) : ∃ p, Pr p ∧ p ∣ x := by
  have hne := facL_ne (d := 2) (n := x) (by omega) (by omega)
  cases hf : facL 2 x with
  | nil => exact absurd hf hne
  | cons y t =>
    have : y.1 ∈ facP 2 x := by unfold facP; rw [hf]; simp
    exact ⟨y.1, (mem_facP (by omega)).mp this⟩
theorem dvd_of_pp : ∀ (k : Nat) (x y : Int), x.toNat ≤ k → 1 ≤ x → 1 ≤ y → (∀ p (e : Nat), Pr p → 1 ≤ e → p ^ e ∣ x → p ^ e ∣ y) → x ∣ y
  | 0, x, y, hk, hx, _, _ => by omega
  | k + 1, x, y, hk, hx, hy, h => by
    by_cases h1 : x = 1
    · rw [h1]; exact Int.one_dvd _
    · obtain ⟨p, hp, hd⟩ := exists_pr (show 2 ≤ x by omega)
      obtain ⟨a, u, ex, hu, pu⟩ := split_v hp hx
      have ha : 1 ≤ a := by
        cases a with
        | zero => rw [Int.pow_zero, Int.one_mul] at ex; rw [ex] at hd; exact absurd hd pu
        | succ a => omega
      have hpa := h p a hp ha (by rw [ex]; exact Int.dvd_mul_right _ _)
      obtain ⟨z, ez⟩ := hpa
      have hppos := pr_pos hp a
      have hz : 1 ≤ z := by
        have h0 : ¬ z ≤ 0 := fun hle => by
          have := Int.mul_le_mul_of_nonneg_left hle (show 0 ≤ p ^ a by omega)
          rw [Int.mul_zero] at this
          omega
        omega
      have hp2 : 2 ≤ p ^ a := by
        have hpa1 : a = (a - 1) + 1 := by omega
        rw [hpa1, Int.pow_succ]
        have := Int.mul_le_mul (pr_pos hp (a - 1)) hp.1 (by decide) (by have := pr_pos hp (a - 1); omega)
        omega
      have hux : u < x := by
        rw [ex]
        have := Int.mul_le_mul hp2 (Int.le_refl u) (by omega) (by omega)
        omega
      have hi := dvd_of_pp k u z (by omega) hu hz fun r e hr he hru => by
        have hry := h r e hr he (by rw [ex]; exact Int.dvd_trans hru (Int.dvd_mul_left _ _))
        rw [ez] at hry
        by_cases hrp : r = p
        · subst hrp
          have : r ∣ u := by
            have he1 : e = (e - 1) + 1 := by omega
            rw [he1, Int.pow_succ] at hru
            exact Int.dvd_trans (Int.dvd_mul_left _ _) hru
          exact absurd this pu
        · refine cop_dvd ?_ hry
          rw [Int.gcd_comm]
          refine cop_pow ?_ e
          rw [Int.gcd_comm]
          exact pr_gcd hr (fun hh => hrp (pr_eq hr hp (pr_pow hr a hh)))
      rw [ex, ez]
      exact Int.mul_dvd_mul (Int.dvd_refl _) hi
theorem dvd_pp {x y : Int} (hx : 0 ≤ x) (hy : 0 ≤ y) (h : ∀ q, PP q → q ∣ x → q ∣ y) : x ∣ y := by
  by_cases x0 : x = 0
  · have := h 0 (.inl rfl) (by rw [x0]; exact Int.dvd_zero _)
    rw [Int.zero_dvd.mp this]; exact Int.dvd_zero _
  · by_cases y0 : y = 0
    · rw [y0]; exact Int.dvd_zero _
    · exact dvd_of_pp _ x y (Nat.le_refl _) (by omega) (by omega) fun p e hp he => h _ (.inr ⟨p, e, hp, he, rfl⟩)
theorem eq_of_pp {x y : Int} (hx : 0 ≤ x) (hy : 0 ≤ y) (h : ∀ q, PP q → (q ∣ x ↔ q ∣ y)) : x = y := by
  have h1 := dvd_pp hx hy fun q hq => (h q hq).mp
  have h2 := dvd_pp hy hx fun q hq => (h q hq).mpr
  exact Int.dvd_antisymm hx hy h1 h2
theorem exists_pp {x : Int} (hx : 0 ≤ x) (h1 : x ≠ 1) : ∃ q, PP q ∧ q ∣ x := by
  by_cases x0 : x = 0
  · exact ⟨0, .inl rfl, by rw [x0]; exact Int.dvd_zero _⟩
  · obtain ⟨p, hp, hd⟩ := exists_pr (show 2 ≤ x by omega)
    exact ⟨p, .inr ⟨p, 1, hp, Nat.le_refl _, by rw [Int.pow_succ, Int.pow_zero, Int.one_mul]⟩, hd⟩
/-- How many elements a number divides. -/
def cntQ (q : Int) (D : List Int) : Nat := D.countP fun x => decide (q ∣ x)
theorem cntQ_nil (q : Int) : cntQ q [] = 0 := rfl
theorem cntQ_cons (q x : Int) (D : List Int) : cntQ q (x :: D) = cntQ q D + if q ∣ x then 1 else 0 := by
  unfold cntQ
  rw [List.countP_cons]
  simp
theorem cntQ_app (q : Int) (D E : List Int) : cntQ q (D ++ E) = cntQ q D + cntQ q E := List.countP_append
theorem cntQ_pos {q : Int} {D : List Int} : 0 < cntQ q D ↔ ∃ x ∈ D, q ∣ x := by
  unfold cntQ
  rw [List.countP_pos_iff]
  simp
/-- A chain from its greatest element on. -/
def DC (D : List Int) : Prop := D.Pairwise (fun a b => b ∣ a) ∧ ∀ x ∈ D, 0 ≤ x ∧ x ≠ 1
theorem DC.nil : DC [] := ⟨List.Pairwise.nil, fun x hx => by cases hx⟩
theorem DC.tail {x : Int} {D : List Int} (h : DC (x :: D)) : DC D := ⟨(List.pairwise_cons.mp h.1).2, fun y hy => h.2 y (by simp [hy])⟩
theorem DC.head {q x : Int} {D : List Int} (h : DC (x :: D)) : q ∣ x ↔ 0 < cntQ q (x :: D) := by
  rw [cntQ_pos]
  constructor
  · intro hq; exact ⟨x, by simp, hq⟩
  · rintro ⟨y, hy, hq⟩
    rcases List.mem_cons.mp hy with rfl | hy
    · exact hq
    · exact Int.dvd_trans hq ((List.pairwise_cons.mp h.1).1 y hy)
theorem chain_unique : ∀ {D E : List Int}, DC D → DC E → (∀ q, PP q → cntQ q D = cntQ q E) → D = E
  | [], [], _, _, _ => rfl
  | [], y :: E, _, hE, h => by
    obtain ⟨q, hq, hd⟩ := exists_pp (hE.2 y (by simp)).1 (hE.2 y (by simp)).2
    have h1 := hE.head.mp hd
    have h2 := h q hq
    rw [cntQ_nil] at h2
    omega
  | x :: D, [], hD, _, h => by
    obtain ⟨q, hq, hd⟩ := exists_pp (hD.2 x (by simp)).1 (hD.2 x (by simp)).2
    have h1 := hD.head.mp hd
    have h2 := h q hq
    rw [cntQ_nil] at h2
    omega
  | x :: D, y :: E, hD, hE, h => by
    have e : x = y := eq_of_pp (hD.2 x (by simp)).1 (hE.2 y (by simp)).1 fun q hq => by rw [hD.head, hE.head, h q hq]
    subst e
    rw [chain_unique hD.tail hE.tail fun q hq => by have := h q hq; rw [cntQ_cons, cntQ_cons] at this; omega]
/-- An order put into a chain, from the greatest element on. -/
def insR : List Int → Int → List Int
  | [], r => if r = 1 then [] else [r]
  | x :: D, r => lcmI x r :: insR D (Int.gcd x r : Int)
theorem gcd_nn (a b : Int) : 0 ≤ (Int.gcd a b : Int) := by omega
theorem insR_cnt {q : Int} (hq : PP q) : ∀ {D : List Int} {r : Int}, (∀ x ∈ D, 0 ≤ x) → 0 ≤ r → cntQ q (insR D r) = cntQ q D + if q ∣ r then 1 else 0
  | [], r, _, _ => by
    unfold insR
    by_cases h : r = 1
    · rw [if_pos h, h, if_neg hq.not_one, Nat.add_zero]
    · rw [if_neg h, cntQ_cons]
  | x :: D, r, hD, hr => by
    have hx := hD x (by simp)
    rw [insR, cntQ_cons, insR_cnt hq (fun y hy => hD y (by simp [hy])) (gcd_nn x r), cntQ_cons]
    have h1 := pp_lcm hq hx hr
    have h2 : q ∣ (Int.gcd x r : Int) ↔ q ∣ x ∧ q ∣ r := ⟨fun h => ⟨Int.dvd_trans h (Int.gcd_dvd_left x r), Int.dvd_trans h (Int.gcd_dvd_right x r)⟩, fun h => Int.dvd_coe_gcd h.1 h.2⟩
    by_cases a : q ∣ x <;> by_cases b : q ∣ r <;> simp [h1, h2, a, b] <;> omega
theorem insR_dvd {m : Int} : ∀ {D : List Int} {r : Int}, (∀ x ∈ D, 0 ≤ x ∧ x ∣ m) → 0 ≤ r → r ∣ m → ∀ z ∈ insR D r, z ∣ m
  | [], r, _, _, hr, z, hz => by
    unfold insR at hz
    split at hz
    · cases hz
    · simp at hz; rw [hz]; exact hr
  | x :: D, r, hD, h0, hr, z, hz => by
    rw [insR] at hz
    have hx := hD x (by simp)
    rcases List.mem_cons.mp hz with rfl | hz
    · exact lcmI_min hx.1 h0 hx.2 hr
    · exact insR_dvd (fun y hy => hD y (by simp [hy])) (gcd_nn x r) (Int.dvd_trans (Int.gcd_dvd_right x r) hr) z hz
theorem insR_dc : ∀ {D : List Int} {r : Int}, DC D → 0 ≤ r → DC (insR D r)
  | [], r, _, h0 => by
    unfold insR
    split
    · exact DC.nil
    · exact ⟨by simp, fun x hx => by simp at hx; rw [hx]; exact ⟨h0, by assumption⟩⟩
  | x :: D, r, hD, h0 => by
    rw [insR]
    have hx := hD.2 x (by simp)
    have ih := insR_dc (r := (Int.gcd x r : Int)) hD.tail (gcd_nn x r)
    refine ⟨List.pairwise_cons.mpr ⟨fun z hz => ?_, ih.1⟩, fun z hz => ?_⟩
    · refine Int.dvd_trans (insR_dvd (m := x) (fun y hy => ⟨(hD.2 y (by simp [hy])).1, (List.pairwise_cons.mp hD.1).1 y hy⟩) (gcd_nn x r) (Int.gcd_dvd_left x r) z hz) (lcmI_left hx.1 h0)
    · rcases List.mem_cons.mp hz with rfl | hz
      · refine ⟨lcmI_nn hx.1 h0, fun h1 => ?_⟩
        have hd := lcmI_left hx.1 h0
        rw [h1] at hd
        have := Int.eq_one_of_dvd_one hx.1 hd
        exact hx.2 this
      · exact ih.2 z hz
theorem insR_len : ∀ (D : List Int) (r : Int), D.length ≤ (insR D r).length
  | [], r => by simp
  | x :: D, r => by rw [insR]; have := insR_len D (Int.gcd x r : Int); simp; omega
theorem rAt_snoc (ys : List Int) (x r : Int) : ∀ t, t ≤ ys.length → rAt (ys ++ [x]) r (t + 1) = rAt ys (Int.gcd x r : Int) t
  | 0, _ => by
    rw [rAt, rAt, rAt]
    simp
  | t + 1, h => by
    rw [rAt, rAt_snoc ys x r t (by omega), rAt]
    have e1 : (ys ++ [x]).length - 1 - (t + 1) = ys.length - 1 - t := by simp; omega
    rw [e1, List.getD_eq_getElem?_getD, List.getElem?_append_left (by omega), ← List.getD_eq_getElem?_getD]
theorem cAt_snoc (ys : List Int) (x r : Int) : ∀ t, t ≤ ys.length → cAt (ys ++ [x]) r (t + 1) = cAt ys (Int.gcd x r : Int) t ++ [lcmI x r]
  | 0, _ => by
    rw [cAt, cAt, cAt, rAt]
    simp
  | t + 1, h => by
    have e1 : (ys ++ [x]).length - 1 - (t + 1) = ys.length - 1 - t := by simp; omega
    rw [cAt, cAt_snoc ys x r t (by omega), rAt_snoc ys x r t (by omega), e1, cAt]
    rw [List.getD_eq_getElem?_getD, List.getElem?_append_left (by omega), ← List.getD_eq_getElem?_getD, List.set_append_left _ _ (by rw [cAt_len]; omega)]
theorem insC_snoc (ys : List Int) (x r : Int) : insC (ys ++ [x]) r = insC ys (Int.gcd x r : Int) ++ [lcmI x r] := by
  unfold insC
  rw [show (ys ++ [x]).length = ys.length + 1 by simp, rAt_snoc ys x r _ (Nat.le_refl _), cAt_snoc ys x r _ (Nat.le_refl _)]
  by_cases h : rAt ys (Int.gcd x r : Int) ys.length = 1
  · rw [if_pos h, if_pos h]
  · rw [if_neg h, if_neg h]; rfl
theorem insC_eq : ∀ (D : List Int) (r : Int), insC D.reverse r = (insR D r).reverse
  | [], r => by
    show (if r = 1 then [] else [r]) = (if r = 1 then [] else [r] : List Int).reverse
    split <;> rfl
  | x :: D, r => by rw [List.reverse_cons, insC_snoc, insC_eq D, insR, List.reverse_cons]
/-- All orders, one after another. -/
def chR (gs : List Int) : List Int := gs.foldl insR []
def chC (gs : List Int) : List Int := gs.foldl insC []
theorem chC_eq (gs : List Int) : chC gs = (chR gs).reverse := by
  unfold chC chR
  suffices H : ∀ D, gs.foldl insC (List.reverse D) = (gs.foldl insR D).reverse from H []
  induction gs with
  | nil => intro D; rfl
  | cons g gs ih => intro D; rw [List.foldl_cons, List.foldl_cons, insC_eq, ih]
theorem chR_gen {gs : List Int} (hg : ∀ g ∈ gs, 0 ≤ g) : ∀ {D : List Int}, DC D → DC (gs.foldl insR D) ∧ ∀ q, PP q → cntQ q (gs.foldl insR D) = cntQ q D + cntQ q gs := by
  induction gs with
  | nil => intro D hD; exact ⟨hD, fun q _ => by simp [cntQ]⟩
  | cons g gs ih =>
    intro D hD
    have h0 := hg g (by simp)
    obtain ⟨i1, i2⟩ := ih (fun x hx => hg x (by simp [hx])) (insR_dc hD h0)
    refine ⟨i1, fun q hq => ?_⟩
    rw [List.foldl_cons, i2 q hq, insR_cnt hq (fun x hx => (hD.2 x hx).1) h0, cntQ_cons]
    omega
theorem chR_dc {gs : List Int} (hg : ∀ g ∈ gs, 0 ≤ g) : DC (chR gs) := (chR_gen hg DC.nil).1
theorem chR_cnt {gs : List Int} (hg : ∀ g ∈ gs, 0 ≤ g) {q : Int} (hq : PP q) : cntQ q (chR gs) = cntQ q gs := by
  have := (chR_gen hg DC.nil).2 q hq
  simpa [chR, cntQ] using this
end Go.Proofs.Ytpplojbcjgiabaa.Num
