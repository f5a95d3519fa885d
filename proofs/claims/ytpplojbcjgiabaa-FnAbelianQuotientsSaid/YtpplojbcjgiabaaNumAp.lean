/- Plain arithmetic without Go: limits of chains, the parts of sums. -/
import Derived.Test.YtpplojbcjgiabaaNumAo
import Derived.Test.YtpplojbcjgiabaaNumLb
namespace Go.Proofs.Ytpplojbcjgiabaa.Num

/-- A chain within the limits. -/
def OkD (D : List Int) : Prop := D.length ≤ 10 ∧ ∀ x ∈ D, x ≤ 1000000
instance (D : List Int) : Decidable (OkD D) := by unfold OkD; infer_instance
theorem big_in {M r : Int} (hM : 1 ≤ M) (hr : M < r) : ∀ {D : List Int}, (∀ x ∈ D, 0 ≤ x) → ∃ y ∈ insR D r, M < y
  | [], _ => ⟨r, by unfold insR; rw [if_neg (by omega)]; simp, hr⟩
  | x :: D, h => by
    have hx := h x (by simp)
    rw [insR]
    by_cases x0 : x = 0
    · subst x0
      obtain ⟨y, hy, hM2⟩ := big_in hM (r := (Int.gcd 0 r : Int)) (by rw [Int.gcd_zero_left]; omega) (D := D) fun z hz => h z (by simp [hz])
      exact ⟨y, List.mem_cons_of_mem _ hy, hM2⟩
    · refine ⟨lcmI x r, by simp, ?_⟩
      have hn : lcmI x r ≠ 0 := fun e => by
        have := (lcmI_eq_zero hx (by omega)).mp e
        omega
      have := Int.le_of_dvd (by have := lcmI_nn hx (show 0 ≤ r by omega); omega) (lcmI_right hx (show 0 ≤ r by omega))
      omega
theorem big_keep {M : Int} (hM : 1 ≤ M) : ∀ {D : List Int} {r : Int}, (∀ x ∈ D, 0 ≤ x) → 0 ≤ r → (∃ x ∈ D, M < x) → ∃ y ∈ insR D r, M < y
  | [], _, _, _, h => by obtain ⟨x, hx, _⟩ := h; cases hx
  | x :: D, r, hD, h0, h => by
    have hx := hD x (by simp)
    rw [insR]
    by_cases hb : M < x
    · by_cases r0 : r = 0
      · subst r0
        obtain ⟨y, hy, hM2⟩ := big_in hM (r := (Int.gcd x 0 : Int)) (by rw [Int.gcd_zero_right]; omega) (D := D) fun z hz => hD z (by simp [hz])
        exact ⟨y, List.mem_cons_of_mem _ hy, hM2⟩
      · refine ⟨lcmI x r, by simp, ?_⟩
        have hn : lcmI x r ≠ 0 := fun e => by
          have := (lcmI_eq_zero hx h0).mp e
          omega
        have := Int.le_of_dvd (by have := lcmI_nn hx h0; omega) (lcmI_left hx h0)
        omega
    · obtain ⟨z, hz, hzM⟩ := h
      have hz2 : z ∈ D := by
        rcases List.mem_cons.mp hz with rfl | hz
        · exact absurd hzM hb
        · exact hz
      obtain ⟨y, hy, hM2⟩ := big_keep hM (D := D) (r := (Int.gcd x r : Int)) (fun u hu => hD u (by simp [hu])) (gcd_nn x r) ⟨z, hz2, hzM⟩
      exact ⟨y, List.mem_cons_of_mem _ hy, hM2⟩
theorem okD_down {D : List Int} {r : Int} (hD : DC D) (h0 : 0 ≤ r) (h : OkD (insR D r)) : OkD D := by
  refine ⟨Nat.le_trans (insR_len D r) h.1, fun x hx => ?_⟩
  by_cases hb : x ≤ 1000000
  · exact hb
  · obtain ⟨y, hy, hM⟩ := big_keep (M := 1000000) (by decide) (fun z hz => (hD.2 z hz).1) h0 ⟨x, hx, by omega⟩
    have := h.2 y hy
    omega
theorem okD_take {gs : List Int} (hg : ∀ g ∈ gs, 0 ≤ g) : ∀ {D : List Int}, DC D → OkD (gs.foldl insR D) → OkD D := by
  induction gs with
  | nil => intro D _ h; exact h
  | cons g gs ih =>
    intro D hD h
    have h0 := hg g (by simp)
    exact okD_down hD h0 (ih (fun x hx => hg x (by simp [hx])) (insR_dc hD h0) h)
theorem chR_take {gs : List Int} {j : Nat} (hj : j < gs.length) : chR (gs.take (j + 1)) = insR (chR (gs.take j)) (gs.getD j 0) := by
  unfold chR
  rw [List.take_succ_eq_append_getElem hj, List.foldl_append]
  simp [hj]
theorem chC_take {gs : List Int} {j : Nat} (hj : j < gs.length) : chC (gs.take (j + 1)) = insC (chC (gs.take j)) (gs.getD j 0) := by
  unfold chC
  rw [List.take_succ_eq_append_getElem hj, List.foldl_append]
  simp [hj]
theorem ok_take {gs : List Int} (hg : ∀ g ∈ gs, 0 ≤ g) {j : Nat} (h : ¬ OkD (chR (gs.take j))) : ¬ OkD (chR gs) := fun hh => by
  refine h (okD_take (gs := gs.drop j) (fun x hx => hg x (List.mem_of_mem_drop hx)) (chR_dc fun x hx => hg x (List.mem_of_mem_take hx)) ?_)
  unfold chR at *
  rw [← List.foldl_append, List.take_append_drop]
  exact hh
/-- The finite orders of a chain, and how many are infinite. -/
def finL (c : List Int) : List Int := c.filter fun x => decide (x ≠ 0)
def zerN (c : List Int) : Int := (c.countP fun x => decide (x = 0) : Nat)
theorem finL_take {c : List Int} {j : Nat} (hj : j < c.length) : finL (c.take (j + 1)) = if c.getD j 0 = 0 then finL (c.take j) else finL (c.take j) ++ [c.getD j 0] := by
  unfold finL
  rw [List.take_succ_eq_append_getElem hj, List.filter_append]
  have e : c.getD j 0 = c[j] := by simp [hj]
  rw [e]
  by_cases h : c[j] = 0
  · rw [if_pos h]; simp [h]
  · rw [if_neg h]; simp [h]
theorem zerN_take {c : List Int} {j : Nat} (hj : j < c.length) : zerN (c.take (j + 1)) = if c.getD j 0 = 0 then zerN (c.take j) + 1 else zerN (c.take j) := by
  unfold zerN
  rw [List.take_succ_eq_append_getElem hj, List.countP_append]
  have e : c.getD j 0 = c[j] := by simp [hj]
  rw [e]
  by_cases h : c[j] = 0
  · rw [if_pos h]; simp [h]
  · rw [if_neg h]; simp [h]
theorem fin_zer_len (c : List Int) : (finL c).length + (zerN c).toNat = c.length ∧ 0 ≤ zerN c := by
  unfold finL zerN
  induction c with
  | nil => simp
  | cons x t ih =>
    by_cases h : x = 0
    · subst h
      rw [List.filter_cons_of_neg (by simp), List.countP_cons_of_pos (by simp)]
      simp only [List.length_cons] at *
      omega
    · rw [List.filter_cons_of_pos (by simp [h]), List.countP_cons_of_neg (by simp [h])]
      simp only [List.length_cons] at *
      omega
theorem fin_chain {D : List Int} (h : DC D) : chainB (finL D.reverse) = true ∧ ∀ x ∈ finL D.reverse, 2 ≤ x := by
  have hpw : (finL D.reverse).Pairwise (fun a b => a ∣ b) := by
    unfold finL
    refine List.Pairwise.filter _ ?_
    rw [List.pairwise_reverse]
    exact h.1
  have hm : ∀ x ∈ finL D.reverse, 2 ≤ x := fun x hx => by
    have := List.mem_filter.mp hx
    have h1 := h.2 x (by simpa using this.1)
    have h2 : x ≠ 0 := by simpa using this.2
    omega
  refine ⟨chainB_ok fun j hj => ?_, hm⟩
  have hx := hm _ (by rw [List.getD_eq_getElem?_getD, List.getElem?_eq_getElem hj]; exact List.getElem_mem hj : (finL D.reverse).getD j 0 ∈ finL D.reverse)
  refine ⟨by omega, ?_⟩
  unfold prevD
  by_cases h0 : j = 0
  · rw [if_pos h0]; omega
  · rw [if_neg h0]
    refine Int.emod_eq_zero_of_dvd ?_
    rw [List.getD_eq_getElem?_getD, List.getD_eq_getElem?_getD, List.getElem?_eq_getElem hj, List.getElem?_eq_getElem (by omega)]
    exact List.pairwise_iff_getElem.mp hpw (j - 1) j (by omega) hj (by omega)
theorem ab_of {D : List Int} (h : DC D) : abB (finL D.reverse) (zerN D.reverse) = decide (OkD D) := by
  obtain ⟨h1, h2⟩ := fin_chain h
  obtain ⟨l1, l2⟩ := fin_zer_len D.reverse
  rw [List.length_reverse] at l1
  by_cases hk : OkD D
  · rw [decide_eq_true hk]
    have := hk.1
    refine abB_ok (by omega) l2 (by omega) (fun j hj => ?_) h1
    have hm : (finL D.reverse).getD j 0 ∈ finL D.reverse := by rw [List.getD_eq_getElem?_getD, List.getElem?_eq_getElem hj]; exact List.getElem_mem hj
    have hd := List.mem_filter.mp hm
    exact ⟨h2 _ hm, hk.2 _ (by simpa using hd.1)⟩
  · rw [decide_eq_false hk]
    by_cases hl : D.length ≤ 10
    · have : ∃ x ∈ D, 1000000 < x := by
        refine Classical.byContradiction fun hn => hk ⟨hl, fun x hx => ?_⟩
        by_cases hb : x ≤ 1000000
        · exact hb
        · exact absurd ⟨x, hx, by omega⟩ hn
      obtain ⟨x, hx, hb⟩ := this
      have hm : x ∈ finL D.reverse := List.mem_filter.mpr ⟨by simpa using hx, by simp; omega⟩
      obtain ⟨j, hj, e⟩ := List.mem_iff_getElem.mp hm
      exact abB_rng hj fun hr => by
        have := hr.2
        rw [List.getD_eq_getElem?_getD, List.getElem?_eq_getElem hj, Option.getD_some, e] at this
        omega
    · exact abB_rank (.inr (by omega))
theorem prodZ_pows : ∀ (l : List (Int × Int)), prodZ (l.map fun x => x.1 ^ x.2.toNat) = prodL l
  | [] => rfl
  | x :: l => by rw [List.map_cons, prodZ, prodZ_pows l, prodL_cons]
/-- How many parts of a factor a power of a prime divides. -/
theorem ppart_diff {f : Int} (hf : 1 ≤ f) : Diff (ppart f) ∧ prodZ (ppart f) = f := by
  have h := fac_ok hf
  have hu := facP_up hf
  constructor
  · have hb : ∀ y ∈ facL 2 f, baseN (y.1 ^ y.2.toNat) = y.1 := fun y hy => baseN_ppow (h.pr y hy).1 (by have := (h.pr y hy).2; omega)
    constructor
    · unfold ppart
      rw [List.pairwise_map]
      unfold facP at hu
      rw [List.pairwise_map] at hu
      exact hu.imp_of_mem fun {a b} ha hb2 hlt => by rw [hb a ha, hb b hb2]; exact hlt
    · intro z hz
      obtain ⟨y, hy, rfl⟩ := List.mem_map.mp hz
      obtain ⟨h1, h2⟩ := h.pr y hy
      refine ⟨?_, by rw [hb y hy]; exact h1, y.2.toNat, by omega, by rw [hb y hy]⟩
      have e : y.2.toNat = (y.2.toNat - 1) + 1 := by omega
      rw [e, Int.pow_succ]
      have := Int.mul_le_mul (pr_pos h1 (y.2.toNat - 1)) h1.1 (by decide) (by have := pr_pos h1 (y.2.toNat - 1); omega)
      omega
  · unfold ppart
    rw [prodZ_pows, h.mul]
theorem flat_cnt {q : Int} (hq : PP q) : ∀ {F : List Int}, (∀ f ∈ F, 1 ≤ f) → cntQ q (F.flatMap ppart) = cntQ q F
  | [], _ => rfl
  | f :: F, h => by
    obtain ⟨h1, h2⟩ := ppart_diff (h f (by simp))
    rw [List.flatMap_cons, cntQ_app, diff_cnt hq h1, h2, flat_cnt hq (fun x hx => h x (by simp [hx])), cntQ_cons]
    omega
theorem zeros_cnt (q : Int) (n : Nat) : cntQ q (List.replicate n 0) = n := by
  unfold cntQ
  rw [List.countP_replicate, if_pos (by simp)]
theorem zeros_dc {D : List Int} (h : DC D) : ∀ n, DC (List.replicate n 0 ++ D)
  | 0 => by simpa using h
  | n + 1 => by
    have ih := zeros_dc h n
    rw [List.replicate_succ, List.cons_append]
    exact ⟨List.pairwise_cons.mpr ⟨fun z _ => Int.dvd_zero z, ih.1⟩, fun z hz => by
      rcases List.mem_cons.mp hz with rfl | hz
      · exact ⟨Int.le_refl _, by decide⟩
      · exact ih.2 z hz⟩
/-- The chain of a sum: zeros for the ranks, and what the model makes of the parts. -/
theorem sum_is {F G S : List Int} {K L : Int} (hF : ∀ f ∈ F, 1 ≤ f) (hG : ∀ f ∈ G, 1 ≤ f) (hS : S.Perm (F.flatMap ppart ++ G.flatMap ppart)) (hs : S.Pairwise leP) :
    chR (chainL F K ++ chainL G L) = List.replicate (K.toNat + L.toNat) 0 ++ fromS S := by
  have hP : ∀ z ∈ S, PPow z := fun z hz => by
    have := hS.subset hz
    rw [List.mem_append, List.mem_flatMap, List.mem_flatMap] at this
    rcases this with ⟨f, hf, hz⟩ | ⟨f, hf, hz⟩
    · exact (ppart_diff (hF f hf)).1.2 z hz
    · exact (ppart_diff (hG f hf)).1.2 z hz
  obtain ⟨i1, i2⟩ := fromS_ok _ S (Nat.le_refl _) hs hP
  have h0 : ∀ g ∈ chainL F K ++ chainL G L, 0 ≤ g := fun g hg => by
    rw [List.mem_append] at hg
    rcases hg with hg | hg
    · rcases chainL_mem hg with hg | hg
      · have := hF g hg; omega
      · omega
    · rcases chainL_mem hg with hg | hg
      · have := hG g hg; omega
      · omega
  refine chain_unique (chR_dc h0) (zeros_dc i1 _) fun q hq => ?_
  rw [chR_cnt h0 hq, cntQ_app, cntQ_app, zeros_cnt, i2 q hq]
  have e : cntQ q S = cntQ q (F.flatMap ppart ++ G.flatMap ppart) := hS.countP_eq _
  rw [e, cntQ_app, flat_cnt hq hF, flat_cnt hq hG]
  unfold chainL
  rw [cntQ_app, cntQ_app, zeros_cnt, zeros_cnt]
  omega
theorem fin_zeros {D : List Int} (h : ∀ x ∈ D, x ≠ 0) (n : Nat) : finL (List.replicate n 0 ++ D).reverse = D.reverse ∧ zerN (List.replicate n 0 ++ D).reverse = n := by
  unfold finL zerN
  constructor
  · rw [List.filter_reverse, List.filter_append]
    have e1 : (List.replicate n (0 : Int)).filter (fun x => decide (x ≠ 0)) = [] := by rw [List.filter_replicate, if_neg (by simp)]
    have e2 : D.filter (fun x => decide (x ≠ 0)) = D := List.filter_eq_self.mpr fun x hx => by simpa using h x hx
    rw [e1, e2, List.nil_append]
  · rw [List.countP_reverse, List.countP_append, List.countP_replicate, if_pos (by simp)]
    have e : D.countP (fun x => decide (x = 0)) = 0 := by rw [List.countP_eq_zero]; intro x hx; simpa using h x hx
    rw [e]
    simp
end Go.Proofs.Ytpplojbcjgiabaa.Num
