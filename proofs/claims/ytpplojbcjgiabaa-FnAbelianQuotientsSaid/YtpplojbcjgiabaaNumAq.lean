/- Plain arithmetic without Go: quotients of abelian groups by how many orders each prime power divides. -/
import Derived.Test.YtpplojbcjgiabaaNumAp
namespace Go.Proofs.Ytpplojbcjgiabaa.Num
set_option linter.unusedVariables false

theorem chain_div {F : List Int} (h : chainB F = true) (i : Nat) : ∀ n, i + n < F.length → F.getD i 0 ∣ F.getD (i + n) 0
  | 0, _ => Int.dvd_refl _
  | n + 1, hn => by
    have ih := chain_div h i n (by omega)
    have hl := (chainB_out h (i + n + 1) (by omega)).2
    rw [prevD_succ] at hl
    exact Int.dvd_trans ih (Int.dvd_of_emod_eq_zero hl)
theorem ab_dc {F : List Int} {K : Int} (h : abB F K = true) : DC (chainL F K).reverse := by
  obtain ⟨-, -, -, h4, h5⟩ := abB_out h
  have hF : ∀ x ∈ F, 2 ≤ x := fun x hx => by
    obtain ⟨j, hj, rfl⟩ := List.mem_iff_getElem.mp hx
    have := (h4 j hj).1
    rwa [List.getD_eq_getElem?_getD, List.getElem?_eq_getElem hj] at this
  have hD : DC F.reverse := by
    refine ⟨List.pairwise_reverse.mpr (List.pairwise_iff_getElem.mpr fun i j hi hj hij => ?_), fun x hx => ?_⟩
    · have := chain_div h5 i (j - i) (by omega)
      rw [show i + (j - i) = j by omega, List.getD_eq_getElem?_getD, List.getD_eq_getElem?_getD, List.getElem?_eq_getElem hi, List.getElem?_eq_getElem hj] at this
      exact this
    · have := hF x (by simpa using hx)
      omega
  unfold chainL
  rw [List.reverse_append, List.reverse_replicate]
  exact zeros_dc hD _
theorem dc_at {q : Int} : ∀ {D : List Int}, DC D → ∀ {i : Nat}, i < D.length → (q ∣ D.getD i 0 ↔ i < cntQ q D)
  | [], _, i, hi => by simp at hi
  | x :: D, h, 0, _ => by simpa using DC.head h
  | x :: D, h, i + 1, hi => by
    have ih := dc_at (q := q) h.tail (i := i) (by simpa using hi)
    have hx := DC.head (q := q) h
    rw [cntQ_cons] at hx ⊢
    rw [List.getD_cons_succ, ih]
    constructor
    · intro h1
      rw [if_pos (hx.mpr (by omega))]
      omega
    · intro h1
      by_cases h2 : q ∣ x
      · rw [if_pos h2] at h1; omega
      · rw [if_neg h2] at h1 hx
        exact absurd (hx.mpr (by omega)) h2
theorem dc_nn {D : List Int} (h : DC D) (i : Nat) : 0 ≤ D.getD i 0 := by
  by_cases hi : i < D.length
  · rw [List.getD_eq_getElem?_getD, List.getElem?_eq_getElem hi]
    exact (h.2 _ (List.getElem_mem hi)).1
  · rw [List.getD_eq_getElem?_getD, List.getElem?_eq_none (by omega)]
    exact Int.le_refl 0
theorem cov_of_cnt {D E : List Int} (hD : DC D) (hE : DC E) (h : ∀ q, PP q → cntQ q E ≤ cntQ q D) : covD D E = true := by
  have hlen : E.length ≤ D.length := by
    by_cases hl : E.length ≤ D.length
    · exact hl
    · have hi : D.length < E.length := by omega
      have h1 : E.getD D.length 0 ≠ 1 := by
        rw [List.getD_eq_getElem?_getD, List.getElem?_eq_getElem hi]
        exact (hE.2 _ (List.getElem_mem hi)).2
      obtain ⟨q, hq, hd⟩ := exists_pp (dc_nn hE D.length) h1
      have h2 := (dc_at hE hi).mp hd
      have h3 := h q hq
      have h4 : cntQ q D ≤ D.length := List.countP_le_length
      omega
  refine covD_ok hlen fun i hi hb => ?_
  have hd : E.getD i 0 ∣ D.getD i 0 := dvd_pp (dc_nn hE i) (dc_nn hD i) fun q hq hqe => by
    have h2 := (dc_at hE hi).mp hqe
    have h3 := h q hq
    exact (dc_at hD (by omega)).mpr (by omega)
  rcases hb.2 with h0 | h0
  · rw [h0] at hd
    exact hb.1 (Int.zero_dvd.mp hd)
  · exact h0 (Int.emod_eq_zero_of_dvd hd)
theorem covD_out {D E : List Int} (h : covD D E = true) : E.length ≤ D.length ∧ ∀ i, i < E.length → ¬ BadQ (D.getD i 0) (E.getD i 0) := of_decide_eq_true h
theorem badq_not {a b : Int} (h : ¬ BadQ a b) : b ∣ a := by
  by_cases ha : a = 0
  · rw [ha]; exact Int.dvd_zero _
  · by_cases hb : a % b = 0
    · exact Int.dvd_of_emod_eq_zero hb
    · exact absurd ⟨ha, .inr hb⟩ h
theorem cov_both {D E : List Int} (hD : DC D) (hE : DC E) (h1 : covD D E = true) : covD E D = decide (D = E) := by
  by_cases e : D = E
  · rw [decide_eq_true e]
    exact cov_of_cnt hE hD fun q hq => by rw [e]; exact Nat.le_refl _
  · rw [decide_eq_false e]
    by_cases h2 : covD E D = true
    · refine absurd ?_ e
      obtain ⟨l1, b1⟩ := covD_out h1
      obtain ⟨l2, b2⟩ := covD_out h2
      refine List.ext_getElem (by omega) fun i hi hj => ?_
      have d1 := badq_not (b1 i hj)
      have d2 := badq_not (b2 i hi)
      have n1 := dc_nn hD i
      have n2 := dc_nn hE i
      have := Int.dvd_antisymm n1 n2 d2 d1
      rwa [List.getD_eq_getElem?_getD, List.getD_eq_getElem?_getD, List.getElem?_eq_getElem hi, List.getElem?_eq_getElem hj] at this
    · simpa using h2
theorem fin_ab {F : List Int} {K : Int} (h : abB F K = true) : finL (chainL F K) = F := by
  obtain ⟨-, -, -, h4, -⟩ := abB_out h
  unfold finL chainL
  rw [List.filter_append, List.filter_replicate, if_neg (by simp), List.append_nil]
  refine List.filter_eq_self.mpr fun x hx => ?_
  obtain ⟨j, hj, rfl⟩ := List.mem_iff_getElem.mp hx
  have := (h4 j hj).1
  rw [List.getD_eq_getElem?_getD, List.getElem?_eq_getElem hj] at this
  simp only [Option.getD_some] at this
  simp; omega
theorem chainL_inj {F G : List Int} {K L : Int} (h : abB F K = true) (h' : abB G L = true) : (chainL F K).reverse = (chainL G L).reverse ↔ F = G ∧ K = L := by
  constructor
  · intro e
    have e := List.reverse_inj.mp e
    have e1 : F = G := by rw [← fin_ab h, ← fin_ab h', e]
    have e2 : (chainL F K).length = (chainL G L).length := by rw [e]
    rw [chainL_len, chainL_len, e1] at e2
    have k1 := (abB_out h).2.1
    have k2 := (abB_out h').2.1
    exact ⟨e1, by omega⟩
  · rintro ⟨rfl, rfl⟩; rfl
theorem dc_split : ∀ {D : List Int}, DC D → ∃ n E, D = List.replicate n 0 ++ E ∧ ∀ x ∈ E, x ≠ 0
  | [], _ => ⟨0, [], rfl, fun x hx => by cases hx⟩
  | x :: D, h => by
    by_cases hx : x = 0
    · obtain ⟨n, E, e, hE⟩ := dc_split h.tail
      exact ⟨n + 1, E, by rw [hx, e]; rfl, hE⟩
    · refine ⟨0, x :: D, rfl, fun y hy => ?_⟩
      rcases List.mem_cons.mp hy with rfl | hy
      · exact hx
      · intro h0
        have := (List.pairwise_cons.mp h.1).1 y hy
        rw [h0] at this
        exact hx (Int.zero_dvd.mp this)
theorem dc_chain {D : List Int} (h : DC D) : chainL (finL D.reverse) (zerN D.reverse) = D.reverse := by
  obtain ⟨n, E, rfl, hE⟩ := dc_split h
  obtain ⟨e1, e2⟩ := fin_zeros hE n
  unfold chainL
  rw [e1, e2, List.reverse_append, List.reverse_replicate, Int.toNat_natCast]
end Go.Proofs.Ytpplojbcjgiabaa.Num
