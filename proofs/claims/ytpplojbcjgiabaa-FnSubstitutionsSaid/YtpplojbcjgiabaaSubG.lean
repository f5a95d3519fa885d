/- The law of substitutions: what it asks of the data. -/
import Derived.Test.YtpplojbcjgiabaaNumWs
import Derived.Test.YtpplojbcjgiabaaWordG
import Derived.Test.YtpplojbcjgiabaaD6D
import Derived.Test.YtpplojbcjgiabaaL10H
import Derived.Test.YtpplojbcjgiabaaL10M
namespace Go.Proofs.Ytpplojbcjgiabaa
open Go.RowKit
set_option linter.unusedVariables false
set_option linter.unusedSimpArgs false

theorem subC_zero {k m : Int} {a : List Int} {imgs : List (List Int)} (h : subC k a m imgs = 0) :
    (0 ≤ k ∧ k ≤ 6) ∧ (0 ≤ m ∧ m ≤ 6) ∧ Num.isWB k a = true ∧ (imgs.length : Int) = k ∧ imgs.all (Num.isWB m) = true := by
  unfold subC at h
  split at h
  · rename_i h1
    split at h
    · rename_i h2
      exact ⟨h1.1, h1.2, h2.1, h2.2.1, h2.2.2⟩
    · omega
  · omega
theorem subC_of {k m : Int} {a : List Int} {imgs : List (List Int)} (hk : 0 ≤ k ∧ k ≤ 6) (hm : 0 ≤ m ∧ m ≤ 6) (ha : Num.isWB k a = true) (hl : (imgs.length : Int) = k) (hi : imgs.all (Num.isWB m) = true) : subC k a m imgs = 0 := by
  unfold subC
  rw [if_pos ⟨hk, hm⟩, if_pos ⟨ha, hl, hi⟩]
theorem Num.isWB_sub {k : Int} {a b : List Int} (h : Num.isWB k a = true) (hl : b.length ≤ a.length) (hs : ∀ z ∈ b, z ∈ a) : Num.isWB k b = true :=
  Num.isWB_iff.mpr ⟨by have := (Num.isWB_iff.mp h).1; omega, fun z hz => (Num.isWB_iff.mp h).2 z (hs z hz)⟩
theorem Num.repW_app (imgs : List (List Int)) (a b : List Int) : Num.repW imgs (a ++ b) = Num.repW imgs a ++ Num.repW imgs b := by simp [Num.repW, Num.facsW]
theorem Num.img_isWB {m : Int} {imgs : List (List Int)} (hi : imgs.all (Num.isWB m) = true) (i : Nat) : Num.isWB m (imgs.getD i []) = true := by
  by_cases h : i < imgs.length
  · rw [List.getD_eq_getElem?_getD, List.getElem?_eq_getElem h]
    exact List.all_eq_true.mp hi _ (List.getElem_mem h)
  · rw [List.getD_eq_getElem?_getD, List.getElem?_eq_none (by omega)]
    exact Num.isWB_nil _
/-- The letters of a word in the place of letters. -/
theorem Num.rep_small {k m : Int} {a : List Int} {imgs : List (List Int)} (ha : Num.isWB k a = true) (hi : imgs.all (Num.isWB m) = true) : ∀ z ∈ Num.repW imgs a, z ≠ 0 ∧ -m ≤ z ∧ z ≤ m := by
  intro z hz
  unfold Num.repW Num.facsW at hz
  obtain ⟨u, hu, hzu⟩ := List.mem_flatten.mp hz
  obtain ⟨x, hx, rfl⟩ := List.mem_map.mp hu
  unfold Num.facW at hzu
  split at hzu
  · exact (Num.isWB_iff.mp (Num.img_isWB hi _)).2 z hzu
  · exact (Num.isWB_iff.mp (isWB_inv (Num.img_isWB hi (-x - 1).toNat))).2 z hzu
theorem subs_word {k m : Int} {a : List Int} {imgs : List (List Int)} (h : subC k a m imgs = 0) (hc : cSubstituteWord k a m imgs = 0) :
    rSubstituteWord k a m imgs = Num.redW (Num.repW imgs a) ∧ Num.isWB m (rSubstituteWord k a m imgs) = true := by
  obtain ⟨hk, hm, ha, hl, hi⟩ := subC_zero h
  have e1 : cSubstituteWord k a m imgs = Num.limC (Num.repW imgs a) := if_pos h
  have e2 : rSubstituteWord k a m imgs = Num.limR (Num.repW imgs a) := if_pos h
  rw [e1] at hc
  obtain ⟨l1, l2⟩ := limC_zero hc
  rw [e2, l2]
  exact ⟨rfl, isWB_red (Num.rep_small ha hi) l1⟩
theorem subs_codes {k m : Int} {a : List Int} {imgs : List (List Int)} (h : subC k a m imgs = 0) : cSubstituteWord k a m imgs = 0 ∨ cSubstituteWord k a m imgs = 3 := by
  have e1 : cSubstituteWord k a m imgs = Num.limC (Num.repW imgs a) := if_pos h
  rw [e1]
  exact limC_cases _
theorem subs_halves {k m : Int} {a : List Int} {imgs : List (List Int)} (h : subC k a m imgs = 0) (hc : cSubstituteWord k a m imgs = 0) (n : Nat) :
    (cSubstituteWord k (a.take n) m imgs = 0 ∨ cSubstituteWord k (a.take n) m imgs = 3) ∧ (cSubstituteWord k (a.drop n) m imgs = 0 ∨ cSubstituteWord k (a.drop n) m imgs = 3) ∧
    (cSubstituteWord k (a.take n) m imgs = 0 → cSubstituteWord k (a.drop n) m imgs = 0 →
      cMultiplyWords m (rSubstituteWord k (a.take n) m imgs) (rSubstituteWord k (a.drop n) m imgs) = 0 ∧ rMultiplyWords m (rSubstituteWord k (a.take n) m imgs) (rSubstituteWord k (a.drop n) m imgs) = rSubstituteWord k a m imgs) := by
  obtain ⟨hk, hm, ha, hl, hi⟩ := subC_zero h
  have h1 : subC k (a.take n) m imgs = 0 := subC_of hk hm (Num.isWB_sub ha (by rw [List.length_take]; omega) (fun z hz => List.mem_of_mem_take hz)) hl hi
  have h2 : subC k (a.drop n) m imgs = 0 := subC_of hk hm (Num.isWB_sub ha (by simp) (fun z hz => List.mem_of_mem_drop hz)) hl hi
  refine ⟨subs_codes h1, subs_codes h2, fun c1 c2 => ?_⟩
  obtain ⟨r1, w1⟩ := subs_word h1 c1
  obtain ⟨r2, w2⟩ := subs_word h2 c2
  have hz := code_two_of hm w1 w2
  have e : Num.redW (rSubstituteWord k (a.take n) m imgs ++ rSubstituteWord k (a.drop n) m imgs) = Num.redW (Num.repW imgs a) := by
    rw [r1, r2, Num.redW_left, Num.redW_right, ← Num.repW_app, List.take_append_drop]
  obtain ⟨e3, e4⟩ := lim_eq e
  have e1 : cSubstituteWord k a m imgs = Num.limC (Num.repW imgs a) := if_pos h
  have e2 : rSubstituteWord k a m imgs = Num.limR (Num.repW imgs a) := if_pos h
  rw [(mul_of hz).1, (mul_of hz).2, e3, e4, ← e1, ← e2]
  exact ⟨hc, rfl⟩
theorem sums_of {k : Int} {a : List Int} (hk : 0 ≤ k ∧ k ≤ 6) (ha : Num.isWB k a = true) : cExponentSums k a = 0 ∧ rExponentSums k a = Num.sumW k a := ⟨code_one_of hk ha, if_pos (code_one_of hk ha)⟩
theorem subs_sums {k m : Int} {a : List Int} {imgs : List (List Int)} (h : subC k a m imgs = 0) (hc : cSubstituteWord k a m imgs = 0) :
    cExponentSums m (rSubstituteWord k a m imgs) = 0 ∧ cExponentSums k a = 0 ∧ rExponentSums k a = Num.sumW k a ∧
    (∀ i, cExponentSums m (imgs.getD i []) = 0 ∧ rExponentSums m (imgs.getD i []) = Num.sumW m (imgs.getD i [])) ∧
    ∀ L : List Int, L.length = m.toNat → (∀ j, j < m.toNat → L.getD j 0 = Num.totW imgs a j k.toNat) → rExponentSums m (rSubstituteWord k a m imgs) = L := by
  obtain ⟨hk, hm, ha, hl, hi⟩ := subC_zero h
  obtain ⟨r, wr⟩ := subs_word h hc
  have s := sums_of hm wr
  refine ⟨s.1, (sums_of hk ha).1, (sums_of hk ha).2, fun i => sums_of hm (Num.img_isWB hi i), fun L hL hj => ?_⟩
  rw [s.2]
  refine Num.extW (by rw [Num.sumW_len, hL]) fun j hj' => ?_
  rw [Num.sumW_len] at hj'
  rw [hj j hj', Num.sumW_get (fun z hz => ((Num.isWB_iff.mp wr).2 z hz).1) hj', r, Num.cntW_redW]
  refine Num.repW_cnt imgs a j k.toNat fun z hz => ?_
  have := (Num.isWB_iff.mp ha).2 z hz
  omega
/-- One step of the sum over the generators. -/
theorem subs_step {k m : Int} {a : List Int} {imgs : List (List Int)} (h : subC k a m imgs = 0) (i j : Nat) (hi' : (i : Int) < k) (hj : (j : Int) < m) :
    Num.totW imgs a j (i + 1) = Num.totW imgs a j i + (Num.sumW k a).getD i 0 * (Num.sumW m (imgs.getD i [])).getD j 0 ∧
    -40000 ≤ Num.totW imgs a j i ∧ Num.totW imgs a j i ≤ 40000 ∧
    -(64 * 64 : Int) ≤ (Num.sumW k a).getD i 0 * (Num.sumW m (imgs.getD i [])).getD j 0 ∧ (Num.sumW k a).getD i 0 * (Num.sumW m (imgs.getD i [])).getD j 0 ≤ 64 * 64 := by
  obtain ⟨hk, hm, ha, hl, hi⟩ := subC_zero h
  have wi := Num.isWB_iff.mp (Num.img_isWB hi i)
  have wa := Num.isWB_iff.mp ha
  rw [Num.sumW_get (fun z hz => (wa.2 z hz).1) (by omega), Num.sumW_get (fun z hz => (wi.2 z hz).1) (by omega)]
  have b1 := Num.cntW_bd i a
  have b2 := Num.cntW_bd j (imgs.getD i [])
  have b3 := Num.totW_bd imgs a j i wa.1 (fun q => (Num.isWB_iff.mp (Num.img_isWB hi q)).1)
  have b4 := Num.mul_bdW (a := Num.cntW i a) (b := Num.cntW j (imgs.getD i [])) (by omega) (by omega) (by omega) (by omega)
  exact ⟨rfl, by omega, by omega, b4.1, b4.2⟩
/-- The list of the totals, on its way. -/
def MidT (imgs : List (List Int)) (a : List Int) (M i j0 : Nat) (L : List Int) : Prop :=
  L.length = M ∧ ∀ j, j < M → L.getD j 0 = if j < j0 then Num.totW imgs a j (i + 1) else Num.totW imgs a j i
theorem MidT.zero (imgs : List (List Int)) (a : List Int) (M : Nat) : MidT imgs a M 0 0 (List.replicate M 0) := by
  refine ⟨by simp, fun j hj => ?_⟩
  rw [if_neg (by omega), List.getD_eq_getElem?_getD, List.getElem?_replicate, if_pos hj]
  rfl
theorem MidT.step {imgs : List (List Int)} {a : List Int} {M i j : Nat} {L : List Int} (h : MidT imgs a M i j L) (hj : j < M) : L.getD j 0 = Num.totW imgs a j i ∧ MidT imgs a M i (j + 1) (L.set j (Num.totW imgs a j (i + 1))) := by
  refine ⟨by rw [h.2 j hj, if_neg (by omega)], by rw [List.length_set, h.1], fun q hq => ?_⟩
  by_cases e : j = q
  · subst e
    rw [Num.getDW_set_self _ (by rw [h.1]; exact hj), if_pos (by omega)]
  · rw [Num.getDW_set_ne _ e, h.2 q hq]
    by_cases h1 : q < j
    · rw [if_pos h1, if_pos (by omega)]
    · rw [if_neg h1, if_neg (by omega)]
theorem MidT.next {imgs : List (List Int)} {a : List Int} {M i : Nat} {L : List Int} (h : MidT imgs a M i M L) : MidT imgs a M (i + 1) 0 L := by
  refine ⟨h.1, fun q hq => ?_⟩
  rw [h.2 q hq, if_pos hq, if_neg (by omega)]
end Go.Proofs.Ytpplojbcjgiabaa
