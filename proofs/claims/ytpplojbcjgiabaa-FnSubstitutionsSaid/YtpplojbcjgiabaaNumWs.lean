/- Plain arithmetic without Go: the exponent sums of a word, and of what a substitution makes of it. -/
import Derived.Test.YtpplojbcjgiabaaNumWe
namespace Go.Proofs.Ytpplojbcjgiabaa.Num
set_option linter.unusedVariables false

/-- What a letter adds to the sum of the generator j. -/
def sgW (j : Nat) (z : Int) : Int := if z = (j : Int) + 1 then 1 else if z = -((j : Int) + 1) then -1 else 0
def cntW (j : Nat) : List Int → Int
  | [] => 0
  | z :: t => sgW j z + cntW j t
theorem cntW_app (j : Nat) (a b : List Int) : cntW j (a ++ b) = cntW j a + cntW j b := by
  induction a with
  | nil => simp [cntW]
  | cons z t ih => simp only [List.cons_append, cntW, ih]; omega
theorem sgW_neg (j : Nat) (z : Int) : sgW j (-z) = -sgW j z := by
  unfold sgW
  by_cases h1 : z = (j : Int) + 1
  · rw [if_neg (by omega), if_pos (by omega), if_pos h1]
  · by_cases h2 : z = -((j : Int) + 1)
    · rw [if_pos (by omega), if_neg h1, if_pos h2]; omega
    · rw [if_neg (by omega), if_neg (by omega), if_neg h1, if_neg h2]; omega
theorem cntW_inv (j : Nat) (w : List Int) : cntW j (invW w) = -cntW j w := by
  induction w with
  | nil => simp [invW, cntW]
  | cons z t ih =>
    rw [invW_cons, cntW_app, ih]
    simp only [cntW, sgW_neg]
    omega
theorem cntW_push (j : Nat) (out : List Int) (x : Int) : cntW j (pushW out x) = cntW j out + sgW j x := by
  rcases concatW_cases out with rfl | ⟨o, y, rfl⟩
  · rw [pushW_nil]; simp [cntW]
  · by_cases hy : y = -x
    · rw [pushW_same o hy, cntW_app, hy]
      simp only [cntW, sgW_neg]
      omega
    · rw [pushW_other o hy, cntW_app]
      simp only [cntW]
      omega
theorem cntW_redF (j : Nat) (out w : List Int) : cntW j (redF out w) = cntW j out + cntW j w := by
  induction w generalizing out with
  | nil => simp [redF_nil, cntW]
  | cons x t ih => rw [redF_cons, ih, cntW_push]; simp only [cntW]; omega
theorem cntW_redW (j : Nat) (w : List Int) : cntW j (redW w) = cntW j w := by
  unfold redW
  rw [cntW_redF]; simp [cntW]
theorem sgW_bd (j : Nat) (z : Int) : -1 ≤ sgW j z ∧ sgW j z ≤ 1 := by
  unfold sgW
  by_cases h1 : z = (j : Int) + 1
  · rw [if_pos h1]; omega
  · rw [if_neg h1]
    by_cases h2 : z = -((j : Int) + 1)
    · rw [if_pos h2]; omega
    · rw [if_neg h2]; omega
theorem cntW_bd (j : Nat) (w : List Int) : -(w.length : Int) ≤ cntW j w ∧ cntW j w ≤ w.length := by
  induction w with
  | nil => simp [cntW]
  | cons z t ih =>
    have := sgW_bd j z
    simp only [cntW, List.length_cons]
    omega
/-- The program's sums are these. -/
theorem incS_get {acc : List Int} {x : Int} {j : Nat} (hx : x ≠ 0) (hj : j < acc.length) : (incS acc x).getD j 0 = acc.getD j 0 + sgW j x := by
  unfold incS sgW
  by_cases hp : 0 < x
  · rw [if_pos hp]
    by_cases e : (x - 1).toNat = j
    · subst e
      rw [getDW_set_self _ hj, if_pos (by omega)]
    · rw [getDW_set_ne _ e, if_neg (by omega), if_neg (by omega)]; omega
  · rw [if_neg hp]
    by_cases e : (-x - 1).toNat = j
    · subst e
      rw [getDW_set_self _ hj, if_neg (by omega), if_pos (by omega)]; omega
    · rw [getDW_set_ne _ e, if_neg (by omega), if_neg (by omega)]; omega
theorem sumF_get {w : List Int} {acc : List Int} {j : Nat} (hw : ∀ z ∈ w, z ≠ 0) (hj : j < acc.length) : (sumF acc w).getD j 0 = acc.getD j 0 + cntW j w := by
  induction w generalizing acc with
  | nil => simp [sumF, cntW]
  | cons x t ih =>
    show (sumF (incS acc x) t).getD j 0 = _
    rw [ih (fun z hz => hw z (List.mem_cons_of_mem _ hz)) (by rw [incS_len]; exact hj), incS_get (hw x (by simp)) hj]
    simp only [cntW]
    omega
theorem sumW_get {k : Int} {w : List Int} {j : Nat} (hw : ∀ z ∈ w, z ≠ 0) (hj : j < k.toNat) : (sumW k w).getD j 0 = cntW j w := by
  unfold sumW
  rw [sumF_get hw (by rw [List.length_replicate]; exact hj), List.getD_eq_getElem?_getD, List.getElem?_replicate, if_pos hj]
  simp
theorem sumW_len (k : Int) (w : List Int) : (sumW k w).length = k.toNat := by unfold sumW; rw [sumF_len, List.length_replicate]

/-! ### What a substitution makes of the sums -/
/-- The sum over the generators up to i. -/
def totW (imgs : List (List Int)) (w : List Int) (j : Nat) : Nat → Int
  | 0 => 0
  | i + 1 => totW imgs w j i + cntW i w * cntW j (imgs.getD i [])
theorem totW_nil (imgs : List (List Int)) (j i : Nat) : totW imgs [] j i = 0 := by
  induction i with
  | zero => rfl
  | succ i ih => simp only [totW, ih, cntW]; omega
/-- One letter alone. -/
def oneW (imgs : List (List Int)) (z : Int) (j : Nat) : Nat → Int
  | 0 => 0
  | i + 1 => oneW imgs z j i + sgW i z * cntW j (imgs.getD i [])
theorem totW_cons (imgs : List (List Int)) (z : Int) (t : List Int) (j i : Nat) : totW imgs (z :: t) j i = oneW imgs z j i + totW imgs t j i := by
  induction i with
  | zero => rfl
  | succ i ih =>
    simp only [totW, oneW, ih, cntW, Int.add_mul]
    omega
theorem oneW_none (imgs : List (List Int)) (z : Int) (j i : Nat) (h : ∀ q, q < i → sgW q z = 0) : oneW imgs z j i = 0 := by
  induction i with
  | zero => rfl
  | succ i ih =>
    simp only [oneW]
    rw [ih (fun q hq => h q (by omega)), h i (by omega)]
    simp
theorem sgW_at {q i : Nat} {z : Int} (hz : z = (q : Int) + 1 ∨ z = -((q : Int) + 1)) (hne : i ≠ q) : sgW i z = 0 := by
  unfold sgW
  rw [if_neg (by omega), if_neg (by omega)]
theorem oneW_one (imgs : List (List Int)) (z : Int) (j q i : Nat) (hz : z = (q : Int) + 1 ∨ z = -((q : Int) + 1)) (hi : q < i) : oneW imgs z j i = sgW q z * cntW j (imgs.getD q []) := by
  induction i with
  | zero => omega
  | succ i ih =>
    simp only [oneW]
    by_cases e : q = i
    · subst e
      rw [oneW_none imgs z j q (fun p hp => sgW_at hz (by omega))]
      omega
    · rw [ih (by omega), sgW_at hz (i := i) (fun h => e h.symm)]
      simp
theorem facW_cnt (imgs : List (List Int)) (z : Int) (j q : Nat) (hz : z = (q : Int) + 1 ∨ z = -((q : Int) + 1)) : cntW j (facW imgs z) = sgW q z * cntW j (imgs.getD q []) := by
  rcases hz with h | h
  · have e : (z - 1).toNat = q := by omega
    have s : sgW q z = 1 := if_pos h
    unfold facW
    rw [if_pos (by omega), e, s]
    omega
  · have e : (-z - 1).toNat = q := by omega
    have s : sgW q z = -1 := by unfold sgW; rw [if_neg (by omega), if_pos h]
    unfold facW
    rw [if_neg (by omega), e, cntW_inv, s]
    omega
theorem repW_cnt (imgs : List (List Int)) (w : List Int) (j K : Nat) (hw : ∀ z ∈ w, z ≠ 0 ∧ -(K : Int) ≤ z ∧ z ≤ K) : cntW j (repW imgs w) = totW imgs w j K := by
  induction w with
  | nil => rw [totW_nil]; simp [repW, facsW, cntW]
  | cons z t ih =>
    have hz := hw z (by simp)
    obtain ⟨q, hq, hqK⟩ : ∃ q : Nat, (z = (q : Int) + 1 ∨ z = -((q : Int) + 1)) ∧ q < K := by
      rcases Int.lt_or_gt_of_ne hz.1 with h | h
      · exact ⟨(-z - 1).toNat, by omega, by omega⟩
      · exact ⟨(z - 1).toNat, by omega, by omega⟩
    have e : repW imgs (z :: t) = facW imgs z ++ repW imgs t := by simp [repW, facsW]
    rw [e, cntW_app, totW_cons, ih (fun y hy => hw y (List.mem_cons_of_mem _ hy)), facW_cnt imgs z j q hq, oneW_one imgs z j q K hq hqK]
theorem mul_bdW {a b : Int} (h1 : -64 ≤ a) (h2 : a ≤ 64) (h3 : -64 ≤ b) (h4 : b ≤ 64) : -(64 * 64 : Int) ≤ a * b ∧ a * b ≤ 64 * 64 := by
  have p1 : 0 ≤ (64 - a) * (64 + b) := Int.mul_nonneg (by omega) (by omega)
  have p2 : 0 ≤ (64 + a) * (64 - b) := Int.mul_nonneg (by omega) (by omega)
  have p3 : 0 ≤ (64 - a) * (64 - b) := Int.mul_nonneg (by omega) (by omega)
  have p4 : 0 ≤ (64 + a) * (64 + b) := Int.mul_nonneg (by omega) (by omega)
  simp only [Int.sub_mul, Int.mul_sub, Int.add_mul, Int.mul_add] at p1 p2 p3 p4
  omega
theorem totW_bd (imgs : List (List Int)) (w : List Int) (j i : Nat) (hw : w.length ≤ 64) (hi : ∀ q, (imgs.getD q []).length ≤ 64) : -(4096 * (i : Int)) ≤ totW imgs w j i ∧ totW imgs w j i ≤ 4096 * (i : Int) := by
  induction i with
  | zero => simp [totW]
  | succ i ih =>
    have b1 := cntW_bd i w
    have b2 := cntW_bd j (imgs.getD i [])
    have b3 := hi i
    have : -(64 * 64 : Int) ≤ cntW i w * cntW j (imgs.getD i []) ∧ cntW i w * cntW j (imgs.getD i []) ≤ 64 * 64 := mul_bdW (by omega) (by omega) (by omega) (by omega)
    simp only [totW]
    omega
end Go.Proofs.Ytpplojbcjgiabaa.Num
