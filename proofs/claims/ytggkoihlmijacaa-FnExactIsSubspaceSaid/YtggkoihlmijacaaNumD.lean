/- Determinants by expansion along the first column: what rows operations do to them. -/
import Derived.Test.YtggkoihlmijacaaNumR
namespace Go.Proofs.Ytggkoihlmijacaa.Num
set_option linter.unusedVariables false
set_option linter.unusedSimpArgs false

def sgn (i : Nat) : Int := if i % 2 = 0 then 1 else -1
theorem sgn_succ (i : Nat) : sgn (i + 1) = -sgn i := by
  unfold sgn
  by_cases h : i % 2 = 0
  · rw [if_pos h, if_neg (by omega)]
  · rw [if_neg h, if_pos (by omega)]; rfl
def sumN : Nat → (Nat → Int) → Int
  | 0, _ => 0
  | n + 1, f => sumN n f + f n
theorem sumN_congr {n : Nat} {f g : Nat → Int} (h : ∀ i, i < n → f i = g i) : sumN n f = sumN n g := by
  induction n with
  | zero => rfl
  | succ n ih => show sumN n f + f n = sumN n g + g n; rw [ih fun i hi => h i (by omega), h n (by omega)]
theorem sumN_mod {p : Int} {n : Nat} {f g : Nat → Int} (h : ∀ i, i < n → f i % p = g i % p) : sumN n f % p = sumN n g % p := by
  induction n with
  | zero => rfl
  | succ n ih => show (sumN n f + f n) % p = (sumN n g + g n) % p; rw [Int.add_emod, ih fun i hi => h i (by omega), h n (by omega), ← Int.add_emod]
theorem sumN_lin {n : Nat} {f g h : Nat → Int} {x y : Int} (e : ∀ i, i < n → f i = x * g i + y * h i) : sumN n f = x * sumN n g + y * sumN n h := by
  induction n with
  | zero => simp [sumN]
  | succ n ih =>
    show sumN n f + f n = x * (sumN n g + g n) + y * (sumN n h + h n)
    rw [ih fun i hi => e i (by omega), e n (by omega)]
    grind
theorem sumN_zero {n : Nat} {f : Nat → Int} (h : ∀ i, i < n → f i = 0) : sumN n f = 0 := by
  induction n with
  | zero => rfl
  | succ n ih => show sumN n f + f n = 0; rw [ih fun i hi => h i (by omega), h n (by omega)]; rfl
theorem sumN_one {n k : Nat} {f : Nat → Int} (hk : k < n) (h : ∀ i, i < n → i ≠ k → f i = 0) : sumN n f = f k := by
  induction n with
  | zero => omega
  | succ n ih =>
    show sumN n f + f n = f k
    by_cases e : k = n
    · subst e; rw [sumN_zero fun i hi => h i (by omega) (by omega)]; simp
    · rw [ih (by omega) fun i hi hn => h i (by omega) hn, h n (by omega) (by omega)]; simp
theorem sumN_two {n k : Nat} {f : Nat → Int} (hk : k + 1 < n) (h : ∀ i, i < n → i ≠ k → i ≠ k + 1 → f i = 0) : sumN n f = f k + f (k + 1) := by
  induction n with
  | zero => omega
  | succ n ih =>
    show sumN n f + f n = _
    by_cases e : k + 1 = n
    · subst e; rw [sumN_one (k := k) (by omega) fun i hi hn => h i (by omega) hn (by omega)]
    · rw [ih (by omega) fun i hi hn hm => h i (by omega) hn hm, h n (by omega) (by omega) (by omega)]; simp

def skip (i r : Nat) : Nat := if r < i then r else r + 1
theorem skip_ne (i r : Nat) : skip i r ≠ i := by unfold skip; split <;> omega
def minor (A : Nat → Nat → Int) (i : Nat) : Nat → Nat → Int := fun r c => A (skip i r) (c + 1)
def det : Nat → (Nat → Nat → Int) → Int
  | 0, _ => 1
  | n + 1, A => sumN (n + 1) fun i => sgn i * A i 0 * det n (minor A i)
theorem det_congr {n : Nat} {A B : Nat → Nat → Int} (h : ∀ r, r < n → ∀ c, c < n → A r c = B r c) : det n A = det n B := by
  induction n generalizing A B with
  | zero => rfl
  | succ n ih =>
    refine sumN_congr fun i hi => ?_
    rw [h i hi 0 (by omega), ih (A := minor A i) (B := minor B i) fun r hr c hc => h _ (by unfold skip; split <;> omega) _ (by omega)]
theorem det_mod {p : Int} {n : Nat} {A B : Nat → Nat → Int} (h : ∀ r, r < n → ∀ c, c < n → A r c % p = B r c % p) : det n A % p = det n B % p := by
  induction n generalizing A B with
  | zero => rfl
  | succ n ih =>
    refine sumN_mod fun i hi => ?_
    have h1 := ih (A := minor A i) (B := minor B i) fun r hr c hc => h _ (by unfold skip; split <;> omega) _ (by omega)
    have h2 := h i hi 0 (by omega)
    rw [Int.mul_emod, h1, Int.mul_emod (sgn i), h2, ← Int.mul_emod (sgn i), ← Int.mul_emod]
def setRow (A : Nat → Nat → Int) (i : Nat) (f : Nat → Int) : Nat → Nat → Int := fun r => if r = i then f else A r
theorem setRow_same (A : Nat → Nat → Int) (i : Nat) (f : Nat → Int) : setRow A i f i = f := if_pos rfl
theorem setRow_ne (A : Nat → Nat → Int) {i r : Nat} (f : Nat → Int) (h : r ≠ i) : setRow A i f r = A r := if_neg h
theorem minor_set_same (A : Nat → Nat → Int) (i : Nat) (f : Nat → Int) : minor (setRow A i f) i = minor A i := by
  funext r c
  unfold minor
  rw [setRow_ne _ _ (skip_ne i r)]
def back (k i : Nat) : Nat := if i < k then i else i - 1
theorem skip_back {i k : Nat} (h : i ≠ k) : skip k (back k i) = i := by
  unfold skip back
  by_cases h1 : i < k
  · rw [if_pos h1, if_pos h1]
  · rw [if_neg h1, if_neg (by omega)]; omega
theorem back_skip (k r : Nat) : back k (skip k r) = r := by
  unfold skip back
  by_cases h1 : r < k
  · rw [if_pos h1, if_pos h1]
  · rw [if_neg h1, if_neg (by omega)]; omega
theorem minor_set_ne (A : Nat → Nat → Int) {i k : Nat} (f : Nat → Int) (h : i ≠ k) : minor (setRow A i f) k = setRow (minor A k) (back k i) (fun c => f (c + 1)) := by
  funext r c
  by_cases e : r = back k i
  · have e2 : skip k r = i := by rw [e, skip_back h]
    unfold minor
    rw [e2, setRow_same]
    unfold setRow
    rw [if_pos e]
  · have e2 : skip k r ≠ i := by
      intro h2
      apply e
      rw [← h2, back_skip]
    unfold minor
    rw [setRow_ne _ _ e2, setRow_ne _ _ e]
theorem det_lin {n i : Nat} (A : Nat → Nat → Int) (f g : Nat → Int) (x y : Int) (hi : i < n) :
    det n (setRow A i fun c => x * f c + y * g c) = x * det n (setRow A i f) + y * det n (setRow A i g) := by
  induction n generalizing A i f g with
  | zero => omega
  | succ n ih =>
    refine sumN_lin fun k hk => ?_
    by_cases e : i = k
    · subst e
      rw [setRow_same, setRow_same, setRow_same, minor_set_same, minor_set_same, minor_set_same]
      grind
    · rw [setRow_ne _ _ (Ne.symm e), setRow_ne _ _ (Ne.symm e), setRow_ne _ _ (Ne.symm e), minor_set_ne _ _ e, minor_set_ne _ _ e, minor_set_ne _ _ e,
        ih (minor A k) (fun c => f (c + 1)) (fun c => g (c + 1)) (by unfold back; split <;> omega)]
      grind
theorem det_adj {n i : Nat} {A : Nat → Nat → Int} (hi : i + 1 < n) (h : ∀ c, A i c = A (i + 1) c) : det n A = 0 := by
  induction n generalizing A i with
  | zero => omega
  | succ n ih =>
    show sumN (n + 1) _ = 0
    rw [sumN_two hi fun k hk h1 h2 => ?_]
    · have e : minor A i = minor A (i + 1) := by
        funext r c
        unfold minor skip
        by_cases h1 : r < i
        · rw [if_pos h1, if_pos (by omega)]
        · by_cases h2 : r = i
          · subst h2; rw [if_neg (by omega), if_pos (by omega)]; exact (h _).symm
          · rw [if_neg h1, if_neg (by omega)]
      rw [sgn_succ, e, h 0]
      grind
    · have hz : det n (minor A k) = 0 := by
        refine ih (i := back k i) (by unfold back; split <;> omega) fun c => ?_
        unfold minor
        have e1 : skip k (back k i) = i := skip_back (Ne.symm h1)
        have e2 : skip k (back k i + 1) = i + 1 := by
          have a : back k i + 1 = back k (i + 1) := by unfold back; by_cases g : i < k; rw [if_pos g, if_pos (by omega)]; rw [if_neg g, if_neg (by omega)]; omega
          rw [a, skip_back (Ne.symm h2)]
        rw [e1, e2, h]
      rw [hz, Int.mul_zero]
theorem setRow_self (A : Nat → Nat → Int) (i : Nat) : setRow A i (A i) = A := by
  funext r; unfold setRow; split
  · next h => rw [h]
  · rfl
theorem setRow_comm (A : Nat → Nat → Int) {i j : Nat} (f g : Nat → Int) (h : i ≠ j) : setRow (setRow A i f) j g = setRow (setRow A j g) i f := by
  funext r; unfold setRow
  by_cases h1 : r = i
  · rw [if_neg (by omega), if_pos h1, if_pos h1]
  · rw [if_neg h1, if_neg h1]
theorem setRow_set (A : Nat → Nat → Int) (i : Nat) (f g : Nat → Int) : setRow (setRow A i f) i g = setRow A i g := by
  funext r; unfold setRow; split <;> rfl
theorem det_add {n i : Nat} (A : Nat → Nat → Int) (f g : Nat → Int) (hi : i < n) : det n (setRow A i fun c => f c + g c) = det n (setRow A i f) + det n (setRow A i g) := by
  have := det_lin A f g 1 1 hi
  simpa using this
def swapR (A : Nat → Nat → Int) (i j : Nat) : Nat → Nat → Int := setRow (setRow A i (A j)) j (A i)
theorem det_swap_adj {n i : Nat} (A : Nat → Nat → Int) (hi : i + 1 < n) : det n (swapR A i (i + 1)) = -det n A := by
  have B : ∀ x y : Nat → Int, ∀ z : Nat → Int, det n (setRow (setRow A i x) (i + 1) fun c => y c + z c) = det n (setRow (setRow A i x) (i + 1) y) + det n (setRow (setRow A i x) (i + 1) z) := fun x y z => det_add _ _ _ hi
  have B' : ∀ x y z : Nat → Int, det n (setRow (setRow A i fun c => x c + y c) (i + 1) z) = det n (setRow (setRow A i x) (i + 1) z) + det n (setRow (setRow A i y) (i + 1) z) := fun x y z => by
    rw [setRow_comm _ _ _ (by omega), det_add _ _ _ (by omega), setRow_comm _ _ _ (by omega : i + 1 ≠ i), setRow_comm _ _ _ (by omega : i + 1 ≠ i)]
  have Z : ∀ x : Nat → Int, det n (setRow (setRow A i x) (i + 1) x) = 0 := fun x => det_adj hi fun c => by
    rw [setRow_same, setRow_ne _ _ (by omega), setRow_same]
  have h := Z fun c => A i c + A (i + 1) c
  rw [B, B', B', Z, Z] at h
  have e : det n (setRow (setRow A i (A i)) (i + 1) (A (i + 1))) = det n A := by rw [setRow_self, setRow_self]
  unfold swapR
  omega
theorem det_eq_rows {n : Nat} (d : Nat) : ∀ {i : Nat} {A : Nat → Nat → Int}, i + d + 1 < n → (∀ c, A i c = A (i + d + 1) c) → det n A = 0 := by
  induction d with
  | zero => intro i A hi h; exact det_adj hi h
  | succ d ih =>
    intro i A hi h
    have h1 := det_swap_adj A (i := i + d + 1) (n := n) (by omega)
    have h2 : det n (swapR A (i + d + 1) (i + d + 1 + 1)) = 0 := ih (i := i) (by omega) fun c => by
      unfold swapR
      rw [setRow_ne _ _ (by omega), setRow_ne _ _ (by omega), setRow_ne _ _ (by omega), setRow_same]
      exact h c
    omega
theorem det_eq_rows' {n i j : Nat} {A : Nat → Nat → Int} (hi : i < n) (hj : j < n) (hn : i ≠ j) (h : ∀ c, A i c = A j c) : det n A = 0 := by
  rcases Nat.lt_or_gt_of_ne hn with g | g
  · have e : j = i + (j - i - 1) + 1 := by omega
    exact det_eq_rows (j - i - 1) (i := i) (by omega) fun c => by rw [← e]; exact h c
  · have e : i = j + (i - j - 1) + 1 := by omega
    exact det_eq_rows (i - j - 1) (i := j) (by omega) fun c => by rw [← e]; exact (h c).symm
/-- A multiple of another row is added. -/
theorem det_addRow {n i j : Nat} (A : Nat → Nat → Int) (x : Int) (hi : i < n) (hj : j < n) (hn : i ≠ j) : det n (setRow A i fun c => A i c + x * A j c) = det n A := by
  have h := det_lin A (A i) (A j) 1 x hi
  have z : det n (setRow A i (A j)) = 0 := det_eq_rows' hi hj hn fun c => by rw [setRow_same, setRow_ne _ _ (Ne.symm hn)]
  rw [z, setRow_self] at h
  simpa using h
theorem det_scale {n i : Nat} (A : Nat → Nat → Int) (f : Nat → Int) (x : Int) (hi : i < n) : det n (setRow A i fun c => x * f c) = x * det n (setRow A i f) := by
  have h := det_lin A f f x 0 hi
  simpa using h
theorem det_zero_row {n i : Nat} {A : Nat → Nat → Int} (hi : i < n) (h : ∀ c, A i c = 0) : det n A = 0 := by
  have e : A = setRow A i fun c => 0 * A i c := by
    funext r; unfold setRow; split
    · next g => rw [g]; funext c; rw [h c]; simp
    · rfl
  rw [e, det_scale _ _ _ hi]; simp
theorem det_swap {n i j : Nat} (A : Nat → Nat → Int) (hi : i < n) (hj : j < n) (hn : i ≠ j) : det n (swapR A i j) = -det n A := by
  -- i += j; j -= i; i += j; then row j is the old i with the sign turned
  have h1 := det_addRow A 1 hi hj hn
  generalize hA1 : (setRow A i fun c => A i c + 1 * A j c) = A1 at h1
  have h2 := det_addRow A1 (-1) hj hi (Ne.symm hn)
  generalize hA2 : (setRow A1 j fun c => A1 j c + -1 * A1 i c) = A2 at h2
  have h3 := det_addRow A2 1 hi hj hn
  generalize hA3 : (setRow A2 i fun c => A2 i c + 1 * A2 j c) = A3 at h3
  have r1i : ∀ c, A1 i c = A i c + A j c := fun c => by rw [← hA1, setRow_same]; omega
  have r1 : ∀ r, r ≠ i → A1 r = A r := fun r hr => by rw [← hA1, setRow_ne _ _ hr]
  have r2j : ∀ c, A2 j c = -A i c := fun c => by rw [← hA2, setRow_same, r1 j (Ne.symm hn), r1i]; omega
  have r2 : ∀ r, r ≠ j → A2 r = A1 r := fun r hr => by rw [← hA2, setRow_ne _ _ hr]
  have r3i : ∀ c, A3 i c = A j c := fun c => by rw [← hA3, setRow_same, r2 i hn, r1i, r2j]; omega
  have r3 : ∀ r, r ≠ i → A3 r = A2 r := fun r hr => by rw [← hA3, setRow_ne _ _ hr]
  have e : swapR A i j = setRow A3 j fun c => -1 * A3 j c := by
    funext r c
    unfold swapR
    by_cases e1 : r = j
    · subst e1; rw [setRow_same, setRow_same, r3 _ (Ne.symm hn), r2j]; omega
    · rw [setRow_ne _ _ e1, setRow_ne _ _ e1]
      by_cases e2 : r = i
      · subst e2; rw [setRow_same, r3i]
      · rw [setRow_ne _ _ e2, r3 _ e2, r2 _ e1, r1 _ e2]
  rw [e, det_scale _ _ _ hj, setRow_self, h3, h2, h1]
  omega
/-- Where the first column is 0 below the first row. -/
theorem det_first {n : Nat} {A : Nat → Nat → Int} (h : ∀ i, 1 ≤ i → i < n + 1 → A i 0 = 0) : det (n + 1) A = A 0 0 * det n fun r c => A (r + 1) (c + 1) := by
  show sumN (n + 1) _ = _
  rw [sumN_one (k := 0) (by omega) fun i hi hn => by rw [h i (by omega) hi]; simp]
  have e : minor A 0 = fun r c => A (r + 1) (c + 1) := by funext r c; simp [minor, skip]
  rw [e]
  simp [sgn]
theorem det_first_zero {n : Nat} {A : Nat → Nat → Int} (h : ∀ i, i < n + 1 → A i 0 = 0) : det (n + 1) A = 0 := by
  show sumN (n + 1) _ = 0
  exact sumN_zero fun i hi => by rw [h i hi]; simp
end Go.Proofs.Ytggkoihlmijacaa.Num
