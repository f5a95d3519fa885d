/- The reduced form of the rows of a matrix with the identity matrix on their right: inverse, left kernel, smallest solution. -/
import Derived.Test.YtggkoihlmijacaaNumQ
namespace Go.Proofs.Ytggkoihlmijacaa.Num
set_option linter.unusedVariables false
set_option linter.unusedSimpArgs false

def unitV (n i : Nat) : List Int := tab n fun j => if j = i then 1 else 0
theorem unitV_length (n i : Nat) : (unitV n i).length = n := tab_length _ _
def zeroV (n : Nat) : List Int := List.replicate n 0
theorem zeroV_get (n i : Nat) : (zeroV n).getD i 0 = 0 := by
  by_cases h : i < n
  · simp [zeroV, h]
  · exact getD_ge _ _ (by simp [zeroV]; omega)
theorem unitV_get (n i j : Nat) : (unitV n i).getD j 0 = if j < n ∧ j = i then 1 else 0 := by
  by_cases h : j < n
  · rw [unitV, tab_get _ _ h]; simp [h]
  · rw [getD_ge _ _ (by rw [unitV_length]; omega), if_neg (by omega)]
theorem zeroV_set {n i : Nat} (h : i < n) : (zeroV n).set i 1 = unitV n i := by
  refine ext_getD 0 (by simp [zeroV, unitV_length]) fun j hj => ?_
  have hj' : j < n := by simpa [zeroV] using hj
  rw [unitV_get]
  by_cases e : j = i
  · subst e
    rw [if_pos ⟨hj', rfl⟩, List.getD_eq_getElem?_getD, List.getElem?_set_self (by simpa [zeroV] using hj')]
    rfl
  · rw [if_neg (by omega), List.getD_eq_getElem?_getD, List.getElem?_set_ne (Ne.symm e), ← List.getD_eq_getElem?_getD, zeroV_get]
theorem app_get (v w : List Int) (j : Nat) : (v ++ w).getD j 0 = if j < v.length then v.getD j 0 else w.getD (j - v.length) 0 := by
  by_cases h : j < v.length
  · rw [if_pos h, List.getD_eq_getElem?_getD, List.getElem?_append_left h, ← List.getD_eq_getElem?_getD]
  · rw [if_neg h, List.getD_eq_getElem?_getD, List.getElem?_append_right (by omega), ← List.getD_eq_getElem?_getD]
theorem drop_get (v : List Int) (c j : Nat) : (v.drop c).getD j 0 = v.getD (c + j) 0 := by
  simp [List.getD_eq_getElem?_getD, List.getElem?_drop]
theorem Vec.unit {p : Int} (hp : 1 < p) (n i : Nat) : Vec p n (unitV n i) := by
  refine Vec.tab (by omega) fun j _ => ?_
  by_cases e : j = i
  · rw [if_pos e]; omega
  · rw [if_neg e]; omega
theorem Vec.zeros {p : Int} (hp : 0 < p) (n : Nat) : Vec p n (zeroV n) := ⟨by simp [zeroV], fun i => by rw [zeroV_get]; exact Int.le_refl _, fun i => by rw [zeroV_get]; exact hp⟩
theorem Vec.app {p : Int} {n m : Nat} {v w : List Int} (h : Vec p n v) (k : Vec p m w) : Vec p (n + m) (v ++ w) := by
  refine ⟨by rw [List.length_append, h.len, k.len], fun i => ?_, fun i => ?_⟩
  all_goals
    rw [app_get]
    split
    · first | exact h.lo _ | exact h.hi _
    · first | exact k.lo _ | exact k.hi _

def wideR (rows : List (List Int)) : List (List Int) := (List.range rows.length).map fun i => rows.getD i [] ++ unitV rows.length i
theorem wideR_length (rows : List (List Int)) : (wideR rows).length = rows.length := by simp [wideR]
theorem wideR_get {rows : List (List Int)} {i : Nat} (h : i < rows.length) : (wideR rows).getD i [] = rows.getD i [] ++ unitV rows.length i := by
  rw [getD_lt _ _ (by rw [wideR_length]; exact h)]
  simp [wideR]
noncomputable def wideE (p : Int) (rows : List (List Int)) : List (List Int) := reduceR p (wideR rows)
section wide
variable {p : Int} {C : Nat} {rows : List (List Int)}
theorem wide_vec (hp : 1 < p) (h : ∀ i, i < rows.length → Vec p C (rows.getD i [])) (i : Nat) (hi : i < (wideR rows).length) : Vec p (C + rows.length) ((wideR rows).getD i []) := by
  rw [wideR_length] at hi
  rw [wideR_get hi]
  exact (h i hi).app (Vec.unit hp _ _)
theorem wide_ech (hp : gp p = true) (h : ∀ i, i < rows.length → Vec p C (rows.getD i [])) : Ech p (C + rows.length) (wideE p rows) :=
  ech_reduce_all hp (wide_vec (by have := gp_le hp; omega) h)
/-- All rows are 0 from column c on. -/
def ZeroFrom (e : List (List Int)) (c : Nat) : Prop := ∀ i, i < e.length → ∀ j, c ≤ j → (e.getD i []).getD j 0 = 0
theorem clear_zero_from {n : Nat} {e : List (List Int)} {v : List Int} {c : Nat} (h : Ech p n e) (hz : ZeroFrom e c) (hv : Vec p n v) (hp : 0 < p) {j : Nat} (hj : c ≤ j) : (clearV p e v).getD j 0 = v.getD j 0 := by
  suffices H : ∀ k, k ≤ e.length → (clearV p (e.take k) v).getD j 0 = v.getD j 0 by
    have := H e.length (Nat.le_refl _)
    rwa [List.take_length] at this
  intro k
  induction k with
  | zero => intro _; simp [clearV]
  | succ k ih =>
    intro hk
    have h1 := (h.clear_to hp hv k (by omega)).1
    have hl : (e.getD k []).length = (clearV p (e.take k) v).length := by rw [(h.vec k (by omega)).len, h1.len]
    rw [clear_take (by omega)]
    unfold clearStep
    rw [addV_get hl, hz k (by omega) j hj, ih (by omega), Int.mul_zero, Int.add_zero, hv.mod]
theorem step_grows {n : Nat} {e : List (List Int)} {row : List Int} {c : Nat} (hp : gp p = true) (h : Ech p n e) (hv : Vec p n row) (hz : ZeroFrom e c) (hc : c < n) (h1 : row.getD c 0 = 1) (h2 : ∀ j, c < j → row.getD j 0 = 0) :
    (reduceStep p e row).length = e.length + 1 ∧ ZeroFrom (reduceStep p e row) (c + 1) := by
  have hp2 := gp_le hp
  obtain ⟨c1, c2⟩ := h.clear (by omega) hv
  have e1 : ∀ j, c ≤ j → (clearV p e row).getD j 0 = row.getD j 0 := fun j hj => clear_zero_from h hz hv (by omega) hj
  have hk : lead (clearV p e row) < n := by
    rcases Nat.lt_or_ge c (lead (clearV p e row)) with g | g
    · have := lead_zero g
      rw [e1 c (Nat.le_refl _), h1] at this
      omega
    · omega
  obtain ⟨u1, u2, u3⟩ := unify_facts hp c1 hk
  have hle := c1.len
  unfold reduceStep
  rw [if_neg (by omega)]
  have hpl : place e (lead (clearV p e row)) ≤ (e.map (cut p (unify p (clearV p e row)) (lead (clearV p e row)))).length := by simpa using place_le e _
  have hu : ∀ j, c + 1 ≤ j → (unify p (clearV p e row)).getD j 0 = 0 := fun j hj => u2 j (by rw [e1 j (by omega)]; exact h2 j (by omega))
  refine ⟨by unfold insRow; rw [putAt_length hpl]; simp, fun i hi j hj => ?_⟩
  have hi' : i < e.length + 1 := by unfold insRow at hi; rw [putAt_length hpl] at hi; simpa using hi
  have key : ∀ a, a < e.length → (cut p (unify p (clearV p e row)) (lead (clearV p e row)) (e.getD a [])).getD j 0 = 0 := fun a ha => by
    rw [cut_get (by rw [u1.len, (h.vec a ha).len]), hu j hj, hz a ha j (by omega)]
    simp
  have hple := place_le e (lead (clearV p e row))
  unfold insRow
  rw [putAt_get hpl]
  by_cases a : i < place e (lead (clearV p e row))
  · rw [if_pos a, map_getD (by omega)]; exact key i (by omega)
  · rw [if_neg a]
    by_cases b : i = place e (lead (clearV p e row))
    · rw [if_pos b]; exact hu j hj
    · rw [if_neg b, map_getD (by omega)]; exact key _ (by omega)
theorem wide_len_to (hp : gp p = true) (h : ∀ i, i < rows.length → Vec p C (rows.getD i [])) (j : Nat) (hj : j ≤ rows.length) :
    (reduceR p ((wideR rows).take j)).length = j ∧ ZeroFrom (reduceR p ((wideR rows).take j)) (C + j) := by
  have hp2 := gp_le hp
  have hw := wide_vec (by omega) h
  induction j with
  | zero => exact ⟨by simp [reduceR], fun i hi => by simp [reduceR] at hi⟩
  | succ j ih =>
    obtain ⟨i1, i2⟩ := ih (by omega)
    have hj' : j < (wideR rows).length := by rw [wideR_length]; omega
    rw [reduce_take hj']
    have hv := hw j hj'
    have g : ∀ c, ((wideR rows).getD j []).getD (C + c) 0 = if c < rows.length ∧ c = j then 1 else 0 := fun c => by
      rw [wideR_get (by omega), app_get, (h j (by omega)).len, if_neg (by omega), Nat.add_sub_cancel_left, unitV_get]
    obtain ⟨s1, s2⟩ := step_grows hp (ech_reduce hp hw j (by omega)) hv i2 (by omega) (by rw [g, if_pos ⟨by omega, rfl⟩]) (fun c hc => by
      have : c = C + (c - C) := by omega
      rw [this, g, if_neg (by omega)])
    exact ⟨by rw [s1, i1], s2⟩
theorem wide_len (hp : gp p = true) (h : ∀ i, i < rows.length → Vec p C (rows.getD i [])) : (wideE p rows).length = rows.length := by
  have := (wide_len_to hp h rows.length (Nat.le_refl _)).1
  rwa [List.take_of_length_le (by rw [wideR_length]; exact Nat.le_refl _)] at this
end wide
section ech
variable {p : Int} {n : Nat} {e : List (List Int)}
/-- All leads are the indices exactly if as many rows as columns lead ahead of C. -/
theorem Ech.full (h : Ech p n e) {C : Nat} (hl : e.length = C) : (∀ i, i < e.length → lead (e.getD i []) = i) ↔ ¬ place e C < C := by
  constructor
  · intro hi hlt
    have := place_at (e := e) (k := C) (by omega)
    rw [hi _ (by omega)] at this
    omega
  · intro hn i hi
    have hp : place e C = C := by have := place_le e C; omega
    have hup : ∀ j, j < C → lead (e.getD j []) < C := fun j hj => place_lt (by omega)
    have lo : ∀ j, j < C → j ≤ lead (e.getD j []) := by
      intro j
      induction j with
      | zero => intro _; omega
      | succ j ih => intro hj; have := ih (by omega); have := h.sorted j (j + 1) (by omega) (by omega); omega
    have hi2 : ∀ d j, j + d + 1 = C → lead (e.getD j []) ≤ j := by
      intro d
      induction d with
      | zero => intro j hj; have := hup j (by omega); omega
      | succ d ih => intro j hj; have := ih (j + 1) (by omega); have := h.sorted j (j + 1) (by omega) (by omega); omega
    have a := lo i (by omega)
    have b := hi2 (C - i - 1) i (by omega)
    omega
theorem filter_sorted {α : Type} (f : α → Bool) (d : α) : ∀ (l : List α) (k : Nat), k ≤ l.length → (∀ i, i < k → f (l.getD i d) = false) → (∀ i, k ≤ i → i < l.length → f (l.getD i d) = true) → l.filter f = l.drop k := by
  intro l
  induction l with
  | nil => intro k hk _ _; simp
  | cons a l ih =>
    intro k hk h1 h2
    cases k with
    | zero =>
      have ha : f a = true := by simpa using h2 0 (Nat.le_refl _) (by simp)
      rw [List.filter_cons_of_pos ha, ih 0 (by omega) (fun i hi => by omega) (fun i _ hi => by simpa using h2 (i + 1) (by omega) (by simpa using hi))]
      simp
    | succ k =>
      have ha : f a = false := by simpa using h1 0 (by omega)
      rw [List.filter_cons_of_neg (by simp [ha]), ih k (by simpa using hk) (fun i hi => by simpa using h1 (i + 1) (by omega)) (fun i hi hi' => by simpa using h2 (i + 1) (by omega) (by simpa using hi'))]
      simp
theorem filter_sorted_not {α : Type} (f : α → Bool) (d : α) : ∀ (l : List α) (k : Nat), k ≤ l.length → (∀ i, i < k → f (l.getD i d) = true) → (∀ i, k ≤ i → i < l.length → f (l.getD i d) = false) → l.filter f = l.take k := by
  intro l
  induction l with
  | nil => intro k hk _ _; simp
  | cons a l ih =>
    intro k hk h1 h2
    cases k with
    | zero =>
      have ha : f a = false := by simpa using h2 0 (Nat.le_refl _) (by simp)
      rw [List.filter_cons_of_neg (by simp [ha]), ih 0 (by omega) (fun i hi => by omega) (fun i _ hi => by simpa using h2 (i + 1) (by omega) (by simpa using hi))]
      simp
    | succ k =>
      have ha : f a = true := by simpa using h1 0 (by omega)
      rw [List.filter_cons_of_pos ha, ih k (by simpa using hk) (fun i hi => by simpa using h1 (i + 1) (by omega)) (fun i hi hi' => by simpa using h2 (i + 1) (by omega) (by simpa using hi'))]
      simp
theorem Ech.above (h : Ech p n e) (C : Nat) : e.filter (fun r => decide (C ≤ lead r)) = e.drop (place e C) :=
  filter_sorted _ [] e _ (place_le e C) (fun i hi => by have := place_lt hi; simpa using this) (fun i hi hl => by have := h.place_ge hi hl; simpa using this)
theorem Ech.ahead (h : Ech p n e) (C : Nat) : e.filter (fun r => decide (lead r < C)) = e.take (place e C) :=
  filter_sorted_not _ [] e _ (place_le e C) (fun i hi => by have := place_lt hi; simpa using this) (fun i hi hl => by have := h.place_ge hi hl; simpa using this)
end ech
/-- The rows behind column C of those that lead there: the left kernel. -/
noncomputable def nullR (p : Int) (rows : List (List Int)) (C : Nat) : List (List Int) := ((wideE p rows).drop (place (wideE p rows) C)).map (List.drop C)
noncomputable def invR (p : Int) (rows : List (List Int)) (C : Nat) : List (List Int) := (wideE p rows).map (List.drop C)
/-- What is left of the right side, and the solution in it. -/
noncomputable def restV (p : Int) (rows : List (List Int)) (b : List Int) : List Int := clearV p (wideE p rows) (b ++ zeroV rows.length)
noncomputable def solveV (p : Int) (rows : List (List Int)) (b : List Int) : List Int := scaleV p (neg p 1) ((restV p rows b).drop b.length)

/-! ### The solution in the model's way -/
theorem mod_eq {p x y : Int} (h : p ∣ x - y) : x % p = y % p := Int.emod_eq_emod_iff_emod_sub_eq_zero.2 (Int.emod_eq_zero_of_dvd h)
theorem lead_drop {v : List Int} {C : Nat} (h : C ≤ lead v) (hl : C ≤ v.length) : lead (v.drop C) = lead v - C := by
  have h1 := lead_le v
  refine lead_eq (by simp; omega) (fun i hi => ?_) fun hlt => ?_
  · rw [drop_get]; exact lead_zero (by omega)
  · have hlt' : lead v < v.length := by simp at hlt; omega
    have e : C + (lead v - C) = lead v := by omega
    rw [drop_get, e]
    exact lead_ne hlt'
theorem addV_drop {p c : Int} {v w : List Int} {C : Nat} (hw : w.length = v.length) : (addV p c v w).drop C = addV p c (v.drop C) (w.drop C) := by
  refine ext_getD 0 (by simp [addV_length]) fun i hi => ?_
  rw [drop_get, addV_get hw, addV_get (by simp [hw]), drop_get, drop_get]
theorem scaleV_step {p c : Int} {y r : List Int} (hl : r.length = y.length) : scaleV p c (clearStep p y r) = clearStep p (scaleV p c y) r := by
  refine ext_getD 0 (by simp [scaleV_length, clearStep, addV_length]) fun i hi => ?_
  unfold clearStep
  rw [scaleV_get, addV_get hl, addV_get (by rw [scaleV_length]; exact hl), scaleV_get, scaleV_get]
  generalize y.getD i 0 = a
  generalize y.getD (lead r) 0 = b
  generalize r.getD i 0 = d
  unfold neg
  apply mod_eq
  rw [Int.emod_def (c * a), Int.emod_def (c * b), Int.emod_def (a + -b % p * d), Int.emod_def (-b), Int.emod_def (-(c * b - p * (c * b / p)))]
  generalize c * a / p = q1
  generalize c * b / p = q2
  generalize -b / p = q3
  generalize -(c * b - p * q2) / p = q4
  generalize (a + (-b - p * q3) * d) / p = q5
  exact ⟨q1 - c * q5 - c * q3 * d + q4 * d - q2 * d, by grind⟩
theorem scaleV_clear {p c : Int} {n : Nat} (l : List (List Int)) (y : List Int) (hy : y.length = n) (hl : ∀ r ∈ l, r.length = n) : scaleV p c (clearV p l y) = clearV p l (scaleV p c y) := by
  unfold clearV
  induction l generalizing y with
  | nil => rfl
  | cons a l ih =>
    have ha : a.length = y.length := by rw [hy]; exact hl a (by simp)
    rw [List.foldl_cons, List.foldl_cons, ih _ (by unfold clearStep; rw [addV_length, hy]) (fun r hr => hl r (by simp [hr])), scaleV_step ha]
/-- Clearing with rows that lead from C on. -/
theorem clear_behind {p : Int} {m C : Nat} (hp : 0 < p) (l : List (List Int)) (v : List Int) (hv : Vec p m v) (hC : C ≤ m) (hl : ∀ r ∈ l, r.length = m ∧ C ≤ lead r) :
    (∀ c, c < C → (clearV p l v).getD c 0 = v.getD c 0) ∧ (clearV p l v).drop C = clearV p (l.map (List.drop C)) (v.drop C) := by
  unfold clearV
  induction l generalizing v with
  | nil => exact ⟨fun c _ => rfl, rfl⟩
  | cons a l ih =>
    obtain ⟨ha, hCa⟩ := hl a (by simp)
    have hav : a.length = v.length := by rw [ha, hv.len]
    have hv' : Vec p m (clearStep p v a) := Vec.add hp hv.len
    obtain ⟨i1, i2⟩ := ih _ hv' (fun r hr => hl r (by simp [hr]))
    rw [List.foldl_cons, List.map_cons, List.foldl_cons]
    refine ⟨fun c hc => ?_, ?_⟩
    · rw [i1 c hc]
      unfold clearStep
      rw [addV_get hav, lead_zero (by omega : c < lead a), Int.mul_zero, Int.add_zero, hv.mod]
    · rw [i2]
      congr 1
      unfold clearStep
      have e : C + (lead a - C) = lead a := by omega
      rw [addV_drop hav, lead_drop hCa (by rw [ha]; exact hC), drop_get, e]
section solve
variable {p : Int} {C : Nat} {rows : List (List Int)} {b : List Int}
noncomputable def headV (p : Int) (rows : List (List Int)) (C : Nat) (b : List Int) : List Int := clearV p ((wideE p rows).take (place (wideE p rows) C)) (b ++ zeroV rows.length)
theorem solve_parts (hp : gp p = true) (h : ∀ i, i < rows.length → Vec p C (rows.getD i [])) (hb : Vec p C b) :
    Vec p (C + rows.length) (headV p rows C b) ∧ Vec p (C + rows.length) (restV p rows b) ∧ (∀ c, c < C → (restV p rows b).getD c 0 = (headV p rows C b).getD c 0) ∧ solveV p rows b = clearV p (nullR p rows C) (scaleV p (neg p 1) ((headV p rows C b).drop C)) := by
  have hp2 := gp_le hp
  have E := wide_ech hp h
  have V : Vec p (C + rows.length) (b ++ zeroV rows.length) := hb.app (Vec.zeros (by omega) _)
  have hpl := place_le (wideE p rows) C
  have H := (E.clear_to (by omega) V _ hpl).1
  have R := (E.clear (by omega) V).1
  have dr : ∀ r ∈ (wideE p rows).drop (place (wideE p rows) C), r.length = C + rows.length ∧ C ≤ lead r := fun r hr => by
    obtain ⟨i, hi, rfl⟩ := List.mem_iff_getElem.mp hr
    have hi' : place (wideE p rows) C + i < (wideE p rows).length := by simpa [Nat.add_comm, Nat.lt_sub_iff_add_lt] using hi
    rw [List.getElem_drop]
    have e : (wideE p rows)[place (wideE p rows) C + i] = (wideE p rows).getD (place (wideE p rows) C + i) [] := (getD_lt _ _ hi').symm
    rw [e]
    exact ⟨(E.vec _ hi').len, E.place_ge (Nat.le_add_right _ _) hi'⟩
  have eq : restV p rows b = clearV p ((wideE p rows).drop (place (wideE p rows) C)) (headV p rows C b) := by
    unfold restV headV clearV
    rw [← List.foldl_append, List.take_append_drop]
  obtain ⟨b1, b2⟩ := clear_behind (by omega) _ _ H (Nat.le_add_right C rows.length) dr
  refine ⟨H, R, fun c hc => by rw [eq]; exact b1 c hc, ?_⟩
  unfold solveV
  rw [eq, hb.len]
  refine (congrArg _ b2).trans ?_
  refine scaleV_clear (n := rows.length) _ _ (by rw [List.length_drop, H.len]; omega) fun r hr => ?_
  obtain ⟨r', hr', rfl⟩ := List.mem_map.1 hr
  rw [List.length_drop, (dr r' hr').1]
  omega
theorem solve_head (hp : gp p = true) (h : ∀ i, i < rows.length → Vec p C (rows.getD i [])) (hb : Vec p C b) :
    lead (restV p rows b) < C ↔ ∃ c, c < C ∧ (headV p rows C b).getD c 0 ≠ 0 := by
  obtain ⟨H, R, h1, _⟩ := solve_parts hp h hb
  constructor
  · intro hl
    exact ⟨lead (restV p rows b), hl, by rw [← h1 _ hl]; exact lead_ne (by rw [R.len]; omega)⟩
  · rintro ⟨c, hc, hne⟩
    rcases Nat.lt_or_ge c (lead (restV p rows b)) with g | g
    · rw [← h1 c hc] at hne
      exact absurd (lead_zero g) hne
    · omega
end solve
end Go.Proofs.Ytggkoihlmijacaa.Num
