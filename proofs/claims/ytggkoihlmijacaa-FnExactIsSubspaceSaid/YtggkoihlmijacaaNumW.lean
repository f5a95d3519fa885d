/- Left kernels, annihilators, preimages and intersections as spans. -/
import Derived.Test.YtggkoihlmijacaaNumV
namespace Go.Proofs.Ytggkoihlmijacaa.Num
set_option linter.unusedVariables false
set_option linter.unusedSimpArgs false

theorem sumN_mul (n : Nat) (f : Nat → Int) (c : Int) : c * sumN n f = sumN n fun i => c * f i := by
  induction n with
  | zero => simp [sumN]
  | succ n ih => show c * (sumN n f + f n) = _ + _; rw [Int.mul_add, ih]
theorem sumN_plus (n : Nat) (f g : Nat → Int) : sumN n (fun i => f i + g i) = sumN n f + sumN n g := by
  have := sumN_add n f g 1
  simpa using this
theorem sumN_swap (n m : Nat) (f : Nat → Nat → Int) : sumN n (fun i => sumN m (f i)) = sumN m fun j => sumN n fun i => f i j := by
  induction n with
  | zero => exact (sumN_zero fun _ _ => rfl).symm
  | succ n ih => show sumN n _ + sumN m (f n) = _; rw [ih, ← sumN_plus]; rfl
theorem sumN_split (k d : Nat) (f : Nat → Int) : sumN (k + d) f = sumN k f + sumN d fun i => f (k + i) := by
  induction d with
  | zero => simp [sumN]
  | succ d ih => show sumN (k + d) f + f (k + d) = sumN k f + ((sumN d fun i => f (k + i)) + f (k + d)); rw [ih]; omega
theorem sumN_emod {p : Int} (n : Nat) (f : Nat → Int) : sumN n (fun i => f i % p) % p = sumN n f % p := sumN_mod fun i _ => Int.emod_emod _ _
theorem mul_emod_r (a b p : Int) : a * (b % p) % p = a * b % p := by rw [Int.mul_emod, Int.emod_emod, ← Int.mul_emod]
theorem mul_emod_l (a b p : Int) : (a % p) * b % p = a * b % p := by rw [Int.mul_emod, Int.emod_emod, ← Int.mul_emod]
theorem add_emod_r (a b p : Int) : (a + b % p) % p = (a + b) % p := Int.add_emod_emod _ _ _

section times
variable {p : Int} {n m : Nat} {rows : List (List Int)} {v w x y : List Int}
theorem timesTo_get (hr : Vecs p n rows) (k : Nat) (hk : k ≤ rows.length) {j : Nat} (hj : j < n) : (timesTo p v rows n k).getD j 0 = sumN k (fun i => v.getD i 0 * (rows.getD i []).getD j 0) % p := by
  induction k with
  | zero => show (zeroV n).getD j 0 = 0 % p; rw [zeroV_get]; simp
  | succ k ih =>
    show (Num.addV p _ (timesTo p v rows n k) (rows.getD k [])).getD j 0 = (sumN k _ + _) % p
    rw [addV_eq (timesTo_length _ _ _ _ _) (hr.at_ (by omega)).len, ih (by omega), Int.emod_add_emod]
theorem timesV_get (hr : Vecs p n rows) {j : Nat} (hj : j < n) : (timesV p v rows n).getD j 0 = sumN rows.length (fun i => v.getD i 0 * (rows.getD i []).getD j 0) % p := timesTo_get hr _ (Nat.le_refl _) hj
theorem timesTo_vec (hp : 0 < p) (k : Nat) : Vec p n (timesTo p v rows n k) := by
  cases k with
  | zero => exact Vec.zeros hp n
  | succ k => exact Vec.add hp (timesTo_length _ _ _ _ _)
theorem timesV_vec (hp : 0 < p) : Vec p n (timesV p v rows n) := timesTo_vec hp _
theorem Span.times (hr : Vecs p n rows) : Span p n rows (timesV p v rows n) := by
  unfold timesV
  suffices H : ∀ k, k ≤ rows.length → Span p n rows (timesTo p v rows n k) from H _ (Nat.le_refl _)
  intro k
  induction k with
  | zero => intro _; exact .zero
  | succ k ih => intro hk; exact .add _ (ih (by omega)) (mem_getD _ (by omega))
theorem timesV_add (hp : 0 < p) (hr : Vecs p n rows) (hx : x.length = m) (hy : y.length = m) (c : Int) : timesV p (addV p c x y) rows n = addV p c (timesV p x rows n) (timesV p y rows n) := by
  refine vec_ext (timesV_vec hp) (Vec.add hp (timesV_vec hp (v := x) (rows := rows)).len) fun j hj => ?_
  rw [addV_eq (timesV_vec hp).len (timesV_vec hp).len, timesV_get hr hj, timesV_get hr hj, timesV_get hr hj, Int.emod_add_emod, Int.add_emod, mul_emod_r, ← Int.add_emod, ← sumN_add]
  refine sumN_mod fun i hi => ?_
  rw [addV_eq hx hy, mul_emod_l]
  congr 1
  grind
theorem timesV_zero (hp : 0 < p) (hr : Vecs p n rows) (k : Nat) : timesV p (zeroV k) rows n = zeroV n :=
  vec_ext (timesV_vec hp) (Vec.zeros hp n) fun j hj => by
    rw [timesV_get hr hj, sumN_zero fun i hi => by rw [zeroV_get]; simp]
    rw [zeroV_get]; simp
theorem timesV_unit (hp : 0 < p) (hr : Vecs p n rows) {i : Nat} (hi : i < rows.length) : timesV p (unitV rows.length i) rows n = rows.getD i [] :=
  vec_ext (timesV_vec hp) (hr.at_ hi) fun j hj => by
    rw [timesV_get hr hj, sumN_one (k := i) hi fun k hk hn => by rw [unitV_get, if_neg (by omega)]; simp]
    rw [unitV_get, if_pos ⟨hi, rfl⟩, Int.one_mul, (hr.at_ hi).mod]
theorem Span.coeffs (hp : 1 < p) (hr : Vecs p n rows) (h : Span p n rows v) : ∃ x, Vec p rows.length x ∧ v = timesV p x rows n := by
  induction h with
  | zero => exact ⟨zeroV rows.length, Vec.zeros (by omega) _, (timesV_zero (by omega) hr _).symm⟩
  | add c _ hm ih =>
    obtain ⟨x, hx, rfl⟩ := ih
    obtain ⟨i, hi, rfl⟩ := List.mem_iff_getElem.mp hm
    refine ⟨Num.addV p c x (unitV rows.length i), Vec.add (by omega) hx.len, ?_⟩
    rw [timesV_add (by omega) hr hx.len (unitV_length _ _), timesV_unit (by omega) hr hi, getD_lt _ _ hi]
theorem span_iff (hp : 1 < p) (hr : Vecs p n rows) : Span p n rows v ↔ ∃ x, Vec p rows.length x ∧ v = timesV p x rows n :=
  ⟨fun h => h.coeffs hp hr, fun ⟨x, _, e⟩ => by rw [e]; exact .times hr⟩
/-- A linear map. -/
structure Lin (p : Int) (a b : Nat) (φ : List Int → List Int) : Prop where
  zero : φ (zeroV a) = zeroV b
  add : ∀ c u v, Vec p a u → Vec p a v → φ (addV p c u v) = addV p c (φ u) (φ v)
  vec : ∀ v, Vec p a v → Vec p b (φ v)
theorem Span.map (hp : 0 < p) {a b : Nat} {φ : List Int → List Int} (hφ : Lin p a b φ) (hr : Vecs p a rows) : Span p b (rows.map φ) w ↔ ∃ z, Span p a rows z ∧ w = φ z := by
  constructor
  · intro h
    induction h with
    | zero => exact ⟨_, .zero, hφ.zero.symm⟩
    | add c _ hm ih =>
      obtain ⟨z, hz, rfl⟩ := ih
      obtain ⟨r, hr', rfl⟩ := List.mem_map.1 hm
      exact ⟨_, .add c hz hr', (hφ.add c z r (hz.vec hp) (hr r hr')).symm⟩
  · rintro ⟨z, hz, rfl⟩
    induction hz with
    | zero => rw [hφ.zero]; exact .zero
    | add c h hm ih => rw [hφ.add c _ _ (h.vec hp) (hr _ hm)]; exact .add c ih (List.mem_map.2 ⟨_, hm, rfl⟩)
theorem vecs_map {a b : Nat} {φ : List Int → List Int} (hφ : Lin p a b φ) (hr : Vecs p a rows) : Vecs p b (rows.map φ) := fun x hx => by
  obtain ⟨r, hr', rfl⟩ := List.mem_map.1 hx
  exact hφ.vec r (hr r hr')
theorem lin_times (hp : 0 < p) (hr : Vecs p n rows) : Lin p rows.length n fun v => timesV p v rows n :=
  ⟨timesV_zero hp hr _, fun c u v hu hv => timesV_add hp hr hu.len hv.len c, fun v _ => timesV_vec hp⟩
theorem take_get {v : List Int} {k j : Nat} (h : j < k) : (v.take k).getD j 0 = v.getD j 0 := by
  rw [List.getD_eq_getElem?_getD, List.getElem?_take_of_lt h, ← List.getD_eq_getElem?_getD]
theorem Vec.take {k : Nat} (hp : 0 < p) (h : Vec p (n + k) v) : Vec p n (v.take n) := by
  refine ⟨by rw [List.length_take, h.len]; omega, fun i => ?_, fun i => ?_⟩
  all_goals
    by_cases hi : i < n
    · rw [take_get hi]; first | exact h.lo i | exact h.hi i
    · rw [getD_ge _ _ (by rw [List.length_take]; omega)]; omega
theorem Vec.drop {k : Nat} (h : Vec p (n + k) v) : Vec p k (v.drop n) :=
  ⟨by rw [List.length_drop, h.len]; omega, fun i => by rw [drop_get]; exact h.lo _, fun i => by rw [drop_get]; exact h.hi _⟩
theorem lin_take (hp : 0 < p) (n k : Nat) : Lin p (n + k) n (List.take n) := by
  refine ⟨by simp [zeroV], fun c u v hu hv => ?_, fun v hv => hv.take hp⟩
  refine vec_ext ((Vec.add hp hu.len : Vec p (n + k) (addV p c u v)).take hp) (Vec.add hp (hu.take hp).len) fun j hj => ?_
  rw [take_get hj, addV_eq hu.len hv.len, addV_eq (hu.take hp).len (hv.take hp).len, take_get hj, take_get hj]
theorem Lin.comp {a b c : Nat} {φ ψ : List Int → List Int} (h : Lin p a b φ) (k : Lin p b c ψ) : Lin p a c fun v => ψ (φ v) :=
  ⟨by rw [h.zero, k.zero], fun d u v hu hv => by rw [h.add d u v hu hv, k.add d _ _ (h.vec u hu) (h.vec v hv)], fun v hv => k.vec _ (h.vec v hv)⟩
end times

/-! ### The left kernel -/
section null
variable {p : Int} {C : Nat} {rows : List (List Int)} {v w x y : List Int}
theorem wide_vecs (hp : 1 < p) (hr : Vecs p C rows) : Vecs p (C + rows.length) (wideR rows) := vecs_of (wide_vec hp fun i hi => hr.at_ hi)
theorem times_wide (hp : 1 < p) (hr : Vecs p C rows) (hx : Vec p rows.length x) : timesV p x (wideR rows) (C + rows.length) = timesV p x rows C ++ x := by
  have hv : Vec p C (timesV p x rows C) := timesV_vec (by omega)
  refine vec_ext (timesV_vec (by omega)) (hv.app hx) fun j hj => ?_
  rw [timesV_get (wide_vecs hp hr) hj, wideR_length, app_get, hv.len]
  by_cases h : j < C
  · rw [if_pos h, timesV_get hr h]
    refine congrArg (· % p) (sumN_congr fun i hi => ?_)
    rw [wideR_get hi, app_get, (hr.at_ hi).len, if_pos h]
  · rw [if_neg h, sumN_one (k := j - C) (by omega) fun i hi hn => ?_]
    · rw [wideR_get (by omega), app_get, (hr.at_ (by omega)).len, if_neg h, unitV_get, if_pos ⟨by omega, rfl⟩, Int.mul_one, hx.mod]
    · rw [wideR_get hi, app_get, (hr.at_ hi).len, if_neg h, unitV_get, if_neg (by omega), Int.mul_zero]
theorem wide_span (hp : gp p = true) (hr : Vecs p C rows) : Span p (C + rows.length) (wideE p rows) v ↔ ∃ x, Vec p rows.length x ∧ v = timesV p x rows C ++ x := by
  have hp2 := gp_le hp
  unfold wideE
  rw [reduce_span hp (wide_vecs (by omega) hr), span_iff (by omega) (wide_vecs (by omega) hr), wideR_length]
  constructor
  · rintro ⟨x, hx, rfl⟩; exact ⟨x, hx, times_wide (by omega) hr hx⟩
  · rintro ⟨x, hx, rfl⟩; exact ⟨x, hx, (times_wide (by omega) hr hx).symm⟩
theorem null_get {i : Nat} (hi : i < (nullR p rows C).length) : place (wideE p rows) C + i < (wideE p rows).length ∧ (nullR p rows C).getD i [] = ((wideE p rows).getD (place (wideE p rows) C + i) []).drop C := by
  unfold nullR at hi ⊢
  have hi' : place (wideE p rows) C + i < (wideE p rows).length := by simp at hi; omega
  refine ⟨hi', ?_⟩
  rw [map_getD (by simpa using hi), List.getD_eq_getElem?_getD, List.getElem?_drop, ← List.getD_eq_getElem?_getD]
theorem null_length (p : Int) (rows : List (List Int)) (C : Nat) : (nullR p rows C).length = (wideE p rows).length - place (wideE p rows) C := by simp [nullR]
theorem null_ech (hp : gp p = true) (hr : Vecs p C rows) : Ech p rows.length (nullR p rows C) := by
  have E := wide_ech hp fun i hi => hr.at_ (i := i) hi
  have ld : ∀ i, i < (nullR p rows C).length → C ≤ lead ((wideE p rows).getD (place (wideE p rows) C + i) []) ∧ lead ((nullR p rows C).getD i []) = lead ((wideE p rows).getD (place (wideE p rows) C + i) []) - C := fun i hi => by
    obtain ⟨h1, h2⟩ := null_get hi
    have h3 := E.place_ge (Nat.le_add_right _ _) h1
    exact ⟨h3, by rw [h2]; exact lead_drop h3 (by rw [(E.vec _ h1).len]; omega)⟩
  refine ⟨fun i hi => ?_, fun i hi => ?_, fun i hi => ?_, fun i j hi hj hij => ?_, fun i j hij hj => ?_⟩
  · obtain ⟨h1, h2⟩ := null_get hi
    rw [h2]; exact (E.vec _ h1).drop
  · obtain ⟨h1, h2⟩ := null_get hi
    obtain ⟨l1, l2⟩ := ld i hi
    have := E.lt _ h1
    omega
  · obtain ⟨h1, h2⟩ := null_get hi
    obtain ⟨l1, l2⟩ := ld i hi
    rw [l2, h2, drop_get, Nat.add_sub_cancel' l1]
    exact E.one _ h1
  · obtain ⟨h1, h2⟩ := null_get hi
    obtain ⟨l1, l2⟩ := ld i hi
    obtain ⟨h3, h4⟩ := null_get hj
    rw [l2, h4, drop_get, Nat.add_sub_cancel' l1]
    exact E.zero _ _ h1 h3 (by omega)
  · obtain ⟨h1, h2⟩ := null_get (C := C) (rows := rows) (p := p) (i := i) (by omega)
    obtain ⟨l1, l2⟩ := ld i (by omega)
    obtain ⟨h3, h4⟩ := null_get hj
    obtain ⟨l3, l4⟩ := ld j hj
    have := E.sorted _ _ (by omega : place (wideE p rows) C + i < place (wideE p rows) C + j) h3
    omega
theorem app_split {a b : List Int} (h : a.length = C) : (a ++ b).take C = a ∧ (a ++ b).drop C = b := by
  subst h; simp
theorem null_span (hp : gp p = true) (hr : Vecs p C rows) : Span p rows.length (nullR p rows C) x ↔ Vec p rows.length x ∧ timesV p x rows C = zeroV C := by
  have hp2 := gp_le hp
  have E := wide_ech hp fun i hi => hr.at_ (i := i) hi
  have N := null_ech hp hr
  constructor
  · intro h
    refine ⟨h.vec (by omega), ?_⟩
    induction h with
    | zero => exact timesV_zero (by omega) hr _
    | @add c v r hv hm ih =>
      obtain ⟨i, hi, rfl⟩ := List.mem_iff_getElem.mp hm
      rw [← getD_lt _ [] hi]
      obtain ⟨h1, h2⟩ := null_get hi
      have l1 := E.place_ge (Nat.le_add_right _ _) h1
      obtain ⟨y, hy, ey⟩ := (wide_span hp hr).1 (.mem E.vecs (mem_getD _ h1))
      have tv : Vec p C (timesV p y rows C) := timesV_vec (by omega)
      have e2 : (nullR p rows C).getD i [] = y := by rw [h2, ey, (app_split tv.len).2]
      have e3 : timesV p y rows C = zeroV C := vec_ext tv (Vec.zeros (by omega) C) fun j hj => by
        have a := lead_zero (v := (wideE p rows).getD (place (wideE p rows) C + i) []) (i := j) (by omega)
        rw [ey, app_get, tv.len, if_pos hj] at a
        rw [a, zeroV_get]
      rw [timesV_add (by omega) hr (hv.vec (by omega)).len (N.vec i hi).len, ih, e2, e3, addV_zero_right (Vec.zeros (by omega) C)]
  · rintro ⟨hx, h0⟩
    have hs : Span p (C + rows.length) (wideE p rows) (zeroV C ++ x) := (wide_span hp hr).2 ⟨x, hx, by rw [h0]⟩
    have hzl : (zeroV C).length = C := by simp [zeroV]
    have hk := place_le (wideE p rows) C
    have hlen : (wideE p rows).length = place (wideE p rows) C + (nullR p rows C).length := by rw [null_length]; omega
    have key : x = timesV p (tab (nullR p rows C).length fun i => (zeroV C ++ x).getD (lead ((wideE p rows).getD (place (wideE p rows) C + i) [])) 0) (nullR p rows C) rows.length := by
      refine vec_ext hx (timesV_vec (by omega)) fun c hc => ?_
      have a := E.comb (by omega) hs (C + c) (by omega)
      rw [app_get, hzl, if_neg (by omega), Nat.add_sub_cancel_left] at a
      rw [a, timesV_get N.vecs hc]
      unfold comb
      rw [hlen, sumN_split, sumN_zero (n := place (wideE p rows) C), Int.zero_add]
      · refine congrArg (· % p) (sumN_congr fun i hi => ?_)
        rw [tab_get _ _ hi, (null_get hi).2, drop_get]
      · intro i hi
        rw [app_get, hzl, if_pos (place_lt hi), zeroV_get, Int.zero_mul]
    rw [key]
    exact .times N.vecs
/-- The rows ahead are the reduced form. -/
theorem wide_head (hp : gp p = true) (hr : Vecs p C rows) : reduceR p rows = ((wideE p rows).take (place (wideE p rows) C)).map (List.take C) := by
  have hp2 := gp_le hp
  have E := wide_ech hp fun i hi => hr.at_ (i := i) hi
  have hk := place_le (wideE p rows) C
  have hlen : (((wideE p rows).take (place (wideE p rows) C)).map (List.take C)).length = place (wideE p rows) C := by simp; omega
  have get : ∀ i, i < place (wideE p rows) C → (((wideE p rows).take (place (wideE p rows) C)).map (List.take C)).getD i [] = ((wideE p rows).getD i []).take C := fun i hi => by
    rw [map_getD (by simp; omega), List.getD_eq_getElem?_getD, List.getElem?_take_of_lt hi, ← List.getD_eq_getElem?_getD]
  have ld : ∀ i, i < place (wideE p rows) C → lead (((wideE p rows).getD i []).take C) = lead ((wideE p rows).getD i []) := fun i hi => by
    have h1 := place_lt hi
    have h2 := (E.vec i (by omega)).len
    refine lead_eq (by rw [List.length_take]; omega) (fun j hj => ?_) fun _ => ?_
    · rw [take_get (by omega)]; exact lead_zero hj
    · rw [take_get h1]; exact lead_ne (by omega)
  have F : Ech p C (((wideE p rows).take (place (wideE p rows) C)).map (List.take C)) := by
    refine ⟨fun i hi => ?_, fun i hi => ?_, fun i hi => ?_, fun i j hi hj hij => ?_, fun i j hij hj => ?_⟩
    · rw [hlen] at hi
      rw [get i hi]; exact (E.vec i (by omega)).take (by omega)
    · rw [hlen] at hi
      rw [get i hi, ld i hi]; exact place_lt hi
    · rw [hlen] at hi
      rw [get i hi, ld i hi, take_get (place_lt hi)]; exact E.one i (by omega)
    · rw [hlen] at hi hj
      rw [get i hi, get j hj, ld i hi, take_get (place_lt hi)]; exact E.zero i j (by omega) (by omega) hij
    · rw [hlen] at hj
      rw [get i (by omega), get j hj, ld i (by omega), ld j hj]; exact E.sorted i j hij (by omega)
  refine reduce_unique hp hr F fun v => ⟨fun h => h.mono (by omega) hr fun r hm => ?_, fun h => ?_⟩
  · obtain ⟨i, hi, rfl⟩ := List.mem_iff_getElem.mp hm
    rw [← getD_lt _ [] hi, get i (by omega)]
    obtain ⟨y, hy, ey⟩ := (wide_span hp hr).1 (.mem E.vecs (mem_getD _ (i := i) (by omega)))
    rw [ey, (app_split (timesV_vec (by omega)).len).1]
    exact .times hr
  · obtain ⟨x, hx, rfl⟩ := h.coeffs (by omega) hr
    have tv : Vec p C (timesV p x rows C) := timesV_vec (by omega)
    have hs := (wide_span hp hr).2 ⟨x, hx, rfl⟩
    have key : timesV p x rows C = timesV p (tab (place (wideE p rows) C) fun i => (timesV p x rows C ++ x).getD (lead ((wideE p rows).getD i [])) 0) (((wideE p rows).take (place (wideE p rows) C)).map (List.take C)) C := by
      refine vec_ext tv (timesV_vec (by omega)) fun c hc => ?_
      have a := E.comb (by omega) hs c (by omega)
      rw [app_get, tv.len, if_pos hc] at a
      rw [a, timesV_get F.vecs hc, hlen]
      unfold comb
      obtain ⟨d, hd⟩ : ∃ d, (wideE p rows).length = place (wideE p rows) C + d := ⟨_, (Nat.add_sub_cancel' hk).symm⟩
      rw [hd, sumN_split, sumN_zero (n := d), Int.add_zero]
      · refine congrArg (· % p) (sumN_congr fun i hi => ?_)
        rw [tab_get _ _ hi, get i hi, take_get hc]
      · intro i hi
        have l1 := E.place_ge (k := C) (j := place (wideE p rows) C + i) (Nat.le_add_right _ _) (by omega)
        rw [lead_zero (v := (wideE p rows).getD (place (wideE p rows) C + i) []) (by omega), Int.mul_zero]
    rw [key]
    exact .times F.vecs
theorem rank_null (hp : gp p = true) (hr : Vecs p C rows) : (reduceR p rows).length + (nullR p rows C).length = rows.length := by
  have h1 := wide_head hp hr
  have h2 := wide_len hp (fun i hi => hr.at_ (i := i) hi)
  have hk := place_le (wideE p rows) C
  rw [h1, null_length, h2]
  simp
  omega
end null

/-! ### Annihilators, preimages, intersections -/
section ann
variable {p : Int} {C : Nat} {rows : List (List Int)} {v w x y : List Int}
def dotN (C : Nat) (x y : List Int) : Int := sumN C fun j => x.getD j 0 * y.getD j 0
theorem trans_length (rows : List (List Int)) (C : Nat) : (transR rows C).length = C := by simp [transR]
theorem trans_get {j : Nat} (h : j < C) : (transR rows C).getD j [] = colV rows j := by
  rw [getD_lt _ _ (by simpa [transR] using h)]; simp [transR]
theorem col_get {i j : Nat} (hi : i < rows.length) : (colV rows j).getD i 0 = (rows.getD i []).getD j 0 := by
  rw [getD_lt _ _ (by simpa [colV] using hi)]; simp [colV, hi]
theorem trans_vecs (hr : Vecs p C rows) (hp : 0 < p) : Vecs p rows.length (transR rows C) := vecs_of fun j hj => by
  rw [trans_length] at hj
  rw [trans_get hj]
  refine ⟨by simp [colV], fun i => ?_, fun i => ?_⟩
  all_goals
    by_cases hi : i < rows.length
    · rw [col_get hi]; first | exact (hr.at_ hi).lo j | exact (hr.at_ hi).hi j
    · rw [getD_ge _ _ (by simp [colV]; omega)]; omega
theorem times_trans (hp : 0 < p) (hr : Vecs p C rows) {i : Nat} (hi : i < rows.length) : (timesV p x (transR rows C) rows.length).getD i 0 = dotN C x (rows.getD i []) % p := by
  rw [timesV_get (trans_vecs hr hp) hi, trans_length]
  refine congrArg (· % p) (sumN_congr fun j hj => ?_)
  rw [trans_get hj, col_get hi]
theorem times_trans_zero (hp : 0 < p) (hr : Vecs p C rows) : timesV p x (transR rows C) rows.length = zeroV rows.length ↔ ∀ r, r ∈ rows → dotN C x r % p = 0 := by
  constructor
  · intro h r hm
    obtain ⟨i, hi, rfl⟩ := List.mem_iff_getElem.mp hm
    rw [← getD_lt _ [] hi, ← times_trans hp hr hi, h, zeroV_get]
  · intro h
    refine vec_ext (timesV_vec hp) (Vec.zeros hp _) fun i hi => ?_
    rw [times_trans hp hr hi, h _ (mem_getD _ hi), zeroV_get]
/-- The annihilator. -/
noncomputable def annR (p : Int) (rows : List (List Int)) (C : Nat) : List (List Int) := nullR p (transR rows C) rows.length
theorem ann_ech (hp : gp p = true) (hr : Vecs p C rows) : Ech p C (annR p rows C) := by
  have hp2 := gp_le hp
  have := null_ech hp (trans_vecs hr (by omega))
  rwa [trans_length] at this
theorem ann_span (hp : gp p = true) (hr : Vecs p C rows) : Span p C (annR p rows C) x ↔ Vec p C x ∧ ∀ r, r ∈ rows → dotN C x r % p = 0 := by
  have hp2 := gp_le hp
  have := null_span hp (trans_vecs hr (by omega)) (x := x)
  rw [trans_length, times_trans_zero (by omega) hr] at this
  exact this
theorem dot_comm (C : Nat) (x y : List Int) : dotN C x y = dotN C y x := sumN_congr fun j _ => Int.mul_comm _ _
theorem dot_span (hp : 0 < p) (hr : Vecs p C rows) (h : ∀ r, r ∈ rows → dotN C x r % p = 0) (hv : Span p C rows v) : dotN C x v % p = 0 := by
  induction hv with
  | zero => unfold dotN; rw [sumN_zero fun j hj => by rw [zeroV_get]; simp]; simp
  | @add c v r hv hm ih =>
    have e : dotN C x (addV p c v r) % p = (dotN C x v + c * dotN C x r) % p := by
      unfold dotN
      rw [← sumN_add]
      refine sumN_mod fun j hj => ?_
      rw [addV_eq (hv.vec hp).len (hr r hm).len, mul_emod_r]
      congr 1
      grind
    rw [e, Int.add_emod, ih, Int.mul_emod, h r hm]
    simp
/-- A vector whose products with the annihilator are 0 lies in the span. -/
theorem ann_ann (hp : gp p = true) {e : List (List Int)} (he : Ech p C e) (hx : Vec p C x) (h : ∀ y, Span p C (annR p e C) y → dotN C x y % p = 0) : Span p C e x := by
  have hp2 := gp_le hp
  have fn : ∀ c, c < C → ∀ z, dotN C z (tab C fun j => ((if j = c then 1 else 0) + (-1) * sumN e.length fun i => (if j = lead (e.getD i []) then 1 else 0) * (e.getD i []).getD c 0) % p) % p = (z.getD c 0 + (-1) * comb e z c) % p := fun c hc z => by
    have e1 : z.getD c 0 + (-1) * comb e z c = sumN C fun j => z.getD j 0 * (if j = c then 1 else 0) + (-1) * sumN e.length fun i => z.getD j 0 * ((if j = lead (e.getD i []) then 1 else 0) * (e.getD i []).getD c 0) := by
      rw [sumN_add, sumN_one (k := c) hc (fun j hj hn => by rw [if_neg hn, Int.mul_zero]), if_pos rfl, Int.mul_one, sumN_swap]
      congr 2
      refine sumN_congr fun i hi => ?_
      rw [sumN_one (k := lead (e.getD i [])) (he.lt i hi) (fun j hj hn => by rw [if_neg hn]; simp), if_pos rfl, Int.one_mul]
    rw [e1]
    unfold dotN
    refine sumN_mod fun j hj => ?_
    rw [tab_get _ _ hj, mul_emod_r]
    congr 1
    rw [← sumN_mul]
    grind
  have key : ∀ c, c < C → x.getD c 0 = comb e x c % p := fun c hc => by
    have h1 := h _ ((ann_span hp he.vecs).2 ⟨Vec.tab (p := p) (n := C) (f := fun j => ((if j = c then 1 else 0) + (-1) * sumN e.length fun i => (if j = lead (e.getD i []) then 1 else 0) * (e.getD i []).getD c 0) % p) (by omega) (fun i _ => mod_bd _ (by omega)), fun r hr => by
      rw [dot_comm, fn c hc]
      have h2 := he.comb (by omega) (.mem he.vecs hr) c hc
      rw [h2, Int.emod_add_emod]
      have e3 : comb e r c + -1 * comb e r c = 0 := by grind
      rw [e3]
      simp⟩)
    rw [fn c hc] at h1
    have h3 : p ∣ x.getD c 0 - comb e x c := by
      have := Int.dvd_of_emod_eq_zero h1
      have e3 : x.getD c 0 + -1 * comb e x c = x.getD c 0 - comb e x c := by grind
      rwa [e3] at this
    rw [← mod_eq h3, hx.mod]
  have : x = timesV p (tab e.length fun i => x.getD (lead (e.getD i [])) 0) e C := by
    refine vec_ext hx (timesV_vec (by omega)) fun c hc => ?_
    rw [key c hc, timesV_get he.vecs hc]
    refine congrArg (· % p) (sumN_congr fun i hi => ?_)
    rw [tab_get _ _ hi]
  rw [this]
  exact .times he.vecs
/-- .. exactly. -/
theorem ann_iff (hp : gp p = true) {e : List (List Int)} (he : Ech p C e) (hx : Vec p C x) : Span p C e x ↔ ∀ r, r ∈ annR p e C → dotN C x r % p = 0 := by
  have hp2 := gp_le hp
  constructor
  · intro h r hr
    rw [dot_comm]
    exact dot_span (by omega) he.vecs ((ann_span hp he.vecs).1 (.mem (ann_ech hp he.vecs).vecs hr)).2 h
  · intro h
    exact ann_ann hp he hx fun y hy => dot_span (by omega) (ann_ech hp he.vecs).vecs h hy
theorem prod_length (p : Int) (a b : List (List Int)) (n : Nat) : (prodR p a b n).length = a.length := by simp [prodR]
theorem prod_vecs (hp : 0 < p) (a b : List (List Int)) (n : Nat) : Vecs p n (prodR p a b n) := fun x hx => by
  obtain ⟨r, _, rfl⟩ := List.mem_map.1 hx
  exact timesV_vec hp
theorem times_prod (hp : 0 < p) {a b : List (List Int)} {m n : Nat} (ha : Vecs p m a) (hb : Vecs p n b) (hm : b.length = m) : timesV p x (prodR p a b n) n = timesV p (timesV p x a m) b n := by
  refine vec_ext (timesV_vec hp) (timesV_vec hp) fun j hj => ?_
  rw [timesV_get (prod_vecs hp _ _ _) hj, prod_length, timesV_get hb hj, hm]
  have e1 : sumN a.length (fun i => x.getD i 0 * ((prodR p a b n).getD i []).getD j 0) % p = sumN a.length (fun i => sumN m fun k => x.getD i 0 * ((a.getD i []).getD k 0 * (b.getD k []).getD j 0)) % p := by
    refine sumN_mod fun i hi => ?_
    have : (prodR p a b n).getD i [] = timesV p (a.getD i []) b n := map_getD hi
    rw [this, timesV_get hb hj, hm, mul_emod_r, ← sumN_mul]
  rw [e1, sumN_swap]
  refine sumN_mod fun k hk => ?_
  rw [timesV_get ha hk, mul_emod_l, Int.mul_comm (sumN _ _), sumN_mul]
  congr 1
  refine sumN_congr fun i hi => ?_
  grind
/-- The preimage of a subspace under a matrix. -/
noncomputable def preR (p : Int) (u a : List (List Int)) (C : Nat) : List (List Int) := nullR p (prodR p a (transR (annR p u C) C) (annR p u C).length) (annR p u C).length
variable {u a : List (List Int)}
theorem pre_ech (hp : gp p = true) (hu : Ech p C u) (ha : Vecs p C a) : Ech p a.length (preR p u a C) := by
  have hp2 := gp_le hp
  have := null_ech hp (prod_vecs (p := p) (by omega) a (transR (annR p u C) C) (annR p u C).length)
  rwa [prod_length] at this
theorem pre_span (hp : gp p = true) (hu : Ech p C u) (ha : Vecs p C a) : Span p a.length (preR p u a C) x ↔ Vec p a.length x ∧ Span p C u (timesV p x a C) := by
  have hp2 := gp_le hp
  have := null_span hp (prod_vecs (p := p) (by omega) a (transR (annR p u C) C) (annR p u C).length) (x := x)
  rw [prod_length, times_prod (by omega) ha (trans_vecs (ann_ech hp hu.vecs).vecs (by omega)) (trans_length _ _), times_trans_zero (by omega) (ann_ech hp hu.vecs).vecs, ← ann_iff hp hu (timesV_vec (by omega))] at this
  exact this
theorem times_app (hp : 0 < p) (hu : Vecs p C u) (ha : Vecs p C a) (hx : x.length = a.length) : timesV p (x ++ y) (a ++ u) C = addV p 1 (timesV p x a C) (timesV p y u C) := by
  have hau : Vecs p C (a ++ u) := fun r hr => by rcases List.mem_append.1 hr with h | h; exact ha r h; exact hu r h
  refine vec_ext (timesV_vec hp) (Vec.add hp (timesV_vec hp (v := x) (rows := a)).len) fun j hj => ?_
  rw [addV_eq (timesV_vec hp).len (timesV_vec hp).len, timesV_get hau hj, timesV_get ha hj, timesV_get hu hj, Int.one_mul, ← Int.add_emod, List.length_append, sumN_split]
  congr 2
  · refine sumN_congr fun i hi => ?_
    rw [app_get, if_pos (by omega), List.getD_eq_getElem?_getD (l := a ++ u), List.getElem?_append_left hi, ← List.getD_eq_getElem?_getD]
  · refine sumN_congr fun i hi => ?_
    rw [app_get, if_neg (by omega), hx, Nat.add_sub_cancel_left, List.getD_eq_getElem?_getD (l := a ++ u), List.getElem?_append_right (by omega), Nat.add_sub_cancel_left, ← List.getD_eq_getElem?_getD]
theorem vecs_app (ha : Vecs p C a) (hu : Vecs p C u) : Vecs p C (a ++ u) := fun r hr => by
  rcases List.mem_append.1 hr with h | h
  · exact ha r h
  · exact hu r h
/-- What the kernel of both lists of rows begins with. -/
theorem null_app (hp : gp p = true) (hu : Vecs p C u) (ha : Vecs p C a) : (∃ z, Span p (a.length + u.length) (nullR p (a ++ u) C) z ∧ x = z.take a.length) ↔ Vec p a.length x ∧ Span p C u (timesV p x a C) := by
  have hp2 := gp_le hp
  have ns : ∀ z, Span p (a.length + u.length) (nullR p (a ++ u) C) z ↔ Vec p (a.length + u.length) z ∧ timesV p z (a ++ u) C = zeroV C := fun z => by
    have := null_span hp (vecs_app ha hu) (x := z)
    rwa [List.length_append] at this
  constructor
  · rintro ⟨z, hz, rfl⟩
    obtain ⟨h1, h2⟩ := (ns z).1 hz
    have ht : Vec p a.length (z.take a.length) := h1.take (by omega)
    have hd : Vec p u.length (z.drop a.length) := h1.drop
    refine ⟨ht, ?_⟩
    rw [← List.take_append_drop a.length z, times_app (by omega) hu ha ht.len] at h2
    have tv : Vec p C (timesV p (z.take a.length) a C) := timesV_vec (by omega)
    have tw : Vec p C (timesV p (z.drop a.length) u C) := timesV_vec (by omega)
    have h3 := addV_back (by omega) tv tw 1
    rw [h2] at h3
    rw [← h3]
    exact Span.zero.addV (by omega) hu (.times hu) _
  · rintro ⟨hx, hs⟩
    obtain ⟨y, hy, ey⟩ := hs.coeffs (by omega) hu
    have hy' : Vec p u.length (addV p (-1) (zeroV u.length) y) := Vec.add (by omega) (by simp [zeroV])
    refine ⟨x ++ addV p (-1) (zeroV u.length) y, (ns _).2 ⟨hx.app hy', ?_⟩, (app_split hx.len).1.symm⟩
    have tw : Vec p C (timesV p y u C) := timesV_vec (by omega)
    rw [times_app (by omega) hu ha hx.len, timesV_add (by omega) hu (by simp [zeroV]) hy.len, timesV_zero (by omega) hu, ey]
    refine vec_ext (Vec.add (by omega) tw.len) (Vec.zeros (by omega) C) fun j hj => ?_
    rw [addV_eq tw.len (Vec.add (by omega) (by simp [zeroV])).len, addV_eq (by simp [zeroV]) tw.len, zeroV_get, Int.one_mul, Int.add_emod_emod]
    have e : (timesV p y u C).getD j 0 + (0 + -1 * (timesV p y u C).getD j 0) = 0 := by grind
    rw [e]
    simp
theorem null_app_vecs (hp : gp p = true) (hu : Vecs p C u) (ha : Vecs p C a) : Vecs p (a.length + u.length) (nullR p (a ++ u) C) := by
  have := (null_ech hp (vecs_app ha hu)).vecs
  rwa [List.length_append] at this
/-- The model's preimage. -/
theorem pre_eq (hp : gp p = true) (hu : Ech p C u) (ha : Vecs p C a) : reduceR p ((nullR p (a ++ u) C).map (List.take a.length)) = preR p u a C := by
  have hp2 := gp_le hp
  have hl := lin_take (p := p) (by omega) a.length u.length
  refine reduce_unique hp (vecs_map hl (null_app_vecs hp hu.vecs ha)) (pre_ech hp hu ha) fun v => ?_
  rw [pre_span hp hu ha, Span.map (by omega) hl (null_app_vecs hp hu.vecs ha), null_app hp hu.vecs ha]
/-- The model's intersection. -/
theorem meet_eq (hp : gp p = true) (hu : Ech p C u) (ha : Ech p C a) : reduceR p ((nullR p (a ++ u) C).map fun z => timesV p (z.take a.length) a C) = reduceR p (prodR p (preR p u a C) a C) := by
  have hp2 := gp_le hp
  have hl := (lin_take (p := p) (by omega) a.length u.length).comp (lin_times (by omega) ha.vecs)
  have ht := lin_times (p := p) (by omega) ha.vecs
  have hv := (pre_ech hp hu ha.vecs).vecs
  refine reduce_congr hp (vecs_map hl (null_app_vecs hp hu.vecs ha.vecs)) (prod_vecs (by omega) _ _ _) fun v => ?_
  unfold prodR
  rw [Span.map (by omega) hl (null_app_vecs hp hu.vecs ha.vecs), Span.map (by omega) ht hv]
  constructor
  · rintro ⟨z, hz, rfl⟩
    exact ⟨_, (pre_span hp hu ha.vecs).2 ((null_app hp hu.vecs ha.vecs).1 ⟨z, hz, rfl⟩), rfl⟩
  · rintro ⟨x, hx, rfl⟩
    obtain ⟨z, hz, rfl⟩ := (null_app hp hu.vecs ha.vecs).2 ((pre_span hp hu ha.vecs).1 hx)
    exact ⟨z, hz, rfl⟩
end ann
end Go.Proofs.Ytggkoihlmijacaa.Num
