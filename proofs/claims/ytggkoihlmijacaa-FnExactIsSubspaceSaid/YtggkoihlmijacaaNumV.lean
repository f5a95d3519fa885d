/- Spans of rows over a prime field: reduced forms are unique, left kernels, annihilators, preimages. -/
import Derived.Test.YtggkoihlmijacaaNumN
namespace Go.Proofs.Ytggkoihlmijacaa.Num
set_option linter.unusedVariables false
set_option linter.unusedSimpArgs false

/-- v is a combination of rows. -/
inductive Span (p : Int) (n : Nat) (rows : List (List Int)) : List Int → Prop
  | zero : Span p n rows (zeroV n)
  | add (c : Int) {v r : List Int} : Span p n rows v → r ∈ rows → Span p n rows (addV p c v r)
/-- All rows are vectors. -/
def Vecs (p : Int) (n : Nat) (rows : List (List Int)) : Prop := ∀ r, r ∈ rows → Vec p n r
theorem vecs_of {p : Int} {n : Nat} {rows : List (List Int)} (h : ∀ i, i < rows.length → Vec p n (rows.getD i [])) : Vecs p n rows := fun r hr => by
  obtain ⟨i, hi, rfl⟩ := List.mem_iff_getElem.mp hr
  have := h i hi
  rwa [getD_lt _ _ hi] at this
theorem Vecs.at_ {p : Int} {n : Nat} {rows : List (List Int)} (h : Vecs p n rows) {i : Nat} (hi : i < rows.length) : Vec p n (rows.getD i []) := by
  rw [getD_lt _ _ hi]; exact h _ (List.getElem_mem hi)
theorem mem_getD {α : Type} {rows : List α} (d : α) {i : Nat} (hi : i < rows.length) : rows.getD i d ∈ rows := by
  rw [getD_lt _ _ hi]; exact List.getElem_mem hi
theorem vec_ext {p : Int} {n : Nat} {v w : List Int} (hv : Vec p n v) (hw : Vec p n w) (h : ∀ j, j < n → v.getD j 0 = w.getD j 0) : v = w :=
  ext_getD 0 (by rw [hv.len, hw.len]) fun i hi => h i (by rw [← hv.len]; exact hi)
section span
variable {p : Int} {n : Nat} {rows rows' : List (List Int)} {v w r : List Int}
theorem Span.vec (hp : 0 < p) (h : Span p n rows v) : Vec p n v := by
  induction h with
  | zero => exact Vec.zeros hp n
  | add c _ _ ih => exact Vec.add hp ih.len
theorem addV_eq (hv : v.length = n) (hw : w.length = n) (j : Nat) (c : Int) : (addV p c v w).getD j 0 = (v.getD j 0 + c * w.getD j 0) % p := addV_get (by rw [hv, hw])
theorem addV_zero_right (hv : Vec p n v) (c : Int) : addV p c v (zeroV n) = v :=
  ext_getD 0 (addV_length _ _ _ _) fun i hi => by
    rw [addV_eq hv.len (by simp [zeroV]), zeroV_get, Int.mul_zero, Int.add_zero, hv.mod]
theorem addV_assoc (hp : 0 < p) {u : List Int} (hu : Vec p n u) (hv : Vec p n v) (hr : Vec p n r) (c d : Int) : addV p c u (addV p d v r) = addV p (c * d) (addV p c u v) r := by
  refine vec_ext (Vec.add hp hu.len) (Vec.add hp (Vec.add hp hu.len (c := c) (w := v)).len) fun j hj => ?_
  rw [addV_eq hu.len (Vec.add hp hv.len).len, addV_eq (Vec.add hp hu.len).len hr.len, addV_eq hv.len hr.len, addV_eq hu.len hv.len]
  rw [Int.emod_add_emod, Int.add_emod, Int.mul_emod, Int.emod_emod, ← Int.mul_emod, ← Int.add_emod]
  congr 1
  grind
theorem Span.addV (hp : 0 < p) (hr : Vecs p n rows) (hv : Span p n rows v) (hw : Span p n rows w) (c : Int) : Span p n rows (addV p c v w) := by
  induction hw with
  | zero => rw [addV_zero_right (hv.vec hp)]; exact hv
  | add d hw' hm ih =>
    rw [addV_assoc hp (hv.vec hp) (hw'.vec hp) (hr _ hm)]
    exact .add _ ih hm
theorem addV_one (hv : Vec p n v) : Num.addV p 1 (zeroV n) v = v :=
  ext_getD 0 (by rw [addV_length, hv.len]; simp [zeroV]) fun i hi => by
    rw [addV_eq (by simp [zeroV]) hv.len, zeroV_get, Int.zero_add, Int.one_mul, hv.mod]
theorem Span.mem (hr : Vecs p n rows) (h : r ∈ rows) : Span p n rows r := by
  have := Span.add (p := p) (n := n) 1 .zero h
  rwa [addV_one (hr r h)] at this
theorem Span.mono (hp : 0 < p) (hr : Vecs p n rows') (h : ∀ r, r ∈ rows → Span p n rows' r) (hv : Span p n rows v) : Span p n rows' v := by
  induction hv with
  | zero => exact .zero
  | add c _ hm ih => exact ih.addV hp hr (h _ hm) c
theorem scaleV_add (hv : Vec p n v) (c : Int) : scaleV p c v = Num.addV p c (zeroV n) v :=
  ext_getD 0 (by rw [scaleV_length, addV_length, hv.len]; simp [zeroV]) fun i hi => by
    rw [scaleV_get, addV_eq (by simp [zeroV]) hv.len, zeroV_get, Int.zero_add]
theorem Span.scale (hp : 0 < p) (hr : Vecs p n rows) (h : Span p n rows v) (c : Int) : Span p n rows (scaleV p c v) := by
  rw [scaleV_add (h.vec hp)]; exact Span.zero.addV hp hr h c
theorem addV_back (hp : 0 < p) (hv : Vec p n v) (hr : Vec p n r) (c : Int) : Num.addV p (-c) (Num.addV p c v r) r = v := by
  refine vec_ext (Vec.add hp (Vec.add hp hv.len (c := c) (w := r)).len) hv fun j hj => ?_
  rw [addV_eq (Vec.add hp hv.len).len hr.len, addV_eq hv.len hr.len, Int.emod_add_emod]
  have e : v.getD j 0 + c * r.getD j 0 + -c * r.getD j 0 = v.getD j 0 := by grind
  rw [e, hv.mod]
theorem clear_vec (hp : 0 < p) (hv : Vec p n v) : Vec p n (clearV p rows v) := by
  induction rows generalizing v with
  | nil => exact hv
  | cons a l ih => exact ih (Vec.add hp hv.len)
/-- Clearing goes on within a span that holds the rows. -/
theorem Span.clear (hp : 0 < p) (hr' : Vecs p n rows') (h : ∀ r, r ∈ rows → Span p n rows' r) (hv : Vec p n v) : Span p n rows' (clearV p rows v) ↔ Span p n rows' v := by
  induction rows generalizing v with
  | nil => exact Iff.rfl
  | cons a l ih =>
    have ha := h a (by simp)
    show Span p n rows' (clearV p l (clearStep p v a)) ↔ _
    rw [ih (fun r hr => h r (by simp [hr])) (show Vec p n (clearStep p v a) from Vec.add hp hv.len)]
    constructor
    · intro k
      have := k.addV hp hr' ha (-(neg p (v.getD (lead a) 0)))
      rwa [clearStep, addV_back hp hv (ha.vec hp)] at this
    · intro k
      exact k.addV hp hr' ha _
theorem cut_eq (r' : List Int) (k : Nat) : cut p v k r' = Num.addV p (neg p (r'.getD k 0)) r' v := rfl
theorem insRow_mem {e : List (List Int)} {k : Nat} {x : List Int} : x ∈ insRow p e v k ↔ x = v ∨ ∃ a, a ∈ e ∧ x = cut p v k a := by
  unfold insRow putAt
  have key : x ∈ e.map (cut p v k) ↔ ∃ a, a ∈ e ∧ x = cut p v k a := by
    rw [List.mem_map]; exact ⟨fun ⟨a, h1, h2⟩ => ⟨a, h1, h2.symm⟩, fun ⟨a, h1, h2⟩ => ⟨a, h1, h2.symm⟩⟩
  rw [List.mem_append, List.mem_cons, ← key]
  constructor
  · rintro (h | h | h)
    · exact .inr (List.mem_of_mem_take h)
    · exact .inl h
    · exact .inr (List.mem_of_mem_drop h)
  · rintro (h | h)
    · exact .inr (.inl h)
    · rw [← List.take_append_drop (place e k) (e.map (cut p v k)), List.mem_append] at h
      rcases h with h | h
      · exact .inl h
      · exact .inr (.inr h)
theorem insRow_vecs (hp : 0 < p) {e : List (List Int)} {k : Nat} (he : Vecs p n e) (hv : Vec p n v) : Vecs p n (insRow p e v k) := fun x hx => by
  rcases insRow_mem.1 hx with rfl | ⟨a, ha, rfl⟩
  · exact hv
  · exact Vec.add hp (he a ha).len
/-- A list of rows whose span holds these rows and those. -/
theorem insRow_span (hp : 0 < p) {e : List (List Int)} {k : Nat} (he : Vecs p n e) (hv : Vec p n v) (hr' : Vecs p n rows') :
    (∀ x, x ∈ insRow p e v k → Span p n rows' x) ↔ Span p n rows' v ∧ ∀ a, a ∈ e → Span p n rows' a := by
  constructor
  · intro h
    have h1 := h v (insRow_mem.2 (.inl rfl))
    refine ⟨h1, fun a ha => ?_⟩
    have h2 := h _ (insRow_mem.2 (.inr ⟨a, ha, rfl⟩))
    have := h2.addV hp hr' h1 (-(neg p (a.getD k 0)))
    rwa [cut_eq, addV_back hp (he a ha) hv] at this
  · rintro ⟨h1, h2⟩ x hx
    rcases insRow_mem.1 hx with rfl | ⟨a, ha, rfl⟩
    · exact h1
    · exact (h2 a ha).addV hp hr' h1 _
theorem zero_of_lead (hv : Vec p n v) (h : lead v = v.length) : v = zeroV n :=
  ext_getD 0 (by rw [hv.len]; simp [zeroV]) fun i hi => by rw [zeroV_get]; exact lead_zero (by omega)
theorem unify_span (hp : gp p = true) (hv : Vec p n v) (hr' : Vecs p n rows') (hk : lead v < n) : Span p n rows' (unify p v) ↔ Span p n rows' v := by
  have hp2 := gp_le hp
  constructor
  · intro h
    have h2 := h.scale (by omega) hr' (v.getD (lead v) 0)
    have e : scaleV p (v.getD (lead v) 0) (unify p v) = v := by
      obtain ⟨_, _, u3⟩ := unify_facts hp hv hk
      refine vec_ext (Vec.scale (by omega) (Vec.scale (by omega) hv.len).len) hv fun j hj => ?_
      unfold unify at u3 ⊢
      rw [scaleV_get] at u3
      rw [scaleV_get, scaleV_get, Int.mul_emod, Int.emod_emod, ← Int.mul_emod, ← Int.mul_assoc, Int.mul_comm (v.getD (lead v) 0), Int.mul_emod, u3, Int.one_mul, Int.emod_emod, hv.mod]
    rwa [e] at h2
  · intro h; exact h.scale (by omega) hr' _
theorem reduceStep_vecs (hp : gp p = true) {e : List (List Int)} {row : List Int} (he : Vecs p n e) (hv : Vec p n row) : Vecs p n (reduceStep p e row) := by
  have hp2 := gp_le hp
  unfold reduceStep
  split
  · exact he
  · exact insRow_vecs (by omega) he (Vec.scale (by omega) (clear_vec (by omega) hv).len)
theorem reduceStep_span (hp : gp p = true) {e : List (List Int)} {row : List Int} (he : Vecs p n e) (hv : Vec p n row) (hr' : Vecs p n rows') :
    (∀ x, x ∈ reduceStep p e row → Span p n rows' x) ↔ Span p n rows' row ∧ ∀ a, a ∈ e → Span p n rows' a := by
  have hp2 := gp_le hp
  have hc : Vec p n (clearV p e row) := clear_vec (by omega) hv
  unfold reduceStep
  split
  · rename_i hz
    constructor
    · intro h
      refine ⟨(Span.clear (by omega) hr' h hv).1 ?_, h⟩
      rw [zero_of_lead hc hz]
      exact .zero
    · exact fun h => h.2
  · rename_i hz
    have hk : lead (clearV p e row) < n := by have := lead_le (clearV p e row); have := hc.len; omega
    rw [insRow_span (by omega) he (show Vec p n (unify p (clearV p e row)) from Vec.scale (by omega) hc.len) hr', unify_span hp hc hr' hk]
    constructor
    · rintro ⟨h1, h2⟩; exact ⟨(Span.clear (by omega) hr' h2 hv).1 h1, h2⟩
    · rintro ⟨h1, h2⟩; exact ⟨(Span.clear (by omega) hr' h2 hv).2 h1, h2⟩
theorem reduce_vecs (hp : gp p = true) (hr : Vecs p n rows) : Vecs p n (reduceR p rows) := by
  unfold reduceR
  suffices H : ∀ (l e : List (List Int)), Vecs p n l → Vecs p n e → Vecs p n (l.foldl (reduceStep p) e) from H rows [] hr (fun r h => by simp at h)
  intro l
  induction l with
  | nil => intro e _ he; exact he
  | cons a l ih => intro e hl he; exact ih _ (fun r h => hl r (by simp [h])) (reduceStep_vecs hp he (hl a (by simp)))
theorem reduce_in (hp : gp p = true) (hr : Vecs p n rows) (hr' : Vecs p n rows') : (∀ x, x ∈ reduceR p rows → Span p n rows' x) ↔ ∀ x, x ∈ rows → Span p n rows' x := by
  unfold reduceR
  suffices H : ∀ (l e : List (List Int)), Vecs p n l → Vecs p n e → ((∀ x, x ∈ l.foldl (reduceStep p) e → Span p n rows' x) ↔ (∀ x, x ∈ l → Span p n rows' x) ∧ ∀ a, a ∈ e → Span p n rows' a) by
    rw [H rows [] hr (fun r h => by simp at h)]
    exact ⟨fun h => h.1, fun h => ⟨h, fun a ha => by simp at ha⟩⟩
  intro l
  induction l with
  | nil => intro e _ he; exact ⟨fun h => ⟨fun x hx => by simp at hx, h⟩, fun h => h.2⟩
  | cons a l ih =>
    intro e hl he
    rw [List.foldl_cons, ih _ (fun r h => hl r (by simp [h])) (reduceStep_vecs hp he (hl a (by simp))), reduceStep_span hp he (hl a (by simp)) hr']
    constructor
    · rintro ⟨h1, h2, h3⟩
      exact ⟨fun x hx => by rcases List.mem_cons.1 hx with rfl | hx; exact h2; exact h1 x hx, h3⟩
    · rintro ⟨h1, h3⟩
      exact ⟨fun x hx => h1 x (by simp [hx]), h1 a (by simp), h3⟩
/-- A reduced form has the span of the rows. -/
theorem reduce_span (hp : gp p = true) (hr : Vecs p n rows) : Span p n (reduceR p rows) v ↔ Span p n rows v := by
  have hp2 := gp_le hp
  constructor
  · exact fun h => h.mono (by omega) hr ((reduce_in hp hr hr).2 fun x hx => .mem hr hx)
  · exact fun h => h.mono (by omega) (reduce_vecs hp hr) ((reduce_in hp hr (reduce_vecs hp hr)).1 fun x hx => .mem (reduce_vecs hp hr) hx)

/-! ### Reduced forms are unique -/
theorem sumN_add (n : Nat) (f g : Nat → Int) (c : Int) : sumN n (fun i => f i + c * g i) = sumN n f + c * sumN n g := by
  rw [sumN_lin (g := f) (h := g) (x := 1) (y := c) (fun i _ => by simp), Int.one_mul]
theorem Ech.vecs {e : List (List Int)} (h : Ech p n e) : Vecs p n e := vecs_of h.vec
/-- What a reduced form makes of the entries at its leads. -/
def comb (e : List (List Int)) (v : List Int) (c : Nat) : Int := sumN e.length fun i => v.getD (lead (e.getD i [])) 0 * (e.getD i []).getD c 0
theorem Ech.comb (hp : 1 < p) {e : List (List Int)} (h : Ech p n e) (hv : Span p n e v) (c : Nat) (hc : c < n) : v.getD c 0 = Num.comb e v c % p := by
  induction hv with
  | zero =>
    unfold Num.comb
    rw [zeroV_get, sumN_zero fun i hi => by rw [zeroV_get]; simp]
    simp
  | @add d v r hv' hm ih =>
    obtain ⟨j, hj, rfl⟩ := List.mem_iff_getElem.mp hm
    have ej : e[j] = e.getD j [] := (getD_lt _ _ hj).symm
    have hv2 := hv'.vec (by omega)
    have hr2 := h.vec j hj
    rw [ej, addV_eq hv2.len hr2.len, ih]
    have e1 : Num.comb e (Num.addV p d v (e.getD j [])) c % p = (Num.comb e v c + d * (e.getD j []).getD c 0) % p := by
      have s1 : (Num.comb e v c + d * (e.getD j []).getD c 0) = sumN e.length (fun i => v.getD (lead (e.getD i [])) 0 * (e.getD i []).getD c 0 + d * (if i = j then (e.getD j []).getD c 0 else 0)) := by
        rw [sumN_add, sumN_one (k := j) hj (fun i hi hn => if_neg hn), if_pos rfl]
        rfl
      rw [s1]
      refine sumN_mod fun i hi => ?_
      rw [addV_eq hv2.len hr2.len]
      by_cases hij : i = j
      · subst hij
        rw [if_pos rfl, h.one i hi, Int.mul_emod, Int.emod_emod, ← Int.mul_emod]
        congr 1
        grind
      · rw [if_neg hij, h.zero i j hi hj hij, Int.mul_zero, Int.add_zero, Int.add_zero, hv2.mod]
    rw [e1, Int.emod_add_emod]
theorem Ech.zero_at (hp : 1 < p) {e : List (List Int)} (h : Ech p n e) (hv : Span p n e v) (hz : ∀ i, i < e.length → v.getD (lead (e.getD i [])) 0 = 0) : v = zeroV n :=
  vec_ext (hv.vec (by omega)) (Vec.zeros (by omega) n) fun c hc => by
    rw [h.comb hp hv c hc, zeroV_get]
    unfold Num.comb
    rw [sumN_zero fun i hi => by rw [hz i hi]; simp]
    simp
/-- What is not 0 leads where a row leads. -/
theorem Ech.lead_in (hp : 1 < p) {e : List (List Int)} (h : Ech p n e) (hv : Span p n e v) (hl : lead v < n) : ∃ i, i < e.length ∧ lead (e.getD i []) = lead v := by
  have hv2 := hv.vec (by omega)
  apply Classical.byContradiction
  intro hn
  have : v.getD (lead v) 0 = 0 := by
    rw [h.comb hp hv _ hl]
    unfold Num.comb
    rw [sumN_zero fun i hi => ?_]
    · simp
    · rcases Nat.lt_trichotomy (lead (e.getD i [])) (lead v) with g | g | g
      · rw [lead_zero g]; simp
      · exact absurd ⟨i, hi, g⟩ hn
      · rw [lead_zero g]; simp
  exact lead_ne (by rw [hv2.len]; exact hl) this
theorem Ech.leads {e f : List (List Int)} (he : Ech p n e) (hf : Ech p n f) (h1 : ∀ i, i < e.length → ∃ j, j < f.length ∧ lead (f.getD j []) = lead (e.getD i [])) (h2 : ∀ i, i < f.length → ∃ j, j < e.length ∧ lead (e.getD j []) = lead (f.getD i [])) :
    ∀ i, i < e.length → i < f.length ∧ lead (e.getD i []) = lead (f.getD i []) := by
  intro i
  induction i using Nat.strongRecOn with
  | _ i ih =>
    intro hi
    obtain ⟨m, hm, em⟩ := h1 i hi
    have hmi : i ≤ m := by
      rcases Nat.lt_or_ge m i with g | g
      · have := (ih m g (by omega)).2
        have := he.sorted m i g hi
        omega
      · exact g
    have hif : i < f.length := by omega
    refine ⟨hif, ?_⟩
    obtain ⟨l, hl, el⟩ := h2 i hif
    have hli : i ≤ l := by
      rcases Nat.lt_or_ge l i with g | g
      · have := (ih l g (by omega)).2
        have := hf.sorted l i g hif
        omega
      · exact g
    have a : lead (f.getD i []) ≤ lead (f.getD m []) := by
      by_cases g : i = m
      · rw [g]; exact Nat.le_refl _
      · exact Nat.le_of_lt (hf.sorted i m (by omega) hm)
    have b : lead (e.getD i []) ≤ lead (e.getD l []) := by
      by_cases g : i = l
      · rw [g]; exact Nat.le_refl _
      · exact Nat.le_of_lt (he.sorted i l (by omega) hl)
    omega
theorem Ech.unique (hp : 1 < p) {e f : List (List Int)} (he : Ech p n e) (hf : Ech p n f) (h : ∀ v, Span p n e v ↔ Span p n f v) : e = f := by
  have k1 : ∀ i, i < e.length → ∃ j, j < f.length ∧ lead (f.getD j []) = lead (e.getD i []) := fun i hi => hf.lead_in hp ((h _).1 (.mem he.vecs (mem_getD _ hi))) (he.lt i hi)
  have k2 : ∀ i, i < f.length → ∃ j, j < e.length ∧ lead (e.getD j []) = lead (f.getD i []) := fun i hi => he.lead_in hp ((h _).2 (.mem hf.vecs (mem_getD _ hi))) (hf.lt i hi)
  have l1 := he.leads hf k1 k2
  have l2 := hf.leads he k2 k1
  have hlen : e.length = f.length := by
    rcases Nat.lt_trichotomy e.length f.length with g | g | g
    · have := (l2 _ g).1; omega
    · exact g
    · have := (l1 _ g).1; omega
  refine ext_getD [] hlen fun i hi => ?_
  have hif : i < f.length := by omega
  have s1 : Span p n e (e.getD i []) := .mem he.vecs (mem_getD _ hi)
  have s2 : Span p n e (f.getD i []) := (h _).2 (.mem hf.vecs (mem_getD _ hif))
  have hz := he.zero_at hp (s1.addV (by omega) he.vecs s2 (-1)) fun j hj => by
    rw [addV_eq (he.vec i hi).len (hf.vec i hif).len]
    have lj := (l1 j hj).2
    by_cases hij : j = i
    · subst hij
      rw [he.one j hj, lj, hf.one j (by omega)]
      simp
    · rw [he.zero j i hj hi hij, lj, hf.zero j i (by omega) hif hij]
      simp
  refine vec_ext (he.vec i hi) (hf.vec i hif) fun c hc => ?_
  have e1 : (Num.addV p (-1) (e.getD i []) (f.getD i [])).getD c 0 = 0 := by rw [hz, zeroV_get]
  rw [addV_eq (he.vec i hi).len (hf.vec i hif).len] at e1
  have a1 := (he.vec i hi).lo c
  have a2 := (he.vec i hi).hi c
  have b1 := (hf.vec i hif).lo c
  have b2 := (hf.vec i hif).hi c
  have d := Int.dvd_of_emod_eq_zero e1
  have z := Int.eq_zero_of_dvd_of_natAbs_lt_natAbs d (by omega)
  omega
theorem reduce_unique (hp : gp p = true) (hr : Vecs p n rows) {e : List (List Int)} (he : Ech p n e) (h : ∀ v, Span p n e v ↔ Span p n rows v) : reduceR p rows = e := by
  have hp2 := gp_le hp
  exact (ech_reduce_all hp fun i hi => hr.at_ hi).unique (by omega) he fun v => by rw [reduce_span hp hr, h]
/-- Rows with one span have one reduced form. -/
theorem reduce_congr (hp : gp p = true) (hr : Vecs p n rows) (hr' : Vecs p n rows') (h : ∀ v, Span p n rows v ↔ Span p n rows' v) : reduceR p rows = reduceR p rows' :=
  reduce_unique hp hr (ech_reduce_all hp fun i hi => hr'.at_ hi) fun v => by rw [reduce_span hp hr', h]
theorem Ech.reduce (hp : gp p = true) {e : List (List Int)} (he : Ech p n e) : reduceR p e = e := reduce_unique hp he.vecs he fun _ => Iff.rfl
end span
end Go.Proofs.Ytggkoihlmijacaa.Num
