/- NumN, NumV, NumW, NumX, NumY in one. -/
import Derived.Test.YtihdidbikeaafaaKB
import Derived.Test.YtihdidbikeaafaaKA
namespace Go.Proofs.Ytihdidbikeaafaa
set_option linter.unusedVariables false
namespace Num
def unitR (n : Nat) : List (List Int) := (List.range n).map (unitV n)
/-- v times the first i rows. -/
def timesTo (p : Int) (v : List Int) (rows : List (List Int)) (n : Nat) : Nat → List Int
  | 0 => zeroV n
  | i + 1 => addV p (v.getD i 0) (timesTo p v rows n i) (rows.getD i [])
def timesV (p : Int) (v : List Int) (rows : List (List Int)) (n : Nat) : List Int := timesTo p v rows n rows.length
theorem timesTo_length (p : Int) (v : List Int) (rows : List (List Int)) (n i : Nat) : (timesTo p v rows n i).length = n := by
  induction i with
  | zero => simp [timesTo, zeroV]
  | succ i ih => show (addV _ _ _ _).length = n; rw [addV_length, ih]
def prodR (p : Int) (a b : List (List Int)) (n : Nat) : List (List Int) := a.map fun v => timesV p v b n
def colV (rows : List (List Int)) (j : Nat) : List Int := rows.map fun r => r.getD j 0
def transR (rows : List (List Int)) (C : Nat) : List (List Int) := (List.range C).map (colV rows)
end Num
def noMat : Mat := ⟨0, 0, []⟩
def Mat.ok (a : Mat) : Bool := Num.matB a.P a.C a.R
def Mat.sq (a : Mat) : Int := if !a.ok then 1 else if (a.R.length : Int) ≠ a.C then 2 else 0
def okIdent (p n : Int) : Bool := Num.gp p && decide (0 ≤ n ∧ n ≤ 8)
def rIsMatrix (a : Mat) : Bool := a.ok
def rIdentityMatrix (p n : Int) : Mat := if okIdent p n then ⟨p, n, Num.unitR n.toNat⟩ else noMat
def cIdentityMatrix (p n : Int) : Int := if okIdent p n then 0 else 2
def cMatrixProduct (a b : Mat) : Int := if !a.ok || !b.ok then 1 else if a.P ≠ b.P ∨ a.C ≠ b.R.length then 2 else 0
def rMatrixProduct (a b : Mat) : Mat := if cMatrixProduct a b = 0 then ⟨b.P, b.C, Num.prodR b.P a.R b.R b.C.toNat⟩ else noMat
def cTransposeMatrix (a : Mat) : Int := if a.ok then 0 else 1
def rTransposeMatrix (a : Mat) : Mat := if a.ok then ⟨a.P, a.R.length, Num.transR a.R a.C.toNat⟩ else noMat
def cReduceRows (a : Mat) : Int := if a.ok then 0 else 1
noncomputable def rReduceRows (a : Mat) : Mat := if a.ok then ⟨a.P, a.C, Num.reduceR a.P a.R⟩ else noMat
def cDeterminant (a : Mat) : Int := a.sq
def rDeterminant (a : Mat) : Int := if a.sq = 0 then Num.det a.R.length (Num.matF a.R) % a.P else 0
noncomputable def cInverseMatrix (a : Mat) : Int := if a.sq ≠ 0 then a.sq else if Num.place (Num.wideE a.P a.R) a.C.toNat < a.C.toNat then 4 else 0
noncomputable def rInverseMatrix (a : Mat) : Mat := if cInverseMatrix a = 0 then ⟨a.P, a.C, Num.invR a.P a.R a.C.toNat⟩ else noMat
def cLeftKernel (a : Mat) : Int := if a.ok then 0 else 1
noncomputable def rLeftKernel (a : Mat) : Mat := if a.ok then ⟨a.P, a.R.length, Num.nullR a.P a.R a.C.toNat⟩ else noMat
noncomputable def cSolveRows (a : Mat) (b : List Int) : Int := if !a.ok || !Num.vecB a.P a.C b then 1 else if Num.lead (Num.restV a.P a.R b) < b.length then 4 else 0
noncomputable def rSolveRows (a : Mat) (b : List Int) : List Int := if cSolveRows a b = 0 then Num.solveV a.P a.R b else []
/-- What a valid matrix is. -/
theorem Mat.ok_out {a : Mat} (h : a.ok = true) : Num.gp a.P = true ∧ 2 ≤ a.P ∧ a.P ≤ 7 ∧ 0 ≤ a.C ∧ a.C ≤ 8 ∧ a.R.length ≤ 8 ∧ ∀ i, i < a.R.length → Num.Vec a.P a.C.toNat (a.R.getD i []) := by
  obtain ⟨h1, h2, h3, h4, h5⟩ := Num.matB_out h
  have h6 := Num.gp_le h1
  refine ⟨h1, h6.1, h6.2, h2, h3, h4, fun i hi => ?_⟩
  have l := (Num.vecB_out (h5 i hi)).1
  have e : a.C = ((a.C.toNat : Nat) : Int) := by omega
  have hv := h5 i hi
  rw [e] at hv
  exact Num.vec_of (by omega) hv
end Go.Proofs.Ytihdidbikeaafaa
namespace Go.Proofs.Ytihdidbikeaafaa.Num
set_option linter.unusedVariables false
set_option linter.unusedSimpArgs false

/-- v is a combination of rows. -/
inductive Span (p : Int) (n : Nat) (rows : List (List Int)) : List Int → Prop
  | zero : Span p n rows (zeroV n)
  | add (c : Int) {v r : List Int} : Span p n rows v → r ∈ rows → Span p n rows (addV p c v r)
/-- All rows are vectors. -/
def Vecs (p : Int) (n : Nat) (rows : List (List Int)) : Prop := ∀ r, r ∈ rows → Vec p n r
theorem vecs_of {p : Int} {n : Nat} {rows : List (List Int)} (h : ∀ i, i < rows.length → Vec p n (rows.getD i [])) : Vecs p n rows := fun r hr => by
  obtain ⟨i, hi, rfl⟩ := List.mem_iff_getElem.mp hr
  have := h i hi
  rwa [getD_lt _ _ hi] at this
theorem Vecs.at_ {p : Int} {n : Nat} {rows : List (List Int)} (h : Vecs p n rows) {i : Nat} (hi : i < rows.length) : Vec p n (rows.getD i []) := by
  rw [getD_lt _ _ hi]; exact h _ (List.getElem_mem hi)
theorem mem_getD {α : Type} {rows : List α} (d : α) {i : Nat} (hi : i < rows.length) : rows.getD i d ∈ rows := by
  rw [getD_lt _ _ hi]; exact List.getElem_mem hi
theorem vec_ext {p : Int} {n : Nat} {v w : List Int} (hv : Vec p n v) (hw : Vec p n w) (h : ∀ j, j < n → v.getD j 0 = w.getD j 0) : v = w :=
  ext_getD 0 (by rw [hv.len, hw.len]) fun i hi => h i (by rw [← hv.len]; exact hi)
section span
variable {p : Int} {n : Nat} {rows rows' : List (List Int)} {v w r : List Int}
theorem Span.vec (hp : 0 < p) (h : Span p n rows v) : Vec p n v := by
  induction h with
  | zero => exact Vec.zeros hp n
  | add c _ _ ih => exact Vec.add hp ih.len
theorem addV_eq (hv : v.length = n) (hw : w.length = n) (j : Nat) (c : Int) : (addV p c v w).getD j 0 = (v.getD j 0 + c * w.getD j 0) % p := addV_get (by rw [hv, hw])
theorem addV_zero_right (hv : Vec p n v) (c : Int) : addV p c v (zeroV n) = v :=
  ext_getD 0 (addV_length _ _ _ _) fun i hi => by
    rw [addV_eq hv.len (by simp [zeroV]), zeroV_get, Int.mul_zero, Int.add_zero, hv.mod]
theorem addV_assoc (hp : 0 < p) {u : List Int} (hu : Vec p n u) (hv : Vec p n v) (hr : Vec p n r) (c d : Int) : addV p c u (addV p d v r) = addV p (c * d) (addV p c u v) r := by
  refine vec_ext (Vec.add hp hu.len) (Vec.add hp (Vec.add hp hu.len (c := c) (w := v)).len) fun j hj => ?_
  rw [addV_eq hu.len (Vec.add hp hv.len).len, addV_eq (Vec.add hp hu.len).len hr.len, addV_eq hv.len hr.len, addV_eq hu.len hv.len]
  rw [Int.emod_add_emod, Int.add_emod, Int.mul_emod, Int.emod_emod, ← Int.mul_emod, ← Int.add_emod]
  congr 1
  grind
theorem Span.addV (hp : 0 < p) (hr : Vecs p n rows) (hv : Span p n rows v) (hw : Span p n rows w) (c : Int) : Span p n rows (addV p c v w) := by
  induction hw with
  | zero => rw [addV_zero_right (hv.vec hp)]; exact hv
  | add d hw' hm ih =>
    rw [addV_assoc hp (hv.vec hp) (hw'.vec hp) (hr _ hm)]
    exact .add _ ih hm
theorem addV_one (hv : Vec p n v) : Num.addV p 1 (zeroV n) v = v :=
  ext_getD 0 (by rw [addV_length, hv.len]; simp [zeroV]) fun i hi => by
    rw [addV_eq (by simp [zeroV]) hv.len, zeroV_get, Int.zero_add, Int.one_mul, hv.mod]
theorem Span.mem (hr : Vecs p n rows) (h : r ∈ rows) : Span p n rows r := by
  have := Span.add (p := p) (n := n) 1 .zero h
  rwa [addV_one (hr r h)] at this
theorem Span.mono (hp : 0 < p) (hr : Vecs p n rows') (h : ∀ r, r ∈ rows → Span p n rows' r) (hv : Span p n rows v) : Span p n rows' v := by
  induction hv with
  | zero => exact .zero
  | add c _ hm ih => exact ih.addV hp hr (h _ hm) c
theorem scaleV_add (hv : Vec p n v) (c : Int) : scaleV p c v = Num.addV p c (zeroV n) v :=
  ext_getD 0 (by rw [scaleV_length, addV_length, hv.len]; simp [zeroV]) fun i hi => by
    rw [scaleV_get, addV_eq (by simp [zeroV]) hv.len, zeroV_get, Int.zero_add]
theorem Span.scale (hp : 0 < p) (hr : Vecs p n rows) (h : Span p n rows v) (c : Int) : Span p n rows (scaleV p c v) := by
  rw [scaleV_add (h.vec hp)]; exact Span.zero.addV hp hr h c
theorem addV_back (hp : 0 < p) (hv : Vec p n v) (hr : Vec p n r) (c : Int) : Num.addV p (-c) (Num.addV p c v r) r = v := by
  refine vec_ext (Vec.add hp (Vec.add hp hv.len (c := c) (w := r)).len) hv fun j hj => ?_
  rw [addV_eq (Vec.add hp hv.len).len hr.len, addV_eq hv.len hr.len, Int.emod_add_emod]
  have e : v.getD j 0 + c * r.getD j 0 + -c * r.getD j 0 = v.getD j 0 := by grind
  rw [e, hv.mod]
theorem clear_vec (hp : 0 < p) (hv : Vec p n v) : Vec p n (clearV p rows v) := by
  induction rows generalizing v with
  | nil => exact hv
  | cons a l ih => exact ih (Vec.add hp hv.len)
/-- Clearing goes on within a span that holds the rows. -/
theorem Span.clear (hp : 0 < p) (hr' : Vecs p n rows') (h : ∀ r, r ∈ rows → Span p n rows' r) (hv : Vec p n v) : Span p n rows' (clearV p rows v) ↔ Span p n rows' v := by
  induction rows generalizing v with
  | nil => exact Iff.rfl
  | cons a l ih =>
    have ha := h a (by simp)
    show Span p n rows' (clearV p l (clearStep p v a)) ↔ _
    rw [ih (fun r hr => h r (by simp [hr])) (show Vec p n (clearStep p v a) from Vec.add hp hv.len)]
    constructor
    · intro k
      have := k.addV hp hr' ha (-(neg p (v.getD (lead a) 0)))
      rwa [clearStep, addV_back hp hv (ha.vec hp)] at this
    · intro k
      exact k.addV hp hr' ha _
theorem cut_eq (r' : List Int) (k : Nat) : cut p v k r' = Num.addV p (neg p (r'.getD k 0)) r' v := rfl
theorem insRow_mem {e : List (List Int)} {k : Nat} {x : List Int} : x ∈ insRow p e v k ↔ x = v ∨ ∃ a, a ∈ e ∧ x = cut p v k a := by
  unfold insRow putAt
  have key : x ∈ e.map (cut p v k) ↔ ∃ a, a ∈ e ∧ x = cut p v k a := by
    rw [List.mem_map]; exact ⟨fun ⟨a, h1, h2⟩ => ⟨a, h1, h2.symm⟩, fun ⟨a, h1, h2⟩ => ⟨a, h1, h2.symm⟩⟩
  rw [List.mem_append, List.mem_cons, ← key]
  constructor
  · rintro (h | h | h)
    · exact .inr (List.mem_of_mem_take h)
    · exact .inl h
    · exact .inr (List.mem_of_mem_drop h)
  · rintro (h | h)
    · exact .inr (.inl h)
    · rw [← List.take_append_drop (place e k) (e.map (cut p v k)), List.mem_append] at h
      rcases h with h | h
      · exact .inl h
      · exact .inr (.inr h)
theorem insRow_vecs (hp : 0 < p) {e : List (List Int)} {k : Nat} (he : Vecs p n e) (hv : Vec p n v) : Vecs p n (insRow p e v k) := fun x hx => by
  rcases insRow_mem.1 hx with rfl | ⟨a, ha, rfl⟩
  · exact hv
  · exact Vec.add hp (he a ha).len
/-- A list of rows whose span holds these rows and those. -/
theorem insRow_span (hp : 0 < p) {e : List (List Int)} {k : Nat} (he : Vecs p n e) (hv : Vec p n v) (hr' : Vecs p n rows') :
    (∀ x, x ∈ insRow p e v k → Span p n rows' x) ↔ Span p n rows' v ∧ ∀ a, a ∈ e → Span p n rows' a := by
  constructor
  · intro h
    have h1 := h v (insRow_mem.2 (.inl rfl))
    refine ⟨h1, fun a ha => ?_⟩
    have h2 := h _ (insRow_mem.2 (.inr ⟨a, ha, rfl⟩))
    have := h2.addV hp hr' h1 (-(neg p (a.getD k 0)))
    rwa [cut_eq, addV_back hp (he a ha) hv] at this
  · rintro ⟨h1, h2⟩ x hx
    rcases insRow_mem.1 hx with rfl | ⟨a, ha, rfl⟩
    · exact h1
    · exact (h2 a ha).addV hp hr' h1 _
theorem zero_of_lead (hv : Vec p n v) (h : lead v = v.length) : v = zeroV n :=
  ext_getD 0 (by rw [hv.len]; simp [zeroV]) fun i hi => by rw [zeroV_get]; exact lead_zero (by omega)
theorem unify_span (hp : gp p = true) (hv : Vec p n v) (hr' : Vecs p n rows') (hk : lead v < n) : Span p n rows' (unify p v) ↔ Span p n rows' v := by
  have hp2 := gp_le hp
  constructor
  · intro h
    have h2 := h.scale (by omega) hr' (v.getD (lead v) 0)
    have e : scaleV p (v.getD (lead v) 0) (unify p v) = v := by
      obtain ⟨_, _, u3⟩ := unify_facts hp hv hk
      refine vec_ext (Vec.scale (by omega) (Vec.scale (by omega) hv.len).len) hv fun j hj => ?_
      unfold unify at u3 ⊢
      rw [scaleV_get] at u3
      rw [scaleV_get, scaleV_get, Int.mul_emod, Int.emod_emod, ← Int.mul_emod, ← Int.mul_assoc, Int.mul_comm (v.getD (lead v) 0), Int.mul_emod, u3, Int.one_mul, Int.emod_emod, hv.mod]
    rwa [e] at h2
  · intro h; exact h.scale (by omega) hr' _
theorem reduceStep_vecs (hp : gp p = true) {e : List (List Int)} {row : List Int} (he : Vecs p n e) (hv : Vec p n row) : Vecs p n (reduceStep p e row) := by
  have hp2 := gp_le hp
  unfold reduceStep
  split
  · exact he
  · exact insRow_vecs (by omega) he (Vec.scale (by omega) (clear_vec (by omega) hv).len)
theorem reduceStep_span (hp : gp p = true) {e : List (List Int)} {row : List Int} (he : Vecs p n e) (hv : Vec p n row) (hr' : Vecs p n rows') :
    (∀ x, x ∈ reduceStep p e row → Span p n rows' x) ↔ Span p n rows' row ∧ ∀ a, a ∈ e → Span p n rows' a := by
  have hp2 := gp_le hp
  have hc : Vec p n (clearV p e row) := clear_vec (by omega) hv
  unfold reduceStep
  split
  · rename_i hz
    constructor
    · intro h
      refine ⟨(Span.clear (by omega) hr' h hv).1 ?_, h⟩
      rw [zero_of_lead hc hz]
      exact .zero
    · exact fun h => h.2
  · rename_i hz
    have hk : lead (clearV p e row) < n := by have := lead_le (clearV p e row); have := hc.len; omega
    rw [insRow_span (by omega) he (show Vec p n (unify p (clearV p e row)) from Vec.scale (by omega) hc.len) hr', unify_span hp hc hr' hk]
    constructor
    · rintro ⟨h1, h2⟩; exact ⟨(Span.clear (by omega) hr' h2 hv).1 h1, h2⟩
    · rintro ⟨h1, h2⟩; exact ⟨(Span.clear (by omega) hr' h2 hv).2 h1, h2⟩
theorem reduce_vecs (hp : gp p = true) (hr : Vecs p n rows) : Vecs p n (reduceR p rows) := by
  unfold reduceR
  suffices H : ∀ (l e : List (List Int)), Vecs p n l → Vecs p n e → Vecs p n (l.foldl (reduceStep p) e) from H rows [] hr (fun r h => by simp at h)
  intro l
  induction l with
  | nil => intro e _ he; exact he
  | cons a l ih => intro e hl he; exact ih _ (fun r h => hl r (by simp [h])) (reduceStep_vecs hp he (hl a (by simp)))
theorem reduce_in (hp : gp p = true) (hr : Vecs p n rows) (hr' : Vecs p n rows') : (∀ x, x ∈ reduceR p rows → Span p n rows' x) ↔ ∀ x, x ∈ rows → Span p n rows' x := by
  unfold reduceR
  suffices H : ∀ (l e : List (List Int)), Vecs p n l → Vecs p n e → ((∀ x, x ∈ l.foldl (reduceStep p) e → Span p n rows' x) ↔ (∀ x, x ∈ l → Span p n rows' x) ∧ ∀ a, a ∈ e → Span p n rows' a) by
    rw [H rows [] hr (fun r h => by simp at h)]
    exact ⟨fun h => h.1, fun h => ⟨h, fun a ha => by simp at ha⟩⟩
  intro l
  induction l with
  | nil => intro e _ he; exact ⟨fun h => ⟨fun x hx => by simp at hx, h⟩, fun h => h.2⟩
  | cons a l ih =>
    intro e hl he
    rw [List.foldl_cons, ih _ (fun r h => hl r (by simp [h])) (reduceStep_vecs hp he (hl a (by simp))), reduceStep_span hp he (hl a (by simp)) hr']
    constructor
    · rintro ⟨h1, h2, h3⟩
      exact ⟨fun x hx => by rcases List.mem_cons.1 hx with rfl | hx; exact h2; exact h1 x hx, h3⟩
    · rintro ⟨h1, h3⟩
      exact ⟨fun x hx => h1 x (by simp [hx]), h1 a (by simp), h3⟩
/-- A reduced form has the span of the rows. -/
theorem reduce_span (hp : gp p = true) (hr : Vecs p n rows) : Span p n (reduceR p rows) v ↔ Span p n rows v := by
  have hp2 := gp_le hp
  constructor
  · exact fun h => h.mono (by omega) hr ((reduce_in hp hr hr).2 fun x hx => .mem hr hx)
  · exact fun h => h.mono (by omega) (reduce_vecs hp hr) ((reduce_in hp hr (reduce_vecs hp hr)).1 fun x hx => .mem (reduce_vecs hp hr) hx)

/-! ### Reduced forms are unique -/
theorem sumN_add (n : Nat) (f g : Nat → Int) (c : Int) : sumN n (fun i => f i + c * g i) = sumN n f + c * sumN n g := by
  rw [sumN_lin (g := f) (h := g) (x := 1) (y := c) (fun i _ => by simp), Int.one_mul]
theorem Ech.vecs {e : List (List Int)} (h : Ech p n e) : Vecs p n e := vecs_of h.vec
/-- What a reduced form makes of the entries at its leads. -/
def comb (e : List (List Int)) (v : List Int) (c : Nat) : Int := sumN e.length fun i => v.getD (lead (e.getD i [])) 0 * (e.getD i []).getD c 0
theorem Ech.comb (hp : 1 < p) {e : List (List Int)} (h : Ech p n e) (hv : Span p n e v) (c : Nat) (hc : c < n) : v.getD c 0 = Num.comb e v c % p := by
  induction hv with
  | zero =>
    unfold Num.comb
    rw [zeroV_get, sumN_zero fun i hi => by rw [zeroV_get]; simp]
    simp
  | @add d v r hv' hm ih =>
    obtain ⟨j, hj, rfl⟩ := List.mem_iff_getElem.mp hm
    have ej : e[j] = e.getD j [] := (getD_lt _ _ hj).symm
    have hv2 := hv'.vec (by omega)
    have hr2 := h.vec j hj
    rw [ej, addV_eq hv2.len hr2.len, ih]
    have e1 : Num.comb e (Num.addV p d v (e.getD j [])) c % p = (Num.comb e v c + d * (e.getD j []).getD c 0) % p := by
      have s1 : (Num.comb e v c + d * (e.getD j []).getD c 0) = sumN e.length (fun i => v.getD (lead (e.getD i [])) 0 * (e.getD i []).getD c 0 + d * (if i = j then (e.getD j []).getD c 0 else 0)) := by
        rw [sumN_add, sumN_one (k := j) hj (fun i hi hn => if_neg hn), if_pos rfl]
        rfl
      rw [s1]
      refine sumN_mod fun i hi => ?_
      rw [addV_eq hv2.len hr2.len]
      by_cases hij : i = j
      · subst hij
        rw [if_pos rfl, h.one i hi, Int.mul_emod, Int.emod_emod, ← Int.mul_emod]
        congr 1
        grind
      · rw [if_neg hij, h.zero i j hi hj hij, Int.mul_zero, Int.add_zero, Int.add_zero, hv2.mod]
    rw [e1, Int.emod_add_emod]
theorem Ech.zero_at (hp : 1 < p) {e : List (List Int)} (h : Ech p n e) (hv : Span p n e v) (hz : ∀ i, i < e.length → v.getD (lead (e.getD i [])) 0 = 0) : v = zeroV n :=
  vec_ext (hv.vec (by omega)) (Vec.zeros (by omega) n) fun c hc => by
    rw [h.comb hp hv c hc, zeroV_get]
    unfold Num.comb
    rw [sumN_zero fun i hi => by rw [hz i hi]; simp]
    simp
/-- What is not 0 leads where a row leads. -/
theorem Ech.lead_in (hp : 1 < p) {e : List (List Int)} (h : Ech p n e) (hv : Span p n e v) (hl : lead v < n) : ∃ i, i < e.length ∧ lead (e.getD i []) = lead v := by
  have hv2 := hv.vec (by omega)
  apply Classical.byContradiction
  intro hn
  have : v.getD (lead v) 0 = 0 := by
    rw [h.comb hp hv _ hl]
    unfold Num.comb
    rw [sumN_zero fun i hi => ?_]
    · simp
    · rcases Nat.lt_trichotomy (lead (e.getD i [])) (lead v) with g | g | g
      · rw [lead_zero g]; simp
      · exact absurd ⟨i, hi, g⟩ hn
      · rw [lead_zero g]; simp
  exact _root_.Go.Proofs.Ytihdidbikeaafaa.Num.lead_ne (by rw [hv2.len]; exact hl) this
theorem Ech.leads {e f : List (List Int)} (he : Ech p n e) (hf : Ech p n f) (h1 : ∀ i, i < e.length → ∃ j, j < f.length ∧ lead (f.getD j []) = lead (e.getD i [])) (h2 : ∀ i, i < f.length → ∃ j, j < e.length ∧ lead (e.getD j []) = lead (f.getD i [])) :
    ∀ i, i < e.length → i < f.length ∧ lead (e.getD i []) = lead (f.getD i []) := by
  intro i
  induction i using Nat.strongRecOn with
  | _ i ih =>
    intro hi
    obtain ⟨m, hm, em⟩ := h1 i hi
    have hmi : i ≤ m := by
      rcases Nat.lt_or_ge m i with g | g
      · have := (ih m g (by omega)).2
        have := he.sorted m i g hi
        omega
      · exact g
    have hif : i < f.length := by omega
    refine ⟨hif, ?_⟩
    obtain ⟨l, hl, el⟩ := h2 i hif
    have hli : i ≤ l := by
      rcases Nat.lt_or_ge l i with g | g
      · have := (ih l g (by omega)).2
        have := hf.sorted l i g hif
        omega
      · exact g
    have a : lead (f.getD i []) ≤ lead (f.getD m []) := by
      by_cases g : i = m
      · rw [g]; exact Nat.le_refl _
      · exact Nat.le_of_lt (hf.sorted i m (by omega) hm)
    have b : lead (e.getD i []) ≤ lead (e.getD l []) := by
      by_cases g : i = l
      · rw [g]; exact Nat.le_refl _
      · exact Nat.le_of_lt (he.sorted i l (by omega) hl)
    omega
theorem Ech.unique (hp : 1 < p) {e f : List (List Int)} (he : Ech p n e) (hf : Ech p n f) (h : ∀ v, Span p n e v ↔ Span p n f v) : e = f := by
  have k1 : ∀ i, i < e.length → ∃ j, j < f.length ∧ lead (f.getD j []) = lead (e.getD i []) := fun i hi => hf.lead_in hp ((h _).1 (.mem he.vecs (mem_getD _ hi))) (he.lt i hi)
  have k2 : ∀ i, i < f.length → ∃ j, j < e.length ∧ lead (e.getD j []) = lead (f.getD i []) := fun i hi => he.lead_in hp ((h _).2 (.mem hf.vecs (mem_getD _ hi))) (hf.lt i hi)
  have l1 := he.leads hf k1 k2
  have l2 := hf.leads he k2 k1
  have hlen : e.length = f.length := by
    rcases Nat.lt_trichotomy e.length f.length with g | g | g
    · have := (l2 _ g).1; omega
    · exact g
    · have := (l1 _ g).1; omega
  refine ext_getD [] hlen fun i hi => ?_
  have hif : i < f.length := by omega
  have s1 : Span p n e (e.getD i []) := .mem he.vecs (mem_getD _ hi)
  have s2 : Span p n e (f.getD i []) := (h _).2 (.mem hf.vecs (mem_getD _ hif))
  have hz := he.zero_at hp (s1.addV (by omega) he.vecs s2 (-1)) fun j hj => by
    rw [addV_eq (he.vec i hi).len (hf.vec i hif).len]
    have lj := (l1 j hj).2
    by_cases hij : j = i
    · subst hij
      rw [he.one j hj, lj, hf.one j (by omega)]
      simp
    · rw [he.zero j i hj hi hij, lj, hf.zero j i (by omega) hif hij]
      simp
  refine vec_ext (he.vec i hi) (hf.vec i hif) fun c hc => ?_
  have e1 : (Num.addV p (-1) (e.getD i []) (f.getD i [])).getD c 0 = 0 := by rw [hz, zeroV_get]
  rw [addV_eq (he.vec i hi).len (hf.vec i hif).len] at e1
  have a1 := (he.vec i hi).lo c
  have a2 := (he.vec i hi).hi c
  have b1 := (hf.vec i hif).lo c
  have b2 := (hf.vec i hif).hi c
  have d := Int.dvd_of_emod_eq_zero e1
  have z := Int.eq_zero_of_dvd_of_natAbs_lt_natAbs d (by omega)
  omega
theorem reduce_unique (hp : gp p = true) (hr : Vecs p n rows) {e : List (List Int)} (he : Ech p n e) (h : ∀ v, Span p n e v ↔ Span p n rows v) : reduceR p rows = e := by
  have hp2 := gp_le hp
  exact (ech_reduce_all hp fun i hi => hr.at_ hi).unique (by omega) he fun v => by rw [reduce_span hp hr, h]
/-- Rows with one span have one reduced form. -/
theorem reduce_congr (hp : gp p = true) (hr : Vecs p n rows) (hr' : Vecs p n rows') (h : ∀ v, Span p n rows v ↔ Span p n rows' v) : reduceR p rows = reduceR p rows' :=
  reduce_unique hp hr (ech_reduce_all hp fun i hi => hr'.at_ hi) fun v => by rw [reduce_span hp hr', h]
theorem Ech.reduce (hp : gp p = true) {e : List (List Int)} (he : Ech p n e) : reduceR p e = e := reduce_unique hp he.vecs he fun _ => Iff.rfl
end span
end Go.Proofs.Ytihdidbikeaafaa.Num
namespace Go.Proofs.Ytihdidbikeaafaa.Num
set_option linter.unusedVariables false
set_option linter.unusedSimpArgs false

theorem sumN_mul (n : Nat) (f : Nat → Int) (c : Int) : c * sumN n f = sumN n fun i => c * f i := by
  induction n with
  | zero => simp [sumN]
  | succ n ih => show c * (sumN n f + f n) = _ + _; rw [Int.mul_add, ih]
theorem sumN_plus (n : Nat) (f g : Nat → Int) : sumN n (fun i => f i + g i) = sumN n f + sumN n g := by
  have := sumN_add n f g 1
  simpa using this
theorem sumN_swap (n m : Nat) (f : Nat → Nat → Int) : sumN n (fun i => sumN m (f i)) = sumN m fun j => sumN n fun i => f i j := by
  induction n with
  | zero => exact (sumN_zero fun _ _ => rfl).symm
  | succ n ih => show sumN n _ + sumN m (f n) = _; rw [ih, ← sumN_plus]; rfl
theorem sumN_split (k d : Nat) (f : Nat → Int) : sumN (k + d) f = sumN k f + sumN d fun i => f (k + i) := by
  induction d with
  | zero => simp [sumN]
  | succ d ih => show sumN (k + d) f + f (k + d) = sumN k f + ((sumN d fun i => f (k + i)) + f (k + d)); rw [ih]; omega
theorem sumN_emod {p : Int} (n : Nat) (f : Nat → Int) : sumN n (fun i => f i % p) % p = sumN n f % p := sumN_mod fun i _ => Int.emod_emod _ _
theorem mul_emod_r (a b p : Int) : a * (b % p) % p = a * b % p := by rw [Int.mul_emod, Int.emod_emod, ← Int.mul_emod]
theorem mul_emod_l (a b p : Int) : (a % p) * b % p = a * b % p := by rw [Int.mul_emod, Int.emod_emod, ← Int.mul_emod]
theorem add_emod_r (a b p : Int) : (a + b % p) % p = (a + b) % p := Int.add_emod_emod _ _ _

section times
variable {p : Int} {n m : Nat} {rows : List (List Int)} {v w x y : List Int}
theorem timesTo_get (hr : Vecs p n rows) (k : Nat) (hk : k ≤ rows.length) {j : Nat} (hj : j < n) : (timesTo p v rows n k).getD j 0 = sumN k (fun i => v.getD i 0 * (rows.getD i []).getD j 0) % p := by
  induction k with
  | zero => show (zeroV n).getD j 0 = 0 % p; rw [zeroV_get]; simp
  | succ k ih =>
    show (Num.addV p _ (timesTo p v rows n k) (rows.getD k [])).getD j 0 = (sumN k _ + _) % p
    rw [addV_eq (timesTo_length _ _ _ _ _) (hr.at_ (by omega)).len, ih (by omega), Int.emod_add_emod]
theorem timesV_get (hr : Vecs p n rows) {j : Nat} (hj : j < n) : (timesV p v rows n).getD j 0 = sumN rows.length (fun i => v.getD i 0 * (rows.getD i []).getD j 0) % p := timesTo_get hr _ (Nat.le_refl _) hj
theorem timesTo_vec (hp : 0 < p) (k : Nat) : Vec p n (timesTo p v rows n k) := by
  cases k with
  | zero => exact Vec.zeros hp n
  | succ k => exact Vec.add hp (timesTo_length _ _ _ _ _)
theorem timesV_vec (hp : 0 < p) : Vec p n (timesV p v rows n) := timesTo_vec hp _
theorem Span.times (hr : Vecs p n rows) : Span p n rows (timesV p v rows n) := by
  unfold timesV
  suffices H : ∀ k, k ≤ rows.length → Span p n rows (timesTo p v rows n k) from H _ (Nat.le_refl _)
  intro k
  induction k with
  | zero => intro _; exact .zero
  | succ k ih => intro hk; exact .add _ (ih (by omega)) (mem_getD _ (by omega))
theorem timesV_add (hp : 0 < p) (hr : Vecs p n rows) (hx : x.length = m) (hy : y.length = m) (c : Int) : timesV p (addV p c x y) rows n = addV p c (timesV p x rows n) (timesV p y rows n) := by
  refine vec_ext (timesV_vec hp) (Vec.add hp (timesV_vec hp (v := x) (rows := rows)).len) fun j hj => ?_
  rw [addV_eq (timesV_vec hp).len (timesV_vec hp).len, timesV_get hr hj, timesV_get hr hj, timesV_get hr hj, Int.emod_add_emod, Int.add_emod, mul_emod_r, ← Int.add_emod, ← sumN_add]
  refine sumN_mod fun i hi => ?_
  rw [addV_eq hx hy, mul_emod_l]
  congr 1
  grind
theorem timesV_zero (hp : 0 < p) (hr : Vecs p n rows) (k : Nat) : timesV p (zeroV k) rows n = zeroV n :=
  vec_ext (timesV_vec hp) (Vec.zeros hp n) fun j hj => by
    rw [timesV_get hr hj, sumN_zero fun i hi => by rw [zeroV_get]; simp]
    rw [zeroV_get]; simp
theorem timesV_unit (hp : 0 < p) (hr : Vecs p n rows) {i : Nat} (hi : i < rows.length) : timesV p (unitV rows.length i) rows n = rows.getD i [] :=
  vec_ext (timesV_vec hp) (hr.at_ hi) fun j hj => by
    rw [timesV_get hr hj, sumN_one (k := i) hi fun k hk hn => by rw [unitV_get, if_neg (by omega)]; simp]
    rw [unitV_get, if_pos ⟨hi, rfl⟩, Int.one_mul, (hr.at_ hi).mod]
theorem Span.coeffs (hp : 1 < p) (hr : Vecs p n rows) (h : Span p n rows v) : ∃ x, Vec p rows.length x ∧ v = timesV p x rows n := by
  induction h with
  | zero => exact ⟨zeroV rows.length, Vec.zeros (by omega) _, (timesV_zero (by omega) hr _).symm⟩
  | add c _ hm ih =>
    obtain ⟨x, hx, rfl⟩ := ih
    obtain ⟨i, hi, rfl⟩ := List.mem_iff_getElem.mp hm
    refine ⟨Num.addV p c x (unitV rows.length i), Vec.add (by omega) hx.len, ?_⟩
    rw [timesV_add (by omega) hr hx.len (unitV_length _ _), timesV_unit (by omega) hr hi, getD_lt _ _ hi]
theorem span_iff (hp : 1 < p) (hr : Vecs p n rows) : Span p n rows v ↔ ∃ x, Vec p rows.length x ∧ v = timesV p x rows n :=
  ⟨fun h => h.coeffs hp hr, fun ⟨x, _, e⟩ => by rw [e]; exact .times hr⟩
/-- A linear map. -/
structure Lin (p : Int) (a b : Nat) (φ : List Int → List Int) : Prop where
  zero : φ (zeroV a) = zeroV b
  add : ∀ c u v, Vec p a u → Vec p a v → φ (addV p c u v) = addV p c (φ u) (φ v)
  vec : ∀ v, Vec p a v → Vec p b (φ v)
theorem Span.map (hp : 0 < p) {a b : Nat} {φ : List Int → List Int} (hφ : Lin p a b φ) (hr : Vecs p a rows) : Span p b (rows.map φ) w ↔ ∃ z, Span p a rows z ∧ w = φ z := by
  constructor
  · intro h
    induction h with
    | zero => exact ⟨_, .zero, hφ.zero.symm⟩
    | add c _ hm ih =>
      obtain ⟨z, hz, rfl⟩ := ih
      obtain ⟨r, hr', rfl⟩ := List.mem_map.1 hm
      exact ⟨_, .add c hz hr', (hφ.add c z r (hz.vec hp) (hr r hr')).symm⟩
  · rintro ⟨z, hz, rfl⟩
    induction hz with
    | zero => rw [hφ.zero]; exact .zero
    | add c h hm ih => rw [hφ.add c _ _ (h.vec hp) (hr _ hm)]; exact .add c ih (List.mem_map.2 ⟨_, hm, rfl⟩)
theorem vecs_map {a b : Nat} {φ : List Int → List Int} (hφ : Lin p a b φ) (hr : Vecs p a rows) : Vecs p b (rows.map φ) := fun x hx => by
  obtain ⟨r, hr', rfl⟩ := List.mem_map.1 hx
  exact hφ.vec r (hr r hr')
theorem lin_times (hp : 0 < p) (hr : Vecs p n rows) : Lin p rows.length n fun v => timesV p v rows n :=
  ⟨timesV_zero hp hr _, fun c u v hu hv => timesV_add hp hr hu.len hv.len c, fun v _ => timesV_vec hp⟩
theorem take_get {v : List Int} {k j : Nat} (h : j < k) : (v.take k).getD j 0 = v.getD j 0 := by
  rw [List.getD_eq_getElem?_getD, List.getElem?_take_of_lt h, ← List.getD_eq_getElem?_getD]
theorem Vec.take {k : Nat} (hp : 0 < p) (h : Vec p (n + k) v) : Vec p n (v.take n) := by
  refine ⟨by rw [List.length_take, h.len]; omega, fun i => ?_, fun i => ?_⟩
  all_goals
    by_cases hi : i < n
    · rw [take_get hi]; first | exact h.lo i | exact h.hi i
    · rw [getD_ge _ _ (by rw [List.length_take]; omega)]; omega
theorem Vec.drop {k : Nat} (h : Vec p (n + k) v) : Vec p k (v.drop n) :=
  ⟨by rw [List.length_drop, h.len]; omega, fun i => by rw [drop_get]; exact h.lo _, fun i => by rw [drop_get]; exact h.hi _⟩
theorem lin_take (hp : 0 < p) (n k : Nat) : Lin p (n + k) n (List.take n) := by
  refine ⟨by simp [zeroV], fun c u v hu hv => ?_, fun v hv => hv.take hp⟩
  refine vec_ext ((Vec.add hp hu.len : Vec p (n + k) (addV p c u v)).take hp) (Vec.add hp (hu.take hp).len) fun j hj => ?_
  rw [take_get hj, addV_eq hu.len hv.len, addV_eq (hu.take hp).len (hv.take hp).len, take_get hj, take_get hj]
theorem Lin.comp {a b c : Nat} {φ ψ : List Int → List Int} (h : Lin p a b φ) (k : Lin p b c ψ) : Lin p a c fun v => ψ (φ v) :=
  ⟨by rw [h.zero, k.zero], fun d u v hu hv => by rw [h.add d u v hu hv, k.add d _ _ (h.vec u hu) (h.vec v hv)], fun v hv => k.vec _ (h.vec v hv)⟩
end times

/-! ### The left kernel -/
section null
variable {p : Int} {C : Nat} {rows : List (List Int)} {v w x y : List Int}
theorem wide_vecs (hp : 1 < p) (hr : Vecs p C rows) : Vecs p (C + rows.length) (wideR rows) := vecs_of (wide_vec hp fun i hi => hr.at_ hi)
theorem times_wide (hp : 1 < p) (hr : Vecs p C rows) (hx : Vec p rows.length x) : timesV p x (wideR rows) (C + rows.length) = timesV p x rows C ++ x := by
  have hv : Vec p C (timesV p x rows C) := timesV_vec (by omega)
  refine vec_ext (timesV_vec (by omega)) (hv.app hx) fun j hj => ?_
  rw [timesV_get (wide_vecs hp hr) hj, wideR_length, app_get, hv.len]
  by_cases h : j < C
  · rw [if_pos h, timesV_get hr h]
    refine congrArg (· % p) (sumN_congr fun i hi => ?_)
    rw [wideR_get hi, app_get, (hr.at_ hi).len, if_pos h]
  · rw [if_neg h, sumN_one (k := j - C) (by omega) fun i hi hn => ?_]
    · rw [wideR_get (by omega), app_get, (hr.at_ (by omega)).len, if_neg h, unitV_get, if_pos ⟨by omega, rfl⟩, Int.mul_one, hx.mod]
    · rw [wideR_get hi, app_get, (hr.at_ hi).len, if_neg h, unitV_get, if_neg (by omega), Int.mul_zero]
theorem wide_span (hp : gp p = true) (hr : Vecs p C rows) : Span p (C + rows.length) (wideE p rows) v ↔ ∃ x, Vec p rows.length x ∧ v = timesV p x rows C ++ x := by
  have hp2 := gp_le hp
  unfold wideE
  rw [reduce_span hp (wide_vecs (by omega) hr), span_iff (by omega) (wide_vecs (by omega) hr), wideR_length]
  constructor
  · rintro ⟨x, hx, rfl⟩; exact ⟨x, hx, times_wide (by omega) hr hx⟩
  · rintro ⟨x, hx, rfl⟩; exact ⟨x, hx, (times_wide (by omega) hr hx).symm⟩
theorem null_get {i : Nat} (hi : i < (nullR p rows C).length) : place (wideE p rows) C + i < (wideE p rows).length ∧ (nullR p rows C).getD i [] = ((wideE p rows).getD (place (wideE p rows) C + i) []).drop C := by
  unfold nullR at hi ⊢
  have hi' : place (wideE p rows) C + i < (wideE p rows).length := by simp at hi; omega
  refine ⟨hi', ?_⟩
  rw [map_getD (by simpa using hi), List.getD_eq_getElem?_getD, List.getElem?_drop, ← List.getD_eq_getElem?_getD]
theorem null_length (p : Int) (rows : List (List Int)) (C : Nat) : (nullR p rows C).length = (wideE p rows).length - place (wideE p rows) C := by simp [nullR]
theorem null_ech (hp : gp p = true) (hr : Vecs p C rows) : Ech p rows.length (nullR p rows C) := by
  have E := wide_ech hp fun i hi => hr.at_ (i := i) hi
  have ld : ∀ i, i < (nullR p rows C).length → C ≤ lead ((wideE p rows).getD (place (wideE p rows) C + i) []) ∧ lead ((nullR p rows C).getD i []) = lead ((wideE p rows).getD (place (wideE p rows) C + i) []) - C := fun i hi => by
    obtain ⟨h1, h2⟩ := null_get hi
    have h3 := E.place_ge (Nat.le_add_right _ _) h1
    exact ⟨h3, by rw [h2]; exact lead_drop h3 (by rw [(E.vec _ h1).len]; omega)⟩
  refine ⟨fun i hi => ?_, fun i hi => ?_, fun i hi => ?_, fun i j hi hj hij => ?_, fun i j hij hj => ?_⟩
  · obtain ⟨h1, h2⟩ := null_get hi
    rw [h2]; exact (E.vec _ h1).drop
  · obtain ⟨h1, h2⟩ := null_get hi
    obtain ⟨l1, l2⟩ := ld i hi
    have := E.lt _ h1
    omega
  · obtain ⟨h1, h2⟩ := null_get hi
    obtain ⟨l1, l2⟩ := ld i hi
    rw [l2, h2, drop_get, Nat.add_sub_cancel' l1]
    exact E.one _ h1
  · obtain ⟨h1, h2⟩ := null_get hi
    obtain ⟨l1, l2⟩ := ld i hi
    obtain ⟨h3, h4⟩ := null_get hj
    rw [l2, h4, drop_get, Nat.add_sub_cancel' l1]
    exact E.zero _ _ h1 h3 (by omega)
  · obtain ⟨h1, h2⟩ := null_get (C := C) (rows := rows) (p := p) (i := i) (by omega)
    obtain ⟨l1, l2⟩ := ld i (by omega)
    obtain ⟨h3, h4⟩ := null_get hj
    obtain ⟨l3, l4⟩ := ld j hj
    have := E.sorted _ _ (by omega : place (wideE p rows) C + i < place (wideE p rows) C + j) h3
    omega
theorem app_split {a b : List Int} (h : a.length = C) : (a ++ b).take C = a ∧ (a ++ b).drop C = b := by
  subst h; simp
theorem null_span (hp : gp p = true) (hr : Vecs p C rows) : Span p rows.length (nullR p rows C) x ↔ Vec p rows.length x ∧ timesV p x rows C = zeroV C := by
  have hp2 := gp_le hp
  have E := wide_ech hp fun i hi => hr.at_ (i := i) hi
  have N := null_ech hp hr
  constructor
  · intro h
    refine ⟨h.vec (by omega), ?_⟩
    induction h with
    | zero => exact timesV_zero (by omega) hr _
    | @add c v r hv hm ih =>
      obtain ⟨i, hi, rfl⟩ := List.mem_iff_getElem.mp hm
      rw [← getD_lt _ [] hi]
      obtain ⟨h1, h2⟩ := null_get hi
      have l1 := E.place_ge (Nat.le_add_right _ _) h1
      obtain ⟨y, hy, ey⟩ := (wide_span hp hr).1 (.mem E.vecs (mem_getD _ h1))
      have tv : Vec p C (timesV p y rows C) := timesV_vec (by omega)
      have e2 : (nullR p rows C).getD i [] = y := by rw [h2, ey, (app_split tv.len).2]
      have e3 : timesV p y rows C = zeroV C := vec_ext tv (Vec.zeros (by omega) C) fun j hj => by
        have a := lead_zero (v := (wideE p rows).getD (place (wideE p rows) C + i) []) (i := j) (by omega)
        rw [ey, app_get, tv.len, if_pos hj] at a
        rw [a, zeroV_get]
      rw [timesV_add (by omega) hr (hv.vec (by omega)).len (N.vec i hi).len, ih, e2, e3, addV_zero_right (Vec.zeros (by omega) C)]
  · rintro ⟨hx, h0⟩
    have hs : Span p (C + rows.length) (wideE p rows) (zeroV C ++ x) := (wide_span hp hr).2 ⟨x, hx, by rw [h0]⟩
    have hzl : (zeroV C).length = C := by simp [zeroV]
    have hk := place_le (wideE p rows) C
    have hlen : (wideE p rows).length = place (wideE p rows) C + (nullR p rows C).length := by rw [null_length]; omega
    have key : x = timesV p (tab (nullR p rows C).length fun i => (zeroV C ++ x).getD (lead ((wideE p rows).getD (place (wideE p rows) C + i) [])) 0) (nullR p rows C) rows.length := by
      refine vec_ext hx (timesV_vec (by omega)) fun c hc => ?_
      have a := E.comb (by omega) hs (C + c) (by omega)
      rw [app_get, hzl, if_neg (by omega), Nat.add_sub_cancel_left] at a
      rw [a, timesV_get N.vecs hc]
      unfold comb
      rw [hlen, sumN_split, sumN_zero (n := place (wideE p rows) C), Int.zero_add]
      · refine congrArg (· % p) (sumN_congr fun i hi => ?_)
        rw [tab_get _ _ hi, (null_get hi).2, drop_get]
      · intro i hi
        rw [app_get, hzl, if_pos (place_lt hi), zeroV_get, Int.zero_mul]
    rw [key]
    exact .times N.vecs
/-- The rows ahead are the reduced form. -/
theorem wide_head (hp : gp p = true) (hr : Vecs p C rows) : reduceR p rows = ((wideE p rows).take (place (wideE p rows) C)).map (List.take C) := by
  have hp2 := gp_le hp
  have E := wide_ech hp fun i hi => hr.at_ (i := i) hi
  have hk := place_le (wideE p rows) C
  have hlen : (((wideE p rows).take (place (wideE p rows) C)).map (List.take C)).length = place (wideE p rows) C := by simp; omega
  have get : ∀ i, i < place (wideE p rows) C → (((wideE p rows).take (place (wideE p rows) C)).map (List.take C)).getD i [] = ((wideE p rows).getD i []).take C := fun i hi => by
    rw [map_getD (by simp; omega), List.getD_eq_getElem?_getD, List.getElem?_take_of_lt hi, ← List.getD_eq_getElem?_getD]
  have ld : ∀ i, i < place (wideE p rows) C → lead (((wideE p rows).getD i []).take C) = lead ((wideE p rows).getD i []) := fun i hi => by
    have h1 := place_lt hi
    have h2 := (E.vec i (by omega)).len
    refine lead_eq (by rw [List.length_take]; omega) (fun j hj => ?_) fun _ => ?_
    · rw [take_get (by omega)]; exact lead_zero hj
    · rw [take_get h1]; exact lead_ne (by omega)
  have F : Ech p C (((wideE p rows).take (place (wideE p rows) C)).map (List.take C)) := by
    refine ⟨fun i hi => ?_, fun i hi => ?_, fun i hi => ?_, fun i j hi hj hij => ?_, fun i j hij hj => ?_⟩
    · rw [hlen] at hi
      rw [get i hi]; exact (E.vec i (by omega)).take (by omega)
    · rw [hlen] at hi
      rw [get i hi, ld i hi]; exact place_lt hi
    · rw [hlen] at hi
      rw [get i hi, ld i hi, take_get (place_lt hi)]; exact E.one i (by omega)
    · rw [hlen] at hi hj
      rw [get i hi, get j hj, ld i hi, take_get (place_lt hi)]; exact E.zero i j (by omega) (by omega) hij
    · rw [hlen] at hj
      rw [get i (by omega), get j hj, ld i (by omega), ld j hj]; exact E.sorted i j hij (by omega)
  refine reduce_unique hp hr F fun v => ⟨fun h => h.mono (by omega) hr fun r hm => ?_, fun h => ?_⟩
  · obtain ⟨i, hi, rfl⟩ := List.mem_iff_getElem.mp hm
    rw [← getD_lt _ [] hi, get i (by omega)]
    obtain ⟨y, hy, ey⟩ := (wide_span hp hr).1 (.mem E.vecs (mem_getD _ (i := i) (by omega)))
    rw [ey, (app_split (timesV_vec (by omega)).len).1]
    exact .times hr
  · obtain ⟨x, hx, rfl⟩ := h.coeffs (by omega) hr
    have tv : Vec p C (timesV p x rows C) := timesV_vec (by omega)
    have hs := (wide_span hp hr).2 ⟨x, hx, rfl⟩
    have key : timesV p x rows C = timesV p (tab (place (wideE p rows) C) fun i => (timesV p x rows C ++ x).getD (lead ((wideE p rows).getD i [])) 0) (((wideE p rows).take (place (wideE p rows) C)).map (List.take C)) C := by
      refine vec_ext tv (timesV_vec (by omega)) fun c hc => ?_
      have a := E.comb (by omega) hs c (by omega)
      rw [app_get, tv.len, if_pos hc] at a
      rw [a, timesV_get F.vecs hc, hlen]
      unfold comb
      obtain ⟨d, hd⟩ : ∃ d, (wideE p rows).length = place (wideE p rows) C + d := ⟨_, (Nat.add_sub_cancel' hk).symm⟩
      rw [hd, sumN_split, sumN_zero (n := d), Int.add_zero]
      · refine congrArg (· % p) (sumN_congr fun i hi => ?_)
        rw [tab_get _ _ hi, get i hi, take_get hc]
      · intro i hi
        have l1 := E.place_ge (k := C) (j := place (wideE p rows) C + i) (Nat.le_add_right _ _) (by omega)
        rw [lead_zero (v := (wideE p rows).getD (place (wideE p rows) C + i) []) (by omega), Int.mul_zero]
    rw [key]
    exact .times F.vecs
theorem rank_null (hp : gp p = true) (hr : Vecs p C rows) : (reduceR p rows).length + (nullR p rows C).length = rows.length := by
  have h1 := wide_head hp hr
  have h2 := wide_len hp (fun i hi => hr.at_ (i := i) hi)
  have hk := place_le (wideE p rows) C
  rw [h1, null_length, h2]
  simp
  omega
end null

/-! ### Annihilators, preimages, intersections -/
section ann
variable {p : Int} {C : Nat} {rows : List (List Int)} {v w x y : List Int}
def dotN (C : Nat) (x y : List Int) : Int := sumN C fun j => x.getD j 0 * y.getD j 0
theorem trans_length (rows : List (List Int)) (C : Nat) : (transR rows C).length = C := by simp [transR]
theorem trans_get {j : Nat} (h : j < C) : (transR rows C).getD j [] = colV rows j := by
  rw [getD_lt _ _ (by simpa [transR] using h)]; simp [transR]
theorem col_get {i j : Nat} (hi : i < rows.length) : (colV rows j).getD i 0 = (rows.getD i []).getD j 0 := by
  rw [getD_lt _ _ (by simpa [colV] using hi)]; simp [colV, hi]
theorem trans_vecs (hr : Vecs p C rows) (hp : 0 < p) : Vecs p rows.length (transR rows C) := vecs_of fun j hj => by
  rw [trans_length] at hj
  rw [trans_get hj]
  refine ⟨by simp [colV], fun i => ?_, fun i => ?_⟩
  all_goals
    by_cases hi : i < rows.length
    · rw [col_get hi]; first | exact (hr.at_ hi).lo j | exact (hr.at_ hi).hi j
    · rw [getD_ge _ _ (by simp [colV]; omega)]; omega
theorem times_trans (hp : 0 < p) (hr : Vecs p C rows) {i : Nat} (hi : i < rows.length) : (timesV p x (transR rows C) rows.length).getD i 0 = dotN C x (rows.getD i []) % p := by
  rw [timesV_get (trans_vecs hr hp) hi, trans_length]
  refine congrArg (· % p) (sumN_congr fun j hj => ?_)
  rw [trans_get hj, col_get hi]
theorem times_trans_zero (hp : 0 < p) (hr : Vecs p C rows) : timesV p x (transR rows C) rows.length = zeroV rows.length ↔ ∀ r, r ∈ rows → dotN C x r % p = 0 := by
  constructor
  · intro h r hm
    obtain ⟨i, hi, rfl⟩ := List.mem_iff_getElem.mp hm
    rw [← getD_lt _ [] hi, ← times_trans hp hr hi, h, zeroV_get]
  · intro h
    refine vec_ext (timesV_vec hp) (Vec.zeros hp _) fun i hi => ?_
    rw [times_trans hp hr hi, h _ (mem_getD _ hi), zeroV_get]
/-- The annihilator. -/
noncomputable def annR (p : Int) (rows : List (List Int)) (C : Nat) : List (List Int) := nullR p (transR rows C) rows.length
theorem ann_ech (hp : gp p = true) (hr : Vecs p C rows) : Ech p C (annR p rows C) := by
  have hp2 := gp_le hp
  have := null_ech hp (trans_vecs hr (by omega))
  rwa [trans_length] at this
theorem ann_span (hp : gp p = true) (hr : Vecs p C rows) : Span p C (annR p rows C) x ↔ Vec p C x ∧ ∀ r, r ∈ rows → dotN C x r % p = 0 := by
  have hp2 := gp_le hp
  have := null_span hp (trans_vecs hr (by omega)) (x := x)
  rw [trans_length, times_trans_zero (by omega) hr] at this
  exact this
theorem dot_comm (C : Nat) (x y : List Int) : dotN C x y = dotN C y x := sumN_congr fun j _ => Int.mul_comm _ _
theorem dot_span (hp : 0 < p) (hr : Vecs p C rows) (h : ∀ r, r ∈ rows → dotN C x r % p = 0) (hv : Span p C rows v) : dotN C x v % p = 0 := by
  induction hv with
  | zero => unfold dotN; rw [sumN_zero fun j hj => by rw [zeroV_get]; simp]; simp
  | @add c v r hv hm ih =>
    have e : dotN C x (addV p c v r) % p = (dotN C x v + c * dotN C x r) % p := by
      unfold dotN
      rw [← sumN_add]
      refine sumN_mod fun j hj => ?_
      rw [addV_eq (hv.vec hp).len (hr r hm).len, mul_emod_r]
      congr 1
      grind
    rw [e, Int.add_emod, ih, Int.mul_emod, h r hm]
    simp
/-- A vector whose products with the annihilator are 0 lies in the span. -/
theorem ann_ann (hp : gp p = true) {e : List (List Int)} (he : Ech p C e) (hx : Vec p C x) (h : ∀ y, Span p C (annR p e C) y → dotN C x y % p = 0) : Span p C e x := by
  have hp2 := gp_le hp
  have fn : ∀ c, c < C → ∀ z, dotN C z (tab C fun j => ((if j = c then 1 else 0) + (-1) * sumN e.length fun i => (if j = lead (e.getD i []) then 1 else 0) * (e.getD i []).getD c 0) % p) % p = (z.getD c 0 + (-1) * comb e z c) % p := fun c hc z => by
    have e1 : z.getD c 0 + (-1) * comb e z c = sumN C fun j => z.getD j 0 * (if j = c then 1 else 0) + (-1) * sumN e.length fun i => z.getD j 0 * ((if j = lead (e.getD i []) then 1 else 0) * (e.getD i []).getD c 0) := by
      rw [sumN_add, sumN_one (k := c) hc (fun j hj hn => by rw [if_neg hn, Int.mul_zero]), if_pos rfl, Int.mul_one, sumN_swap]
      congr 2
      refine sumN_congr fun i hi => ?_
      rw [sumN_one (k := lead (e.getD i [])) (he.lt i hi) (fun j hj hn => by rw [if_neg hn]; simp), if_pos rfl, Int.one_mul]
    rw [e1]
    unfold dotN
    refine sumN_mod fun j hj => ?_
    rw [tab_get _ _ hj, mul_emod_r]
    congr 1
    rw [← sumN_mul]
    grind
  have key : ∀ c, c < C → x.getD c 0 = comb e x c % p := fun c hc => by
    have h1 := h _ ((ann_span hp he.vecs).2 ⟨Vec.tab (p := p) (n := C) (f := fun j => ((if j = c then 1 else 0) + (-1) * sumN e.length fun i => (if j = lead (e.getD i []) then 1 else 0) * (e.getD i []).getD c 0) % p) (by omega) (fun i _ => mod_bd _ (by omega)), fun r hr => by
      rw [dot_comm, fn c hc]
      have h2 := he.comb (by omega) (.mem he.vecs hr) c hc
      rw [h2, Int.emod_add_emod]
      have e3 : comb e r c + -1 * comb e r c = 0 := by grind
      rw [e3]
      simp⟩)
    rw [fn c hc] at h1
    have h3 : p ∣ x.getD c 0 - comb e x c := by
      have := Int.dvd_of_emod_eq_zero h1
      have e3 : x.getD c 0 + -1 * comb e x c = x.getD c 0 - comb e x c := by grind
      rwa [e3] at this
    rw [← mod_eq h3, hx.mod]
  have : x = timesV p (tab e.length fun i => x.getD (lead (e.getD i [])) 0) e C := by
    refine vec_ext hx (timesV_vec (by omega)) fun c hc => ?_
    rw [key c hc, timesV_get he.vecs hc]
    refine congrArg (· % p) (sumN_congr fun i hi => ?_)
    rw [tab_get _ _ hi]
  rw [this]
  exact .times he.vecs
/-- .. exactly. -/
theorem ann_iff (hp : gp p = true) {e : List (List Int)} (he : Ech p C e) (hx : Vec p C x) : Span p C e x ↔ ∀ r, r ∈ annR p e C → dotN C x r % p = 0 := by
  have hp2 := gp_le hp
  constructor
  · intro h r hr
    rw [dot_comm]
    exact dot_span (by omega) he.vecs ((ann_span hp he.vecs).1 (.mem (ann_ech hp he.vecs).vecs hr)).2 h
  · intro h
    exact ann_ann hp he hx fun y hy => dot_span (by omega) (ann_ech hp he.vecs).vecs h hy
theorem prod_length (p : Int) (a b : List (List Int)) (n : Nat) : (prodR p a b n).length = a.length := by simp [prodR]
theorem prod_vecs (hp : 0 < p) (a b : List (List Int)) (n : Nat) : Vecs p n (prodR p a b n) := fun x hx => by
  obtain ⟨r, _, rfl⟩ := List.mem_map.1 hx
  exact timesV_vec hp
theorem times_prod (hp : 0 < p) {a b : List (List Int)} {m n : Nat} (ha : Vecs p m a) (hb : Vecs p n b) (hm : b.length = m) : timesV p x (prodR p a b n) n = timesV p (timesV p x a m) b n := by
  refine vec_ext (timesV_vec hp) (timesV_vec hp) fun j hj => ?_
  rw [timesV_get (prod_vecs hp _ _ _) hj, prod_length, timesV_get hb hj, hm]
  have e1 : sumN a.length (fun i => x.getD i 0 * ((prodR p a b n).getD i []).getD j 0) % p = sumN a.length (fun i => sumN m fun k => x.getD i 0 * ((a.getD i []).getD k 0 * (b.getD k []).getD j 0)) % p := by
    refine sumN_mod fun i hi => ?_
    have : (prodR p a b n).getD i [] = timesV p (a.getD i []) b n := map_getD hi
    rw [this, timesV_get hb hj, hm, mul_emod_r, ← sumN_mul]
  rw [e1, sumN_swap]
  refine sumN_mod fun k hk => ?_
  rw [timesV_get ha hk, mul_emod_l, Int.mul_comm (sumN _ _), sumN_mul]
  congr 1
  refine sumN_congr fun i hi => ?_
  grind
/-- The preimage of a subspace under a matrix. -/
noncomputable def preR (p : Int) (u a : List (List Int)) (C : Nat) : List (List Int) := nullR p (prodR p a (transR (annR p u C) C) (annR p u C).length) (annR p u C).length
variable {u a : List (List Int)}
theorem pre_ech (hp : gp p = true) (hu : Ech p C u) (ha : Vecs p C a) : Ech p a.length (preR p u a C) := by
  have hp2 := gp_le hp
  have := null_ech hp (prod_vecs (p := p) (by omega) a (transR (annR p u C) C) (annR p u C).length)
  rwa [prod_length] at this
theorem pre_span (hp : gp p = true) (hu : Ech p C u) (ha : Vecs p C a) : Span p a.length (preR p u a C) x ↔ Vec p a.length x ∧ Span p C u (timesV p x a C) := by
  have hp2 := gp_le hp
  have := null_span hp (prod_vecs (p := p) (by omega) a (transR (annR p u C) C) (annR p u C).length) (x := x)
  rw [prod_length, times_prod (by omega) ha (trans_vecs (ann_ech hp hu.vecs).vecs (by omega)) (trans_length _ _), times_trans_zero (by omega) (ann_ech hp hu.vecs).vecs, ← ann_iff hp hu (timesV_vec (by omega))] at this
  exact this
theorem times_app (hp : 0 < p) (hu : Vecs p C u) (ha : Vecs p C a) (hx : x.length = a.length) : timesV p (x ++ y) (a ++ u) C = addV p 1 (timesV p x a C) (timesV p y u C) := by
  have hau : Vecs p C (a ++ u) := fun r hr => by rcases List.mem_append.1 hr with h | h; exact ha r h; exact hu r h
  refine vec_ext (timesV_vec hp) (Vec.add hp (timesV_vec hp (v := x) (rows := a)).len) fun j hj => ?_
  rw [addV_eq (timesV_vec hp).len (timesV_vec hp).len, timesV_get hau hj, timesV_get ha hj, timesV_get hu hj, Int.one_mul, ← Int.add_emod, List.length_append, sumN_split]
  congr 2
  · refine sumN_congr fun i hi => ?_
    rw [app_get, if_pos (by omega), List.getD_eq_getElem?_getD (l := a ++ u), List.getElem?_append_left hi, ← List.getD_eq_getElem?_getD]
  · refine sumN_congr fun i hi => ?_
    rw [app_get, if_neg (by omega), hx, Nat.add_sub_cancel_left, List.getD_eq_getElem?_getD (l := a ++ u), List.getElem?_append_right (by omega), Nat.add_sub_cancel_left, ← List.getD_eq_getElem?_getD]
theorem vecs_app (ha : Vecs p C a) (hu : Vecs p C u) : Vecs p C (a ++ u) := fun r hr => by
  rcases List.mem_append.1 hr with h | h
  · exact ha r h
  · exact hu r h
/-- What the kernel of both lists of rows begins with. -/
theorem null_app (hp : gp p = true) (hu : Vecs p C u) (ha : Vecs p C a) : (∃ z, Span p (a.length + u.length) (nullR p (a ++ u) C) z ∧ x = z.take a.length) ↔ Vec p a.length x ∧ Span p C u (timesV p x a C) := by
  have hp2 := gp_le hp
  have ns : ∀ z, Span p (a.length + u.length) (nullR p (a ++ u) C) z ↔ Vec p (a.length + u.length) z ∧ timesV p z (a ++ u) C = zeroV C := fun z => by
    have := null_span hp (vecs_app ha hu) (x := z)
    rwa [List.length_append] at this
  constructor
  · rintro ⟨z, hz, rfl⟩
    obtain ⟨h1, h2⟩ := (ns z).1 hz
    have ht : Vec p a.length (z.take a.length) := h1.take (by omega)
    have hd : Vec p u.length (z.drop a.length) := h1.drop
    refine ⟨ht, ?_⟩
    rw [← List.take_append_drop a.length z, times_app (by omega) hu ha ht.len] at h2
    have tv : Vec p C (timesV p (z.take a.length) a C) := timesV_vec (by omega)
    have tw : Vec p C (timesV p (z.drop a.length) u C) := timesV_vec (by omega)
    have h3 := addV_back (by omega) tv tw 1
    rw [h2] at h3
    rw [← h3]
    exact Span.zero.addV (by omega) hu (.times hu) _
  · rintro ⟨hx, hs⟩
    obtain ⟨y, hy, ey⟩ := hs.coeffs (by omega) hu
    have hy' : Vec p u.length (addV p (-1) (zeroV u.length) y) := Vec.add (by omega) (by simp [zeroV])
    refine ⟨x ++ addV p (-1) (zeroV u.length) y, (ns _).2 ⟨hx.app hy', ?_⟩, (app_split hx.len).1.symm⟩
    have tw : Vec p C (timesV p y u C) := timesV_vec (by omega)
    rw [times_app (by omega) hu ha hx.len, timesV_add (by omega) hu (by simp [zeroV]) hy.len, timesV_zero (by omega) hu, ey]
    refine vec_ext (Vec.add (by omega) tw.len) (Vec.zeros (by omega) C) fun j hj => ?_
    rw [addV_eq tw.len (Vec.add (by omega) (by simp [zeroV])).len, addV_eq (by simp [zeroV]) tw.len, zeroV_get, Int.one_mul, Int.add_emod_emod]
    have e : (timesV p y u C).getD j 0 + (0 + -1 * (timesV p y u C).getD j 0) = 0 := by grind
    rw [e]
    simp
theorem null_app_vecs (hp : gp p = true) (hu : Vecs p C u) (ha : Vecs p C a) : Vecs p (a.length + u.length) (nullR p (a ++ u) C) := by
  have := (null_ech hp (vecs_app ha hu)).vecs
  rwa [List.length_append] at this
/-- The model's preimage. -/
theorem pre_eq (hp : gp p = true) (hu : Ech p C u) (ha : Vecs p C a) : reduceR p ((nullR p (a ++ u) C).map (List.take a.length)) = preR p u a C := by
  have hp2 := gp_le hp
  have hl := lin_take (p := p) (by omega) a.length u.length
  refine reduce_unique hp (vecs_map hl (null_app_vecs hp hu.vecs ha)) (pre_ech hp hu ha) fun v => ?_
  rw [pre_span hp hu ha, Span.map (by omega) hl (null_app_vecs hp hu.vecs ha), null_app hp hu.vecs ha]
/-- The model's intersection. -/
theorem meet_eq (hp : gp p = true) (hu : Ech p C u) (ha : Ech p C a) : reduceR p ((nullR p (a ++ u) C).map fun z => timesV p (z.take a.length) a C) = reduceR p (prodR p (preR p u a C) a C) := by
  have hp2 := gp_le hp
  have hl := (lin_take (p := p) (by omega) a.length u.length).comp (lin_times (by omega) ha.vecs)
  have ht := lin_times (p := p) (by omega) ha.vecs
  have hv := (pre_ech hp hu ha.vecs).vecs
  refine reduce_congr hp (vecs_map hl (null_app_vecs hp hu.vecs ha.vecs)) (prod_vecs (by omega) _ _ _) fun v => ?_
  unfold prodR
  rw [Span.map (by omega) hl (null_app_vecs hp hu.vecs ha.vecs), Span.map (by omega) ht hv]
  constructor
  · rintro ⟨z, hz, rfl⟩
    exact ⟨_, (pre_span hp hu ha.vecs).2 ((null_app hp hu.vecs ha.vecs).1 ⟨z, hz, rfl⟩), rfl⟩
  · rintro ⟨x, hx, rfl⟩
    obtain ⟨z, hz, rfl⟩ := (null_app hp hu.vecs ha.vecs).2 ((pre_span hp hu ha.vecs).1 hx)
    exact ⟨z, hz, rfl⟩
end ann
end Go.Proofs.Ytihdidbikeaafaa.Num
namespace Go.Proofs.Ytihdidbikeaafaa
set_option linter.unusedVariables false
set_option linter.unusedSimpArgs false
namespace Num
theorem Ech.len_le {p : Int} {n : Nat} {e : List (List Int)} (h : Ech p n e) : e.length ≤ n := by
  suffices H : ∀ i, i < e.length → i ≤ lead (e.getD i []) by
    rcases Nat.eq_zero_or_pos e.length with h0 | h0
    · omega
    · have a := H (e.length - 1) (by omega)
      have b := h.lt (e.length - 1) (by omega)
      omega
  intro i
  induction i with
  | zero => intro _; omega
  | succ i ih => intro hi; have := ih (by omega); have := h.sorted i (i + 1) (by omega) hi; omega
/-- The unit vectors at the indices that are no leads. -/
def freeC (n : Nat) (leads : List Nat) : List Nat := (List.range n).filter fun j => !leads.contains j
def complR (n : Nat) (leads : List Nat) : List (List Int) := (freeC n leads).map (unitV n)
end Num
theorem Mat.ok_of {P C : Int} {R : List (List Int)} (h1 : Num.gp P = true) (h2 : 0 ≤ C) (h3 : C ≤ 8) (h4 : R.length ≤ 8) (h5 : Num.Vecs P C.toNat R) : (⟨P, C, R⟩ : Mat).ok = true :=
  Num.matB_ok h1 h2 h3 h4 fun k hk => by
    have v := h5.at_ hk
    exact Num.vecB_ok (by rw [v.len]; show ((C.toNat : Nat) : Int) = C; omega) fun i _ => ⟨v.lo i, v.hi i⟩
open Classical in
/-- A subspace. -/
noncomputable def Mat.sub (x : Mat) : Bool := x.ok && decide (Num.reduceR x.P x.R = x.R)
theorem Mat.sub_ok {x : Mat} (h : x.sub = true) : x.ok = true := by unfold Mat.sub at h; rw [Bool.and_eq_true] at h; exact h.1
theorem Mat.sub_red {x : Mat} (h : x.sub = true) : Num.reduceR x.P x.R = x.R := by unfold Mat.sub at h; rw [Bool.and_eq_true] at h; simpa using h.2
theorem Mat.sub_out {x : Mat} (h : x.sub = true) : Num.gp x.P = true ∧ 2 ≤ x.P ∧ x.P ≤ 7 ∧ 0 ≤ x.C ∧ x.C ≤ 8 ∧ x.R.length ≤ 8 ∧ Num.Ech x.P x.C.toNat x.R := by
  obtain ⟨h1, h2, h3, h4, h5, h6, h7⟩ := Mat.ok_out (Mat.sub_ok h)
  exact ⟨h1, h2, h3, h4, h5, h6, by have := Num.ech_reduce_all h1 h7; rwa [Mat.sub_red h] at this⟩
theorem Mat.sub_of {P C : Int} {R : List (List Int)} (h1 : Num.gp P = true) (h2 : 0 ≤ C) (h3 : C ≤ 8) (h5 : Num.Ech P C.toNat R) : (⟨P, C, R⟩ : Mat).sub = true := by
  have hl := h5.len_le
  unfold Mat.sub
  rw [Bool.and_eq_true]
  exact ⟨Mat.ok_of h1 h2 h3 (by omega) h5.vecs, by simpa using h5.reduce h1⟩
theorem Mat.sub_false {x : Mat} (h : x.ok = false) : x.sub = false := by unfold Mat.sub; rw [h]; rfl
theorem Mat.sub_no {x : Mat} (h : ¬ Num.reduceR x.P x.R = x.R) : x.sub = false := by unfold Mat.sub; simp [h]
theorem Mat.sub_yes {x : Mat} (h : x.ok = true) (k : Num.reduceR x.P x.R = x.R) : x.sub = true := by unfold Mat.sub; simp [h, k]
noncomputable def rIsSubspace (x : Mat) : Bool := x.sub
noncomputable def cHasVector (u : Mat) (v : List Int) : Int := if !u.sub || !Num.vecB u.P u.C v then 1 else 0
noncomputable def rHasVector (u : Mat) (v : List Int) : Bool := if cHasVector u v = 0 then decide (v.length ≤ Num.lead (Num.clearV u.P u.R v)) else false
/-- The code of two subspaces that are to fit. -/
noncomputable def Mat.two (u v : Mat) : Int := if !u.sub || !v.sub then 1 else if u.P ≠ v.P ∨ u.C ≠ v.C then 2 else 0
noncomputable def cSubspaceSum (u v : Mat) : Int := u.two v
noncomputable def rSubspaceSum (u v : Mat) : Mat := if u.two v = 0 then ⟨u.P, u.C, Num.reduceR u.P (u.R ++ v.R)⟩ else noMat
noncomputable def cSubspaceIntersection (u v : Mat) : Int := u.two v
noncomputable def rSubspaceIntersection (u v : Mat) : Mat := if u.two v = 0 then ⟨u.P, u.C, Num.reduceR u.P (Num.prodR u.P (Num.preR u.P v.R u.R u.C.toNat) u.R u.C.toNat)⟩ else noMat
noncomputable def cAnnihilator (u : Mat) : Int := if u.sub then 0 else 1
noncomputable def rAnnihilator (u : Mat) : Mat := if u.sub then ⟨u.P, u.C, Num.annR u.P u.R u.C.toNat⟩ else noMat
noncomputable def cStandardComplement (u : Mat) : Int := if u.sub then 0 else 1
noncomputable def rStandardComplement (u : Mat) : Mat := if u.sub then ⟨u.P, u.C, Num.complR u.C.toNat (u.R.map Num.lead)⟩ else noMat
noncomputable def cImageSubspace (u a : Mat) : Int := if !u.sub || !a.ok then 1 else if u.P ≠ a.P ∨ u.C ≠ a.R.length then 2 else 0
noncomputable def rImageSubspace (u a : Mat) : Mat := if cImageSubspace u a = 0 then ⟨u.P, a.C, Num.reduceR u.P (Num.prodR u.P u.R a.R a.C.toNat)⟩ else noMat
noncomputable def cPreimageSubspace (u a : Mat) : Int := if !u.sub || !a.ok then 1 else if u.P ≠ a.P ∨ u.C ≠ a.C then 2 else 0
noncomputable def rPreimageSubspace (u a : Mat) : Mat := if cPreimageSubspace u a = 0 then ⟨u.P, a.R.length, Num.preR u.P u.R a.R u.C.toNat⟩ else noMat
section
variable {u v a : Mat}
theorem two_out (h : u.two v = 0) : u.sub = true ∧ v.sub = true ∧ u.P = v.P ∧ u.C = v.C := by
  unfold Mat.two at h
  cases h1 : u.sub <;> cases h2 : v.sub <;> simp [h1, h2] at h ⊢
  by_cases e1 : u.P = v.P <;> by_cases e2 : u.C = v.C <;> simp [e1, e2] at h ⊢
theorem image_out (h : cImageSubspace u a = 0) : u.sub = true ∧ a.ok = true ∧ u.P = a.P ∧ u.C = a.R.length := by
  unfold cImageSubspace at h
  cases h1 : u.sub <;> cases h2 : a.ok <;> simp [h1, h2] at h ⊢
  by_cases e1 : u.P = a.P <;> by_cases e2 : u.C = a.R.length <;> simp [e1, e2] at h ⊢
theorem pre_out (h : cPreimageSubspace u a = 0) : u.sub = true ∧ a.ok = true ∧ u.P = a.P ∧ u.C = a.C := by
  unfold cPreimageSubspace at h
  cases h1 : u.sub <;> cases h2 : a.ok <;> simp [h1, h2] at h ⊢
  by_cases e1 : u.P = a.P <;> by_cases e2 : u.C = a.C <;> simp [e1, e2] at h ⊢
end
end Go.Proofs.Ytihdidbikeaafaa
namespace Go.Proofs.Ytihdidbikeaafaa
set_option linter.unusedVariables false
set_option linter.unusedSimpArgs false
theorem Mat.ok_len {x : Mat} (h : x.ok = true) : ∀ i, i < x.R.length → (x.R.getD i []).length = x.C.toNat := fun i hi => by
  obtain ⟨_, _, _, _, _, _, hV⟩ := Mat.ok_out h
  exact (hV i hi).len
section
variable {u v a : Mat}
theorem trans_ok {p C : Int} {R : List (List Int)} (h : (⟨p, C, R⟩ : Mat).ok = true) : (⟨p, R.length, Num.transR R C.toNat⟩ : Mat).ok = true := by
  obtain ⟨h1, h2, h3, h4, h5, h6, h7⟩ := Mat.ok_out h
  exact Mat.ok_of h1 (by omega) (by show ((R.length : Nat) : Int) ≤ 8; exact Int.ofNat_le.2 h6) (by rw [Num.trans_length]; show C.toNat ≤ 8; have : C ≤ 8 := h5; omega) (by
    have hp : (0 : Int) < p := by have : 2 ≤ p := h2; omega
    have := Num.trans_vecs (p := p) (Num.vecs_of h7) hp
    rwa [Int.toNat_natCast])
theorem ann_ok {u : Mat} (h : u.sub = true) : (⟨u.P, u.C, Num.annR u.P u.R u.C.toNat⟩ : Mat).sub = true := by
  obtain ⟨h1, h2, h3, h4, h5, h6, h7⟩ := Mat.sub_out h
  exact Mat.sub_of h1 h4 h5 (Num.ann_ech h1 h7.vecs)
/-- The annihilator: the left kernel of the transpose. -/
theorem ann_kernel (h : u.sub = true) : cTransposeMatrix u = 0 ∧ rTransposeMatrix u = ⟨u.P, u.R.length, Num.transR u.R u.C.toNat⟩ ∧ cLeftKernel ⟨u.P, u.R.length, Num.transR u.R u.C.toNat⟩ = 0 ∧ rLeftKernel ⟨u.P, u.R.length, Num.transR u.R u.C.toNat⟩ = ⟨u.P, u.C, Num.annR u.P u.R u.C.toNat⟩ := by
  have hk := Mat.sub_ok h
  obtain ⟨h1, h2, h3, h4, h5, h6, h7⟩ := Mat.sub_out h
  have ht := trans_ok (p := u.P) (C := u.C) (R := u.R) hk
  refine ⟨by unfold cTransposeMatrix; rw [if_pos hk], by unfold rTransposeMatrix; rw [if_pos hk], by unfold cLeftKernel; rw [if_pos ht], ?_⟩
  unfold rLeftKernel
  rw [if_pos ht]
  show (⟨u.P, ((Num.transR u.R u.C.toNat).length : Int), Num.nullR u.P (Num.transR u.R u.C.toNat) ((u.R.length : Int).toNat)⟩ : Mat) = _
  rw [Num.trans_length, Int.toNat_natCast, Int.toNat_of_nonneg h4]
  rfl
theorem prod_ok {p C : Int} {R S : List (List Int)} (h1 : Num.gp p = true) (h2 : 0 ≤ C) (h3 : C ≤ 8) (h4 : R.length ≤ 8) : (⟨p, C, Num.prodR p R S C.toNat⟩ : Mat).ok = true :=
  Mat.ok_of h1 h2 h3 (by rw [Num.prod_length]; exact h4) (Num.prod_vecs (by have := Num.gp_le h1; omega) _ _ _)
theorem image_yes (h : cImageSubspace u a = 0) : cMatrixProduct u a = 0 ∧ rMatrixProduct u a = ⟨u.P, a.C, Num.prodR u.P u.R a.R a.C.toNat⟩ ∧ cReduceRows ⟨u.P, a.C, Num.prodR u.P u.R a.R a.C.toNat⟩ = 0 ∧ rReduceRows ⟨u.P, a.C, Num.prodR u.P u.R a.R a.C.toNat⟩ = rImageSubspace u a := by
  obtain ⟨e1, e2, e3, e4⟩ := image_out h
  obtain ⟨h1, h2, h3, h4, h5, h6, h7⟩ := Mat.sub_out e1
  obtain ⟨k1, k2, k3, k4, k5, k6, k7⟩ := Mat.ok_out e2
  have c0 : cMatrixProduct u a = 0 := by unfold cMatrixProduct; simp [Mat.sub_ok e1, e2, e3, e4]
  have hp := prod_ok (R := u.R) (S := a.R) h1 k4 k5 h6
  refine ⟨c0, by unfold rMatrixProduct; rw [if_pos c0, e3], by unfold cReduceRows; rw [if_pos hp], ?_⟩
  unfold rReduceRows rImageSubspace
  rw [if_pos hp, if_pos h]
theorem image_no (h1 : u.sub = true) (h2 : a.ok = true) (h : ¬ cImageSubspace u a = 0) : cImageSubspace u a = 2 ∧ rImageSubspace u a = noMat ∧ cMatrixProduct u a = 2 ∧ rMatrixProduct u a = noMat := by
  have h3 : ¬ (u.P = a.P ∧ u.C = a.R.length) := fun ⟨e1, e2⟩ => h (by unfold cImageSubspace; simp [h1, h2, e1, e2])
  have h4 : u.P ≠ a.P ∨ u.C ≠ a.R.length := by
    by_cases e : u.P = a.P
    · exact .inr fun e2 => h3 ⟨e, e2⟩
    · exact .inl e
  have c2 : cImageSubspace u a = 2 := by unfold cImageSubspace; rw [if_neg (by simp [h1, h2]), if_pos h4]
  have d2 : cMatrixProduct u a = 2 := by unfold cMatrixProduct; rw [if_neg (by simp [Mat.sub_ok h1, h2]), if_pos h4]
  exact ⟨c2, by unfold rImageSubspace; rw [if_neg (by omega)], d2, by unfold rMatrixProduct; rw [if_neg (by omega)]⟩
theorem image_bad1 (h : u.sub = false) : cImageSubspace u a = 1 ∧ rImageSubspace u a = noMat := by
  have c : cImageSubspace u a = 1 := by unfold cImageSubspace; simp [h]
  exact ⟨c, by unfold rImageSubspace; rw [if_neg (by omega)]⟩
theorem image_bad2 (h : a.ok = false) : cImageSubspace u a = 1 ∧ rImageSubspace u a = noMat := by
  have c : cImageSubspace u a = 1 := by unfold cImageSubspace; simp [h]
  exact ⟨c, by unfold rImageSubspace; rw [if_neg (by omega)]⟩
theorem image_sub (h : cImageSubspace u a = 0) : (rImageSubspace u a).sub = true := by
  obtain ⟨e1, e2, e3, e4⟩ := image_out h
  obtain ⟨h1, h2, h3, h4, h5, h6, h7⟩ := Mat.sub_out e1
  obtain ⟨k1, k2, k3, k4, k5, k6, k7⟩ := Mat.ok_out e2
  unfold rImageSubspace
  rw [if_pos h]
  exact Mat.sub_of h1 k4 k5 (Num.ech_reduce_all h1 fun i hi => (Num.prod_vecs (by omega) _ _ _).at_ hi)
/-- The preimage: the left kernel of the products with the transposed annihilator. -/
theorem pre_steps (h : cPreimageSubspace u a = 0) :
    cAnnihilator u = 0 ∧ rAnnihilator u = ⟨u.P, u.C, Num.annR u.P u.R u.C.toNat⟩ ∧
    cTransposeMatrix ⟨u.P, u.C, Num.annR u.P u.R u.C.toNat⟩ = 0 ∧ rTransposeMatrix ⟨u.P, u.C, Num.annR u.P u.R u.C.toNat⟩ = ⟨u.P, (Num.annR u.P u.R u.C.toNat).length, Num.transR (Num.annR u.P u.R u.C.toNat) u.C.toNat⟩ ∧
    cMatrixProduct a ⟨u.P, (Num.annR u.P u.R u.C.toNat).length, Num.transR (Num.annR u.P u.R u.C.toNat) u.C.toNat⟩ = 0 ∧
    rMatrixProduct a ⟨u.P, (Num.annR u.P u.R u.C.toNat).length, Num.transR (Num.annR u.P u.R u.C.toNat) u.C.toNat⟩ = ⟨u.P, (Num.annR u.P u.R u.C.toNat).length, Num.prodR u.P a.R (Num.transR (Num.annR u.P u.R u.C.toNat) u.C.toNat) (Num.annR u.P u.R u.C.toNat).length⟩ ∧
    cLeftKernel ⟨u.P, (Num.annR u.P u.R u.C.toNat).length, Num.prodR u.P a.R (Num.transR (Num.annR u.P u.R u.C.toNat) u.C.toNat) (Num.annR u.P u.R u.C.toNat).length⟩ = 0 ∧
    rLeftKernel ⟨u.P, (Num.annR u.P u.R u.C.toNat).length, Num.prodR u.P a.R (Num.transR (Num.annR u.P u.R u.C.toNat) u.C.toNat) (Num.annR u.P u.R u.C.toNat).length⟩ = rPreimageSubspace u a := by
  obtain ⟨e1, e2, e3, e4⟩ := pre_out h
  obtain ⟨h1, h2, h3, h4, h5, h6, h7⟩ := Mat.sub_out e1
  obtain ⟨k1, k2, k3, k4, k5, k6, k7⟩ := Mat.ok_out e2
  have A := Mat.sub_ok (ann_ok e1)
  have T := trans_ok A
  have al := (Num.ann_ech h1 h7.vecs).len_le
  have tl : (Num.transR (Num.annR u.P u.R u.C.toNat) u.C.toNat).length = u.C.toNat := Num.trans_length _ _
  have c0 : cMatrixProduct a ⟨u.P, (Num.annR u.P u.R u.C.toNat).length, Num.transR (Num.annR u.P u.R u.C.toNat) u.C.toNat⟩ = 0 := by
    unfold cMatrixProduct
    rw [if_neg (by simp [e2, T]), if_neg]
    rintro (g | g)
    · exact g e3.symm
    · refine g ?_
      show a.C = ((Num.transR (Num.annR u.P u.R u.C.toNat) u.C.toNat).length : Int)
      rw [tl, ← e4, Int.toNat_of_nonneg h4]
  have K : (⟨u.P, (Num.annR u.P u.R u.C.toNat).length, Num.prodR u.P a.R (Num.transR (Num.annR u.P u.R u.C.toNat) u.C.toNat) (Num.annR u.P u.R u.C.toNat).length⟩ : Mat).ok = true := by
    have := prod_ok (p := u.P) (C := (Num.annR u.P u.R u.C.toNat).length) (R := a.R) (S := Num.transR (Num.annR u.P u.R u.C.toNat) u.C.toNat) h1 (by omega) (by omega) k6
    rwa [Int.toNat_natCast] at this
  refine ⟨by unfold cAnnihilator; rw [if_pos e1], by unfold rAnnihilator; rw [if_pos e1], by unfold cTransposeMatrix; rw [if_pos A], by unfold rTransposeMatrix; rw [if_pos A], c0, ?_, by unfold cLeftKernel; rw [if_pos K], ?_⟩
  · unfold rMatrixProduct
    rw [if_pos c0]
    show (⟨u.P, _, Num.prodR u.P a.R _ ((Num.annR u.P u.R u.C.toNat).length : Int).toNat⟩ : Mat) = _
    rw [Int.toNat_natCast]
  · unfold rLeftKernel rPreimageSubspace Num.preR
    rw [if_pos K, if_pos h]
    show (⟨u.P, ((Num.prodR u.P a.R _ _).length : Int), Num.nullR u.P _ ((Num.annR u.P u.R u.C.toNat).length : Int).toNat⟩ : Mat) = _
    rw [Int.toNat_natCast, Num.prod_length]
theorem pre_fail (h1 : u.sub = true) (h2 : a.ok = true) (h : ¬ cPreimageSubspace u a = 0) : cPreimageSubspace u a = 2 ∧ rPreimageSubspace u a = noMat ∧
    cMatrixProduct a ⟨u.P, (Num.annR u.P u.R u.C.toNat).length, Num.transR (Num.annR u.P u.R u.C.toNat) u.C.toNat⟩ = 2 ∧
    rMatrixProduct a ⟨u.P, (Num.annR u.P u.R u.C.toNat).length, Num.transR (Num.annR u.P u.R u.C.toNat) u.C.toNat⟩ = noMat := by
  obtain ⟨g1, g2, g3, g4, g5, g6, g7⟩ := Mat.sub_out h1
  have h3 : ¬ (u.P = a.P ∧ u.C = a.C) := fun ⟨e1, e2⟩ => h (by unfold cPreimageSubspace; simp [h1, h2, e1, e2])
  have h4 : u.P ≠ a.P ∨ u.C ≠ a.C := by
    by_cases e : u.P = a.P
    · exact .inr fun e2 => h3 ⟨e, e2⟩
    · exact .inl e
  have c2 : cPreimageSubspace u a = 2 := by unfold cPreimageSubspace; rw [if_neg (by simp [h1, h2]), if_pos h4]
  have A := Mat.sub_ok (ann_ok h1)
  have T := trans_ok A
  have tl : (Num.transR (Num.annR u.P u.R u.C.toNat) u.C.toNat).length = u.C.toNat := Num.trans_length _ _
  have d2 : cMatrixProduct a ⟨u.P, (Num.annR u.P u.R u.C.toNat).length, Num.transR (Num.annR u.P u.R u.C.toNat) u.C.toNat⟩ = 2 := by
    unfold cMatrixProduct
    rw [if_neg (by simp [h2, T]), if_pos]
    rcases h4 with g | g
    · exact .inl fun e => g e.symm
    · refine .inr fun e => g ?_
      have e' : a.C = ((Num.transR (Num.annR u.P u.R u.C.toNat) u.C.toNat).length : Int) := e
      rw [tl, Int.toNat_of_nonneg g4] at e'
      exact e'.symm
  exact ⟨c2, by unfold rPreimageSubspace; rw [if_neg (by omega)], d2, by unfold rMatrixProduct; rw [if_neg (by omega)]⟩
theorem pre_steps0 (h1 : u.sub = true) : cAnnihilator u = 0 ∧ rAnnihilator u = ⟨u.P, u.C, Num.annR u.P u.R u.C.toNat⟩ ∧
    cTransposeMatrix ⟨u.P, u.C, Num.annR u.P u.R u.C.toNat⟩ = 0 ∧ rTransposeMatrix ⟨u.P, u.C, Num.annR u.P u.R u.C.toNat⟩ = ⟨u.P, (Num.annR u.P u.R u.C.toNat).length, Num.transR (Num.annR u.P u.R u.C.toNat) u.C.toNat⟩ := by
  have A := Mat.sub_ok (ann_ok h1)
  exact ⟨by unfold cAnnihilator; rw [if_pos h1], by unfold rAnnihilator; rw [if_pos h1], by unfold cTransposeMatrix; rw [if_pos A], by unfold rTransposeMatrix; rw [if_pos A]⟩
theorem pre_bad1 (h : u.sub = false) : cPreimageSubspace u a = 1 ∧ rPreimageSubspace u a = noMat := by
  have c : cPreimageSubspace u a = 1 := by unfold cPreimageSubspace; simp [h]
  exact ⟨c, by unfold rPreimageSubspace; rw [if_neg (by omega)]⟩
theorem pre_bad2 (h : a.ok = false) : cPreimageSubspace u a = 1 ∧ rPreimageSubspace u a = noMat := by
  have c : cPreimageSubspace u a = 1 := by unfold cPreimageSubspace; simp [h]
  exact ⟨c, by unfold rPreimageSubspace; rw [if_neg (by omega)]⟩
theorem pre_sub (h : cPreimageSubspace u a = 0) : (rPreimageSubspace u a).sub = true := by
  obtain ⟨e1, e2, e3, e4⟩ := pre_out h
  obtain ⟨h1, h2, h3, h4, h5, h6, h7⟩ := Mat.sub_out e1
  obtain ⟨k1, k2, k3, k4, k5, k6, k7⟩ := Mat.ok_out e2
  unfold rPreimageSubspace
  rw [if_pos h]
  exact Mat.sub_of h1 (by omega) (by omega) (by rw [Int.toNat_natCast]; exact Num.pre_ech h1 h7 (by rw [e3, e4]; exact Num.vecs_of k7))
/-- The intersection: the image of the preimage. -/
theorem meet_steps (h : u.two v = 0) : cPreimageSubspace v u = 0 ∧ cImageSubspace (rPreimageSubspace v u) u = 0 ∧ rImageSubspace (rPreimageSubspace v u) u = rSubspaceIntersection u v := by
  obtain ⟨e1, e2, e3, e4⟩ := two_out h
  have hk := Mat.sub_ok e1
  have c0 : cPreimageSubspace v u = 0 := by unfold cPreimageSubspace; rw [if_neg (by simp [e2, hk]), if_neg (by simp [e3, e4])]
  have s := pre_sub c0
  have er : rPreimageSubspace v u = ⟨v.P, u.R.length, Num.preR v.P v.R u.R v.C.toNat⟩ := by unfold rPreimageSubspace; rw [if_pos c0]
  have c1 : cImageSubspace (rPreimageSubspace v u) u = 0 := by
    unfold cImageSubspace
    rw [if_neg (by simp [s, hk]), if_neg]
    rw [er]
    simp [e3]
  refine ⟨c0, c1, ?_⟩
  unfold rImageSubspace rSubspaceIntersection
  rw [if_pos c1, if_pos h, er, e3, ← e4]
end
end Go.Proofs.Ytihdidbikeaafaa
