/- The functions of chapter 3 on matrices as data. -/
import Derived.Test.YtggkoihlmijacaaNumW
namespace Go.Proofs.Ytggkoihlmijacaa
set_option linter.unusedVariables false
set_option linter.unusedSimpArgs false
namespace Num
theorem Ech.len_le {p : Int} {n : Nat} {e : List (List Int)} (h : Ech p n e) : e.length ≤ n := by
  suffices H : ∀ i, i < e.length → i ≤ lead (e.getD i []) by
    rcases Nat.eq_zero_or_pos e.length with h0 | h0
    · omega
    · have a := H (e.length - 1) (by omega)
      have b := h.lt (e.length - 1) (by omega)
      omega
  intro i
  induction i with
  | zero => intro _; omega
  | succ i ih => intro hi; have := ih (by omega); have := h.sorted i (i + 1) (by omega) hi; omega
/-- The unit vectors at the indices that are no leads. -/
def freeC (n : Nat) (leads : List Nat) : List Nat := (List.range n).filter fun j => !leads.contains j
def complR (n : Nat) (leads : List Nat) : List (List Int) := (freeC n leads).map (unitV n)
end Num
theorem Mat.ok_of {P C : Int} {R : List (List Int)} (h1 : Num.gp P = true) (h2 : 0 ≤ C) (h3 : C ≤ 8) (h4 : R.length ≤ 8) (h5 : Num.Vecs P C.toNat R) : (⟨P, C, R⟩ : Mat).ok = true :=
  Num.matB_ok h1 h2 h3 h4 fun k hk => by
    have v := h5.at_ hk
    exact Num.vecB_ok (by rw [v.len]; show ((C.toNat : Nat) : Int) = C; omega) fun i _ => ⟨v.lo i, v.hi i⟩
open Classical in
/-- A subspace. -/
noncomputable def Mat.sub (x : Mat) : Bool := x.ok && decide (Num.reduceR x.P x.R = x.R)
theorem Mat.sub_ok {x : Mat} (h : x.sub = true) : x.ok = true := by unfold Mat.sub at h; rw [Bool.and_eq_true] at h; exact h.1
theorem Mat.sub_red {x : Mat} (h : x.sub = true) : Num.reduceR x.P x.R = x.R := by unfold Mat.sub at h; rw [Bool.and_eq_true] at h; simpa using h.2
theorem Mat.sub_out {x : Mat} (h : x.sub = true) : Num.gp x.P = true ∧ 2 ≤ x.P ∧ x.P ≤ 7 ∧ 0 ≤ x.C ∧ x.C ≤ 8 ∧ x.R.length ≤ 8 ∧ Num.Ech x.P x.C.toNat x.R := by
  obtain ⟨h1, h2, h3, h4, h5, h6, h7⟩ := Mat.ok_out (Mat.sub_ok h)
  exact ⟨h1, h2, h3, h4, h5, h6, by have := Num.ech_reduce_all h1 h7; rwa [Mat.sub_red h] at this⟩
theorem Mat.sub_of {P C : Int} {R : List (List Int)} (h1 : Num.gp P = true) (h2 : 0 ≤ C) (h3 : C ≤ 8) (h5 : Num.Ech P C.toNat R) : (⟨P, C, R⟩ : Mat).sub = true := by
  have hl := h5.len_le
  unfold Mat.sub
  rw [Bool.and_eq_true]
  exact ⟨Mat.ok_of h1 h2 h3 (by omega) h5.vecs, by simpa using h5.reduce h1⟩
theorem Mat.sub_false {x : Mat} (h : x.ok = false) : x.sub = false := by unfold Mat.sub; rw [h]; rfl
theorem Mat.sub_no {x : Mat} (h : ¬ Num.reduceR x.P x.R = x.R) : x.sub = false := by unfold Mat.sub; simp [h]
theorem Mat.sub_yes {x : Mat} (h : x.ok = true) (k : Num.reduceR x.P x.R = x.R) : x.sub = true := by unfold Mat.sub; simp [h, k]
noncomputable def rIsSubspace (x : Mat) : Bool := x.sub
noncomputable def cHasVector (u : Mat) (v : List Int) : Int := if !u.sub || !Num.vecB u.P u.C v then 1 else 0
noncomputable def rHasVector (u : Mat) (v : List Int) : Bool := if cHasVector u v = 0 then decide (v.length ≤ Num.lead (Num.clearV u.P u.R v)) else false
/-- The code of two subspaces that are to fit. -/
noncomputable def Mat.two (u v : Mat) : Int := if !u.sub || !v.sub then 1 else if u.P ≠ v.P ∨ u.C ≠ v.C then 2 else 0
noncomputable def cSubspaceSum (u v : Mat) : Int := u.two v
noncomputable def rSubspaceSum (u v : Mat) : Mat := if u.two v = 0 then ⟨u.P, u.C, Num.reduceR u.P (u.R ++ v.R)⟩ else noMat
noncomputable def cSubspaceIntersection (u v : Mat) : Int := u.two v
noncomputable def rSubspaceIntersection (u v : Mat) : Mat := if u.two v = 0 then ⟨u.P, u.C, Num.reduceR u.P (Num.prodR u.P (Num.preR u.P v.R u.R u.C.toNat) u.R u.C.toNat)⟩ else noMat
noncomputable def cAnnihilator (u : Mat) : Int := if u.sub then 0 else 1
noncomputable def rAnnihilator (u : Mat) : Mat := if u.sub then ⟨u.P, u.C, Num.annR u.P u.R u.C.toNat⟩ else noMat
noncomputable def cStandardComplement (u : Mat) : Int := if u.sub then 0 else 1
noncomputable def rStandardComplement (u : Mat) : Mat := if u.sub then ⟨u.P, u.C, Num.complR u.C.toNat (u.R.map Num.lead)⟩ else noMat
noncomputable def cImageSubspace (u a : Mat) : Int := if !u.sub || !a.ok then 1 else if u.P ≠ a.P ∨ u.C ≠ a.R.length then 2 else 0
noncomputable def rImageSubspace (u a : Mat) : Mat := if cImageSubspace u a = 0 then ⟨u.P, a.C, Num.reduceR u.P (Num.prodR u.P u.R a.R a.C.toNat)⟩ else noMat
noncomputable def cPreimageSubspace (u a : Mat) : Int := if !u.sub || !a.ok then 1 else if u.P ≠ a.P ∨ u.C ≠ a.C then 2 else 0
noncomputable def rPreimageSubspace (u a : Mat) : Mat := if cPreimageSubspace u a = 0 then ⟨u.P, a.R.length, Num.preR u.P u.R a.R u.C.toNat⟩ else noMat
section
variable {u v a : Mat}
theorem two_out (h : u.two v = 0) : u.sub = true ∧ v.sub = true ∧ u.P = v.P ∧ u.C = v.C := by
  unfold Mat.two at h
  cases h1 : u.sub <;> cases h2 : v.sub <;> simp [h1, h2] at h ⊢
  by_cases e1 : u.P = v.P <;> by_cases e2 : u.C = v.C <;> simp [e1, e2] at h ⊢
theorem image_out (h : cImageSubspace u a = 0) : u.sub = true ∧ a.ok = true ∧ u.P = a.P ∧ u.C = a.R.length := by
  unfold cImageSubspace at h
  cases h1 : u.sub <;> cases h2 : a.ok <;> simp [h1, h2] at h ⊢
  by_cases e1 : u.P = a.P <;> by_cases e2 : u.C = a.R.length <;> simp [e1, e2] at h ⊢
theorem pre_out (h : cPreimageSubspace u a = 0) : u.sub = true ∧ a.ok = true ∧ u.P = a.P ∧ u.C = a.C := by
  unfold cPreimageSubspace at h
  cases h1 : u.sub <;> cases h2 : a.ok <;> simp [h1, h2] at h ⊢
  by_cases e1 : u.P = a.P <;> by_cases e2 : u.C = a.C <;> simp [e1, e2] at h ⊢
end
end Go.Proofs.Ytggkoihlmijacaa
