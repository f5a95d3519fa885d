/- The functions of chapter 2 on matrices as data. -/
import Derived.Test.YtggkoihlmijacaaShMat
import Derived.Test.YtggkoihlmijacaaNumS
namespace Go.Proofs.Ytggkoihlmijacaa
set_option linter.unusedVariables false
namespace Num
def unitR (n : Nat) : List (List Int) := (List.range n).map (unitV n)
/-- v times the first i rows. -/
def timesTo (p : Int) (v : List Int) (rows : List (List Int)) (n : Nat) : Nat → List Int
  | 0 => zeroV n
  | i + 1 => addV p (v.getD i 0) (timesTo p v rows n i) (rows.getD i [])
def timesV (p : Int) (v : List Int) (rows : List (List Int)) (n : Nat) : List Int := timesTo p v rows n rows.length
theorem timesTo_length (p : Int) (v : List Int) (rows : List (List Int)) (n i : Nat) : (timesTo p v rows n i).length = n := by
  induction i with
  | zero => simp [timesTo, zeroV]
  | succ i ih => show (addV _ _ _ _).length = n; rw [addV_length, ih]
def prodR (p : Int) (a b : List (List Int)) (n : Nat) : List (List Int) := a.map fun v => timesV p v b n
def colV (rows : List (List Int)) (j : Nat) : List Int := rows.map fun r => r.getD j 0
def transR (rows : List (List Int)) (C : Nat) : List (List Int) := (List.range C).map (colV rows)
end Num
def noMat : Mat := ⟨0, 0, []⟩
def Mat.ok (a : Mat) : Bool := Num.matB a.P a.C a.R
def Mat.sq (a : Mat) : Int := if !a.ok then 1 else if (a.R.length : Int) ≠ a.C then 2 else 0
def okIdent (p n : Int) : Bool := Num.gp p && decide (0 ≤ n ∧ n ≤ 8)
def rIsMatrix (a : Mat) : Bool := a.ok
def rIdentityMatrix (p n : Int) : Mat := if okIdent p n then ⟨p, n, Num.unitR n.toNat⟩ else noMat
def cIdentityMatrix (p n : Int) : Int := if okIdent p n then 0 else 2
def cMatrixProduct (a b : Mat) : Int := if !a.ok || !b.ok then 1 else if a.P ≠ b.P ∨ a.C ≠ b.R.length then 2 else 0
def rMatrixProduct (a b : Mat) : Mat := if cMatrixProduct a b = 0 then ⟨b.P, b.C, Num.prodR b.P a.R b.R b.C.toNat⟩ else noMat
def cTransposeMatrix (a : Mat) : Int := if a.ok then 0 else 1
def rTransposeMatrix (a : Mat) : Mat := if a.ok then ⟨a.P, a.R.length, Num.transR a.R a.C.toNat⟩ else noMat
def cReduceRows (a : Mat) : Int := if a.ok then 0 else 1
noncomputable def rReduceRows (a : Mat) : Mat := if a.ok then ⟨a.P, a.C, Num.reduceR a.P a.R⟩ else noMat
def cDeterminant (a : Mat) : Int := a.sq
def rDeterminant (a : Mat) : Int := if a.sq = 0 then Num.det a.R.length (Num.matF a.R) % a.P else 0
noncomputable def cInverseMatrix (a : Mat) : Int := if a.sq ≠ 0 then a.sq else if Num.place (Num.wideE a.P a.R) a.C.toNat < a.C.toNat then 4 else 0
noncomputable def rInverseMatrix (a : Mat) : Mat := if cInverseMatrix a = 0 then ⟨a.P, a.C, Num.invR a.P a.R a.C.toNat⟩ else noMat
def cLeftKernel (a : Mat) : Int := if a.ok then 0 else 1
noncomputable def rLeftKernel (a : Mat) : Mat := if a.ok then ⟨a.P, a.R.length, Num.nullR a.P a.R a.C.toNat⟩ else noMat
noncomputable def cSolveRows (a : Mat) (b : List Int) : Int := if !a.ok || !Num.vecB a.P a.C b then 1 else if Num.lead (Num.restV a.P a.R b) < b.length then 4 else 0
noncomputable def rSolveRows (a : Mat) (b : List Int) : List Int := if cSolveRows a b = 0 then Num.solveV a.P a.R b else []
/-- What a valid matrix is. -/
theorem Mat.ok_out {a : Mat} (h : a.ok = true) : Num.gp a.P = true ∧ 2 ≤ a.P ∧ a.P ≤ 7 ∧ 0 ≤ a.C ∧ a.C ≤ 8 ∧ a.R.length ≤ 8 ∧ ∀ i, i < a.R.length → Num.Vec a.P a.C.toNat (a.R.getD i []) := by
  obtain ⟨h1, h2, h3, h4, h5⟩ := Num.matB_out h
  have h6 := Num.gp_le h1
  refine ⟨h1, h6.1, h6.2, h2, h3, h4, fun i hi => ?_⟩
  have l := (Num.vecB_out (h5 i hi)).1
  have e : a.C = ((a.C.toNat : Nat) : Int) := by omega
  have hv := h5 i hi
  rw [e] at hv
  exact Num.vec_of (by omega) hv
end Go.Proofs.Ytggkoihlmijacaa
