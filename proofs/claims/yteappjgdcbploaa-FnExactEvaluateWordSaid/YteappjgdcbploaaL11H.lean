/- Presentations: IsExponentVector, PresentationOrder, NormalWord. -/
import Derived.Test.YteappjgdcbploaaL11G
import Derived.Test.YteappjgdcbploaaL10F
namespace Go.Proofs.Yteappjgdcbploaa
open Go.RowKit
set_option linter.unusedVariables false
set_option linter.unusedSimpArgs false

/-- The result of IsExponentVector, of PresentationOrder, of NormalWord. -/
def rIsExponentVector (p : Pres) (e : List Int) : Bool := p.ok && Num.fitB p.O e 0
def rPresentationOrder (p : Pres) : Int := if p.ok = true then Num.prodZ p.O else 0
def cPresentationOrder (p : Pres) : Int := if p.ok = true then 0 else 1
def Num.wrdTo (v : List Int) : Nat → List Int
  | 0 => []
  | i + 1 => Num.wrdTo v i ++ List.replicate (v.getD i 0).toNat ((i : Int) + 1)
def Num.wrd (v : List Int) : List Int := Num.wrdTo v v.length
def rNormalWord (p : Pres) (e : List Int) : List Int := if rIsExponentVector p e = true then Num.wrd e else []
def cNormalWord (p : Pres) (e : List Int) : Int := if rIsExponentVector p e = true then 0 else 1
theorem Num.wrdTo_len (v : List Int) (h : ∀ j, j < v.length → 0 ≤ v.getD j 0 ∧ v.getD j 0 ≤ 64) : ∀ i, i ≤ v.length → (Num.wrdTo v i).length ≤ 64 * i
  | 0, _ => by simp [Num.wrdTo]
  | i + 1, hi => by
    have h1 := Num.wrdTo_len v h i (by omega)
    have h2 := h i (by omega)
    rw [Num.wrdTo, List.length_append, List.length_replicate]
    omega
theorem Pres.ok_out {p : Pres} (h : p.ok = true) : p.O.length ≤ 6 ∧ Num.gpsB p.O = true ∧ Num.prodZ p.O ≤ 729 := Num.ordC_zero (Num.preB_out h).1
theorem Pres.fit_bd {p : Pres} {e : List Int} (h : rIsExponentVector p e = true) : p.ok = true ∧ Num.fitB p.O e 0 = true ∧ e.length ≤ 6 ∧ ∀ j, j < e.length → 0 ≤ e.getD j 0 ∧ e.getD j 0 ≤ 64 := by
  unfold rIsExponentVector at h
  simp only [Bool.and_eq_true] at h
  obtain ⟨h1, h2⟩ := h
  obtain ⟨h3, h4, -⟩ := Pres.ok_out h1
  obtain ⟨h5, h6⟩ := Num.fitB_out h2
  refine ⟨h1, h2, by omega, fun j hj => ?_⟩
  have a := h6 j hj
  unfold Num.Fit at a
  have b := Num.gpsB_at h4 (j := j) (by omega)
  exact ⟨a.1, by omega⟩

end Go.Proofs.Yteappjgdcbploaa
