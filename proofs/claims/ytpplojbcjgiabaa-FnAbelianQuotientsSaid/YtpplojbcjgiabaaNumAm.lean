/- Plain arithmetic without Go: an order put into a chain of orders, from its end on. -/
import Derived.Test.YtpplojbcjgiabaaNumO
namespace Go.Proofs.Ytpplojbcjgiabaa.Num

/-- The least common multiple, as the program reckons it. -/
def lcmI (a b : Int) : Int := if a = 0 then 0 else a / (Int.gcd a b : Int) * b
theorem lcmI_zero (b : Int) : lcmI 0 b = 0 := rfl
theorem lcmI_bd {a b : Int} (ha0 : 0 ≤ a) (ha1 : a ≤ 1000000) (hb0 : 0 ≤ b) (hb1 : b ≤ 1000000) : 0 ≤ lcmI a b ∧ lcmI a b ≤ 1000000000000 ∧ 0 ≤ a / (Int.gcd a b : Int) ∧ a / (Int.gcd a b : Int) ≤ 1000000 := by
  have q0 : 0 ≤ a / (Int.gcd a b : Int) := Int.ediv_nonneg ha0 (by omega)
  have q1 : a / (Int.gcd a b : Int) ≤ a := by
    by_cases h : (Int.gcd a b : Int) = 0
    · rw [h]; simp; omega
    · have := Int.ediv_le_self (b := (Int.gcd a b : Int)) (a := a) ha0
      exact this
  refine ⟨?_, ?_, q0, by omega⟩
  · unfold lcmI
    split
    · omega
    · exact Int.mul_nonneg q0 hb0
  · unfold lcmI
    split
    · omega
    · have := Int.mul_le_mul (show a / (Int.gcd a b : Int) ≤ 1000000 by omega) hb1 hb0 (by omega)
      omega
/-- What is left of the order behind t elements from the end, and the chain then. -/
def rAt (zs : List Int) (r : Int) : Nat → Int
  | 0 => r
  | t + 1 => (Int.gcd (zs.getD (zs.length - 1 - t) 0) (rAt zs r t) : Int)
def cAt (zs : List Int) (r : Int) : Nat → List Int
  | 0 => zs
  | t + 1 => (cAt zs r t).set (zs.length - 1 - t) (lcmI (zs.getD (zs.length - 1 - t) 0) (rAt zs r t))
theorem cAt_len (zs : List Int) (r : Int) : ∀ t, (cAt zs r t).length = zs.length
  | 0 => rfl
  | t + 1 => by rw [cAt, List.length_set, cAt_len zs r t]
theorem cAt_low (zs : List Int) (r : Int) : ∀ t j, j + t < zs.length → (cAt zs r t).getD j 0 = zs.getD j 0
  | 0, j, _ => rfl
  | t + 1, j, h => by
    rw [cAt, List.getD_eq_getElem?_getD, List.getElem?_set_ne (by omega), ← List.getD_eq_getElem?_getD, cAt_low zs r t j (by omega)]
theorem rAt_bd {zs : List Int} {r : Int} (hz : ∀ j, 0 ≤ zs.getD j 0 ∧ zs.getD j 0 ≤ 1000000) (h0 : 0 ≤ r) (h1 : r ≤ 1000000) : ∀ t, 0 ≤ rAt zs r t ∧ rAt zs r t ≤ 1000000
  | 0 => ⟨h0, h1⟩
  | t + 1 => by
    obtain ⟨i0, i1⟩ := rAt_bd hz h0 h1 t
    have hz' := hz (zs.length - 1 - t)
    rw [rAt]
    generalize rAt zs r t = b at *
    generalize zs.getD (zs.length - 1 - t) 0 = a at *
    refine ⟨by omega, ?_⟩
    by_cases ha : a = 0
    · subst ha
      rw [Int.gcd_zero_left]
      omega
    · have hd := Int.gcd_dvd_left a b
      have := Int.le_of_dvd (by omega) hd
      omega
def insC (zs : List Int) (r : Int) : List Int := if rAt zs r zs.length = 1 then cAt zs r zs.length else rAt zs r zs.length :: cAt zs r zs.length
end Go.Proofs.Ytpplojbcjgiabaa.Num
