/- Homomorphisms between finite abelian groups: as many in either direction; from a cyclic group, as many as solutions. -/
import Derived.Test.YteplidajodaklaaL07I
import Derived.Test.YteplidajodaklaaL07D
namespace Go.Proofs.Yteplidajodaklaa
open Go.RowKit
set_option linter.unusedVariables false
set_option linter.unusedSimpArgs false
theorem Ab.pos {x : Ab} (h : x.ok = true) : ∀ t ∈ x.F, 1 ≤ t := Num.mem_at (P := fun t => 1 ≤ t) (Ab.ok_pos h)
theorem chainL_zero (F : List Int) : Num.chainL F 0 = F := by simp [Num.chainL]
theorem homs_turn (F G : List Int) : Num.homsI G F = Num.homsS F G := by
  unfold Num.homsI Num.homsS
  congr 1
  funext t
  refine List.map_congr_left fun f _ => ?_
  rw [Int.gcd_comm]
theorem hom_sym {x y : Ab} (hx : x.ok = true) (hy : y.ok = true) (kx : x.K = 0) (ky : y.K = 0) : rCountAbelianHoms y x = rCountAbelianHoms x y ∧ cCountAbelianHoms y x = cCountAbelianHoms x y := by
  obtain ⟨a1, a2⟩ := Ab.hom_ok hx hy ky
  obtain ⟨b1, b2⟩ := Ab.hom_ok hy hx kx
  rw [a1, a2, b1, b2, kx, ky, chainL_zero, chainL_zero, homs_turn x.F y.F]
  exact Num.homs_cnt (Ab.pos hy)
theorem hom_good {x y : Ab} (h : cCountAbelianHoms x y = 0) : x.ok = true ∧ y.ok = true ∧ y.K = 0 := by
  unfold cCountAbelianHoms at h
  split at h
  · rename_i hh
    refine ⟨hh.1, hh.2, ?_⟩
    split at h
    · assumption
    · simp at h
  · simp at h
theorem hom_one {y : Ab} (hy : y.ok = true) (ky : y.K = 0) {k : Int} (h2 : 2 ≤ k) (h3 : k ≤ 1000000) : rCountAbelianHoms ⟨[k], 0⟩ y = rCountSolutions y k ∧ cCountAbelianHoms ⟨[k], 0⟩ y = cCountSolutions y k := by
  have hk : Ab.ok ⟨[k], 0⟩ = true := Num.abB_ok (by simp) (by simp) (by simp) (fun j hj => by
    obtain rfl : j = 0 := by simp at hj; omega
    exact ⟨h2, h3⟩) (Num.chainB_ok fun j hj => by
    obtain rfl : j = 0 := by simp at hj; omega
    simp [Num.Link, Num.prevD]
    omega)
  obtain ⟨a1, a2⟩ := Ab.hom_ok (x := ⟨[k], 0⟩) hk hy ky
  obtain ⟨b1, b2⟩ := Ab.sol_ok hy (k := k) ⟨by omega, h3⟩
  have e : Num.homsI (Num.chainL [k] 0) y.F = Num.gcds y.F k := by
    rw [chainL_zero]
    simp [Num.homsI, Num.gcds, Int.gcd_comm]
  rw [a1, a2, b1, b2, e]
  exact ⟨rfl, rfl⟩
end Go.Proofs.Yteplidajodaklaa
