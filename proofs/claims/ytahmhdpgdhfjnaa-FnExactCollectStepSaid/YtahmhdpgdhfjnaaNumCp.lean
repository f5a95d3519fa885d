/- Plain arithmetic without Go: how often letters stand in a word, by counting up. -/
import Derived.Test.YtahmhdpgdhfjnaaNumCo
import Derived.Test.YtahmhdpgdhfjnaaL10H
namespace Go.Proofs.Ytahmhdpgdhfjnaa
set_option linter.unusedVariables false
set_option linter.unusedSimpArgs false

theorem Num.sumF_cnt (n : Nat) : ∀ (w : List Int) (acc : List Int), Num.PosW n w → acc.length = n → ∀ i, i < n → (Num.sumF acc w).getD i 0 = acc.getD i 0 + ((w.count ((i : Int) + 1) : Nat) : Int)
  | [], acc, _, _, i, _ => by simp [Num.sumF]
  | x :: l, acc, h, hl, i, hi => by
    have hx := h x (by simp)
    have e : Num.sumF acc (x :: l) = Num.sumF (Num.incS acc x) l := rfl
    rw [e, Num.sumF_cnt n l (Num.incS acc x) (fun y hy => h y (by simp [hy])) (by rw [Num.incS_len]; exact hl) i hi, Num.incS, if_pos (by omega)]
    by_cases ei : x = (i : Int) + 1
    · subst ei
      rw [List.count_cons_self, show ((i : Int) + 1 - 1).toNat = i by omega]
      rw [show (acc.set i (acc.getD i 0 + 1)).getD i 0 = acc.getD i 0 + 1 by rw [List.getD_eq_getElem?_getD, List.getElem?_set_self (by omega)]; rfl]
      omega
    · rw [List.count_cons_of_ne ei]
      rw [show (acc.set (x - 1).toNat (acc.getD (x - 1).toNat 0 + 1)).getD i 0 = acc.getD i 0 by rw [List.getD_eq_getElem?_getD, List.getElem?_set_ne (by omega), ← List.getD_eq_getElem?_getD]]
theorem Num.sumW_cnt {n : Nat} {w : List Int} (h : Num.PosW n w) : Num.sumW (n : Int) w = Num.cntV n w := by
  have hl : (Num.sumW (n : Int) w).length = n := by unfold Num.sumW; rw [Num.sumF_len, List.length_replicate]; omega
  refine List.ext_getElem (by rw [hl, Num.cntV_len]) fun i h1 h2 => ?_
  rw [hl] at h1
  have a := Num.cntV_at (w := w) h1
  have b := Num.sumF_cnt n w (List.replicate n 0) h (by simp) i h1
  have c : (List.replicate n (0 : Int)).getD i 0 = 0 := by simp [h1]
  rw [c, Int.zero_add, ← a] at b
  have d : (Num.sumW (n : Int) w).getD i 0 = (Num.cntV n w).getD i 0 := by unfold Num.sumW; rw [Int.toNat_natCast]; exact b
  simpa [List.getD_eq_getElem?_getD, h1, hl, Num.cntV_len] using d
theorem Num.isWB_pos {n : Nat} {w : List Int} (h : Num.PosW n w) (hl : w.length ≤ 64) : Num.isWB (n : Int) w = true := Num.isWB_iff.mpr ⟨hl, fun z hz => by have := h z hz; omega⟩
end Go.Proofs.Ytahmhdpgdhfjnaa
