/- Primes by trial division, of the program and of the model. -/
import Derived.Test.YtpplojbcjgiabaaL07C
import Derived.Test.YtpplojbcjgiabaaL01G
import Derived.Test.YtpplojbcjgiabaaNumK
namespace Go.Proofs.Ytpplojbcjgiabaa
open Go.RowKit
set_option linter.unusedVariables false
set_option linter.unusedSimpArgs false
/-- A prime, as trial division tells. -/
def Num.isP (p : Int) : Bool := decide (2 ≤ p) && decide (Num.baseN p = p)
theorem Num.isP_fac {n : Int} (h : 1 ≤ n) : decide (Num.facP 2 n = [n]) = Num.isP n := by
  unfold Num.isP
  by_cases h1 : n = 1
  · subst h1
    rw [show Num.facP 2 1 = [] by rw [Num.facP, Num.facL_one (by omega)]; rfl]
    simp
  · rw [decide_eq_true (show 2 ≤ n by omega), Bool.true_and]
    exact decide_eq_decide.mpr (Num.facP_self (by omega))
theorem Num.isP_small {n : Int} (h : n < 2) : Num.isP n = false := by unfold Num.isP; rw [decide_eq_false (by omega)]; rfl
/-! ### The model's base of a prime power -/
set_option maxHeartbeats 1000000 in
theorem sBase_any (n : Int) (w : World) (hn : n ≤ 1000000) : Calls Try.prog 71 #[.int .i64 n] w fun e w' => e = .returned (.int .i64 (Num.baseN n)) ∧ w = w' := by
  by_cases h1 : n < 2
  · have HB := Lib.hid (Num.baseN_small h1)
    go_enter Try.func71, Try.ntmps71
    go_wp2_with (fail)
    go_ret
    exact ⟨ret_i HB.out.symm, rfl⟩
  · have n2 : 2 ≤ n := by omega
    go_enter Try.func71, Try.ntmps71
    go_wp2_with (fail)
    go_loop [3] (fun s => ∃ d : Int, s = .int .i64 d ∧ 2 ≤ d ∧ d ≤ n ∧ Hid (Num.leastD 2 n = Num.leastD d n)) (fun s => (n - intOf s).toNat)
    case atStart => exact ⟨2, rfl, by omega, n2, Lib.hid rfl⟩
    case round =>
      obtain ⟨d, rfl, d1, d2, HD⟩ := hrel
      obtain ⟨q1, q2⟩ := Num.sq_fits d1 (by omega)
      by_cases hs : d * d ≤ n
      · have hb := Num.sq_big d1 hs
        by_cases hm : n % d = 0
        · have HS := Lib.hid (Num.leastD_stop (d := d) (n := n) (fun h => h.2 hm))
          have T1 : (n % d != 0) = false := bne_eq_false_iff_eq.mpr hm
          have hs' : ¬ n < d * d := by omega
          have HQ : Hid (Num.leastD 2 n = d) := Lib.hid (HD.out.trans HS.out)
          have HSQ : Hid (Num.leastD 2 n * Num.leastD 2 n ≤ n) := Lib.hid (by rw [HQ.out]; exact hs)
          have HNO : Hid (1 < Num.vr d n → Num.baseN n = 0) := Lib.hid fun h => Num.baseN_none n2 HSQ.out (by rw [HQ.out]; exact h)
          have HYE : Hid (¬ 1 < Num.vr d n → Num.baseN n = d) := Lib.hid fun h => (Num.baseN_pow n2 HSQ.out (by rw [HQ.out]; exact h)).trans HQ.out
          clear hm HD HS HQ HSQ
          go_wp2_with (fail)
          go_loop [0] (fun s0 => ∃ c k : Int, s0 = .int .i64 c ∧ Num.RemInv d n c k) (fun s0 => (intOf s0).toNat)
          case atStart => exact ⟨n, 0, rfl, Num.remInv_start (by omega)⟩
          case round =>
            obtain ⟨c, k, rfl, hi⟩ := hrel
            obtain ⟨b1, b2, b3⟩ := Num.remInv_bd hi
            by_cases hd : c % d = 0
            · obtain ⟨e1, e2, e3⟩ := Num.div_bd d1 b1 hd
              have hs2 := Num.remInv_step d1 hi hd
              have ht : (c % d == 0) = true := by simp [hd]
              clear e3 hd
              go_wp2
              exact ⟨⟨_, _, rfl, hs2⟩, by simp [intOf]; omega⟩
            · have ht : (c % d == 0) = false := by simp [hd]
              obtain ⟨-, h2⟩ := Num.remInv_end d1 hi hd
              rw [← h2] at HNO HYE
              clear h2 hd hi
              by_cases hc : 1 < c
              · have HR := Lib.hid (HNO.out hc)
                clear HNO HYE
                go_wp2
                go_ret
                exact ⟨ret_i HR.out.symm, rfl⟩
              · have HR := Lib.hid (HYE.out (by omega))
                clear HNO HYE
                go_wp2
                go_ret
                exact ⟨ret_i HR.out.symm, rfl⟩
        · have HS := Lib.hid (Num.leastD_go d1 hs hm)
          have T1 : (n % d != 0) = true := bne_iff_ne.mpr hm
          clear hm
          go_wp2_with (fail)
          exact ⟨⟨d + 1, rfl, by omega, by omega, Lib.hid (HD.out.trans HS.out)⟩, by simp [intOf]; omega⟩
      · have HS := Lib.hid (Num.leastD_stop (d := d) (n := n) (fun h => hs h.1))
        have hs' : n < d * d := by omega
        have HR : Hid (Num.baseN n = n) := Lib.hid (Num.baseN_self n2 (by rw [HD.out, HS.out]; exact hs'))
        clear HD HS
        go_wp2_with (fail)
        go_ret
        exact ⟨ret_i HR.out.symm, rfl⟩

/-! ### The subgroups of prime order -/
def Num.linesLim (p n : Int) : List Int → Option Int
  | [] => some n
  | x :: xs => if x % p = 0 then (if 1000000000000000 < n * p + 1 then none else Num.linesLim p (n * p + 1) xs) else Num.linesLim p n xs
def Num.LinInv (p : Int) (F : List Int) (n : Int) (k : Nat) : Prop := 0 ≤ n ∧ n ≤ 1000000000000000 ∧ Num.linesLim p 0 F = Num.linesLim p n (F.drop k)
def Num.lin (p : Int) (F : List Int) : Int := (Num.linesLim p 0 F).getD 0
def Num.linC (p : Int) (F : List Int) : Int := if (Num.linesLim p 0 F).isSome then 0 else 3
theorem Num.linInv_start (p : Int) (F : List Int) : Num.LinInv p F 0 0 := ⟨by omega, by omega, by simp⟩
theorem Num.lin_drop {p n : Int} {F : List Int} {k : Nat} (hk : k < F.length) : Num.linesLim p n (F.drop k) = if F.getD k 0 % p = 0 then (if 1000000000000000 < n * p + 1 then none else Num.linesLim p (n * p + 1) (F.drop (k + 1))) else Num.linesLim p n (F.drop (k + 1)) := by
  rw [List.drop_eq_getElem_cons hk]
  simp [Num.linesLim, hk]
theorem Num.linInv_skip {p n : Int} {F : List Int} {k : Nat} (h : Num.LinInv p F n k) (hk : k < F.length) (hx : ¬ F.getD k 0 % p = 0) : Num.LinInv p F n (k + 1) := ⟨h.1, h.2.1, by rw [h.2.2, Num.lin_drop hk, if_neg hx]⟩
theorem Num.linInv_step {p n : Int} {F : List Int} {k : Nat} (h : Num.LinInv p F n k) (hk : k < F.length) (hp : 0 ≤ p) (hx : F.getD k 0 % p = 0) (hc : ¬ 1000000000000000 < n * p + 1) : Num.LinInv p F (n * p + 1) (k + 1) := by
  have := Int.mul_nonneg h.1 hp
  exact ⟨by omega, by omega, by rw [h.2.2, Num.lin_drop hk, if_pos hx, if_neg hc]⟩
theorem Num.linInv_over {p n : Int} {F : List Int} {k : Nat} (h : Num.LinInv p F n k) (hk : k < F.length) (hx : F.getD k 0 % p = 0) (hc : 1000000000000000 < n * p + 1) : Num.lin p F = 0 ∧ Num.linC p F = 3 := by
  have e : Num.linesLim p 0 F = none := by rw [h.2.2, Num.lin_drop hk, if_pos hx, if_pos hc]
  unfold Num.lin Num.linC
  rw [e]
  exact ⟨rfl, rfl⟩
theorem Num.linInv_end {p n : Int} {F : List Int} (h : Num.LinInv p F n F.length) : Num.lin p F = n ∧ Num.linC p F = 0 := by
  have e : Num.linesLim p 0 F = some n := by rw [h.2.2, List.drop_length]; rfl
  unfold Num.lin Num.linC
  rw [e]
  exact ⟨rfl, rfl⟩
theorem Num.lin_mul {n p : Int} (h0 : 0 ≤ n) (h1 : n ≤ 1000000000000000) (p0 : 2 ≤ p) (p1 : p ≤ 1000) : 0 ≤ n * p ∧ n * p ≤ 1000000000000000000 := by
  have := Int.mul_le_mul h1 p1 (by omega) (by omega)
  have := Int.mul_nonneg h0 (show 0 ≤ p by omega)
  omega
theorem Num.lin_quo {n p : Int} (p0 : 2 ≤ p) : 999999999999999 / p < n ↔ 1000000000000000 < n * p + 1 := by
  rw [Int.ediv_lt_iff_lt_mul (by omega : 0 < p)]
  omega
def rCountPrimeSubgroups (x : Ab) (p : Int) : Int := if x.ok = true then (if p ≤ 1000 ∧ Num.isP p = true then Num.lin p x.F else 0) else 0
def cCountPrimeSubgroups (x : Ab) (p : Int) : Int := if x.ok = true then (if p ≤ 1000 ∧ Num.isP p = true then Num.linC p x.F else 2) else 1
theorem Ab.psub_bad {x : Ab} {p : Int} (h : x.ok = false) : rCountPrimeSubgroups x p = 0 ∧ cCountPrimeSubgroups x p = 1 := by unfold rCountPrimeSubgroups cCountPrimeSubgroups; simp [h]
theorem Ab.psub_rng {x : Ab} {p : Int} (h : x.ok = true) (h' : ¬ (p ≤ 1000 ∧ Num.isP p = true)) : rCountPrimeSubgroups x p = 0 ∧ cCountPrimeSubgroups x p = 2 := by unfold rCountPrimeSubgroups cCountPrimeSubgroups; rw [if_pos h, if_pos h, if_neg h', if_neg h']; exact ⟨rfl, rfl⟩
theorem Ab.psub_ok {x : Ab} {p : Int} (h : x.ok = true) (h' : p ≤ 1000 ∧ Num.isP p = true) : rCountPrimeSubgroups x p = Num.lin p x.F ∧ cCountPrimeSubgroups x p = Num.linC p x.F := by unfold rCountPrimeSubgroups cCountPrimeSubgroups; rw [if_pos h, if_pos h, if_pos h', if_pos h']; exact ⟨rfl, rfl⟩
end Go.Proofs.Ytpplojbcjgiabaa
