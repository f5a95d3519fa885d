/- Products with a limit, the greatest finite factor, the common divisor of the model. -/
import Derived.Test.YtndldgmejmephaaL07A
import Derived.Test.YtndldgmejmephaaKB
namespace Go.Proofs.Ytndldgmejmephaa
open Go.RowKit
set_option linter.unusedVariables false
set_option linter.unusedSimpArgs false

/-- The state of a product with a limit. -/
def Num.LimInv (xs : List Int) (n : Int) (k : Nat) : Prop := 1 ≤ n ∧ n ≤ 1000000000000000 ∧ Num.prodLim 1 xs = Num.prodLim n (xs.drop k)
theorem Num.limInv_start (xs : List Int) : Num.LimInv xs 1 0 := ⟨by omega, by omega, by simp⟩
theorem Num.limInv_over {xs : List Int} {n : Int} {k : Nat} (h : Num.LimInv xs n k) (hk : k < xs.length) (hc : 1000000000000000 / n < xs.getD k 0) : Num.cnt xs = 0 ∧ Num.cntC xs = 3 ∧ Num.prodLim 1 xs = none := by
  have e : Num.prodLim 1 xs = none := by rw [h.2.2, Num.prodLim_drop hk, if_pos hc]
  unfold Num.cnt Num.cntC
  rw [e]
  exact ⟨rfl, rfl, rfl⟩
theorem Num.limInv_step {xs : List Int} {n : Int} {k : Nat} (h : Num.LimInv xs n k) (hk : k < xs.length) (hx : 1 ≤ xs.getD k 0) (hc : ¬ 1000000000000000 / n < xs.getD k 0) : Num.LimInv xs (n * xs.getD k 0) (k + 1) := by
  have hs := Num.prodLim_step h.1 hx hc
  exact ⟨hs.1, hs.2, by rw [h.2.2, Num.prodLim_drop hk, if_neg hc]⟩
theorem Num.limInv_end {xs : List Int} {n : Int} (h : Num.LimInv xs n xs.length) : Num.cnt xs = n ∧ Num.cntC xs = 0 ∧ Num.prodLim 1 xs = some n := by
  have e : Num.prodLim 1 xs = some n := by rw [h.2.2, List.drop_length]; rfl
  unfold Num.cnt Num.cntC
  rw [e]
  exact ⟨rfl, rfl, rfl⟩

/-- The greatest finite factor. -/
def Num.lastF (F : List Int) : Int := if F.length = 0 then 1 else F.getD (F.length - 1) 0
set_option maxHeartbeats 400000 in
theorem sGcd4_any (a b : Int) (w : World) (ha0 : -1099511627776 ≤ a) (ha1 : a ≤ 1099511627776) (hb0 : -1099511627776 ≤ b) (hb1 : b ≤ 1099511627776) :
    Calls Try.prog 76 #[.int .i64 a, .int .i64 b] w fun e w' => e = .returned (.int .i64 (Int.gcd a b)) ∧ Below w.heap.size w w' := by
  go_enter Try.func76, Try.ntmps76
  go_wp2
  go_loopw [0, 1] (fun x y wr => ∃ c d : Int, x = .int .i64 c ∧ y = .int .i64 d ∧ -1099511627776 ≤ c ∧ c ≤ 1099511627776 ∧ -1099511627776 ≤ d ∧ d ≤ 1099511627776 ∧ Int.gcd c d = Int.gcd a b ∧ Below w.heap.size w wr) (fun _ y _ => (intOf y).natAbs)
  case atStart => exact ⟨a, b, rfl, rfl, ha0, ha1, hb0, hb1, rfl, Below.refl _ _⟩
  case round =>
    obtain ⟨c, d, rfl, rfl, hc0, hc1, hd0, hd1, hg, hbel⟩ := hrel
    have HG := Lib.hid hg
    clear hg
    by_cases hd : d = 0
    · subst hd
      by_cases hc : 0 ≤ c
      · have HS : Hid (c = (Int.gcd a b : Int)) := Lib.hid (by rw [← HG.out, Int.gcd_zero_right]; omega)
        have h1 : -c ≤ c := by omega
        go_wp2
        go_ret
        exact ⟨ret_int HS.out, hbel⟩
      · have HS : Hid (-c = (Int.gcd a b : Int)) := Lib.hid (by rw [← HG.out, Int.gcd_zero_right]; omega)
        have h1 : c ≤ -c := by omega
        go_wp2
        go_ret
        exact ⟨ret_int HS.out, hbel⟩
    · have hne : (d != 0) = true := by simpa using hd
      have hn : (c.tmod d).natAbs < d.natAbs := by rw [Int.natAbs_tmod]; exact Nat.mod_lt _ (by omega)
      have HG' : Hid (Int.gcd d (c.tmod d) = Int.gcd a b) := by rw [Num.gcd_tstep]; exact HG.out
      go_wp2
      go_quiet (fail)
      go_wp2
      exact ⟨⟨d, c.tmod d, rfl, rfl, hd0, hd1, by omega, by omega, HG'.out, below_drewN hbel _⟩, hn⟩
end Go.Proofs.Ytndldgmejmephaa
