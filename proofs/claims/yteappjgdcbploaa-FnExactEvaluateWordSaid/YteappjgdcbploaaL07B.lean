/- Products with a limit, the greatest finite factor, the common divisor of the model. -/
import Derived.Test.YteappjgdcbploaaL07A
import Derived.Test.YteappjgdcbploaaKB
namespace Go.Proofs.Yteappjgdcbploaa
open Go.RowKit
set_option linter.unusedVariables false
set_option linter.unusedSimpArgs false

/-- The state of a product with a limit. -/
def Num.LimInv (xs : List Int) (n : Int) (k : Nat) : Prop := 1 ≤ n ∧ n ≤ 1000000000000000 ∧ Num.prodLim 1 xs = Num.prodLim n (xs.drop k)
theorem Num.limInv_start (xs : List Int) : Num.LimInv xs 1 0 := ⟨by omega, by omega, by simp⟩
theorem Num.limInv_over {xs : List Int} {n : Int} {k : Nat} (h : Num.LimInv xs n k) (hk : k < xs.length) (hc : 1000000000000000 / n < xs.getD k 0) : Num.cnt xs = 0 ∧ Num.cntC xs = 3 ∧ Num.prodLim 1 xs = none := by
  have e : Num.prodLim 1 xs = none := by rw [h.2.2, Num.prodLim_drop hk, if_pos hc]
  unfold Num.cnt Num.cntC
  rw [e]
  exact ⟨rfl, rfl, rfl⟩
theorem Num.limInv_step {xs : List Int} {n : Int} {k : Nat} (h : Num.LimInv xs n k) (hk : k < xs.length) (hx : 1 ≤ xs.getD k 0) (hc : ¬ 1000000000000000 / n < xs.getD k 0) : Num.LimInv xs (n * xs.getD k 0) (k + 1) := by
  have hs := Num.prodLim_step h.1 hx hc
  exact ⟨hs.1, hs.2, by rw [h.2.2, Num.prodLim_drop hk, if_neg hc]⟩
theorem Num.limInv_end {xs : List Int} {n : Int} (h : Num.LimInv xs n xs.length) : Num.cnt xs = n ∧ Num.cntC xs = 0 ∧ Num.prodLim 1 xs = some n := by
  have e : Num.prodLim 1 xs = some n := by rw [h.2.2, List.drop_length]; rfl
  unfold Num.cnt Num.cntC
  rw [e]
  exact ⟨rfl, rfl, rfl⟩

set_option maxHeartbeats 400000 in
theorem countProd_any (A : Option Addr) (c : Nat) (xs : List Int) (w : World) (h : RdI w A xs) (hl : xs.length ≤ maxLen) (h1 : ∀ j, j < xs.length → 1 ≤ xs.getD j 0) :
    Calls Try.prog 145 #[.slice A xs.length c] w fun e w' => e = .returned (.tuple #[.int .i64 (Num.cnt xs), .int .i64 (Num.cntC xs)]) ∧ w = w' := by
  unfold maxLen at hl
  go_enter Try.func145, Try.ntmps145
  go_wp2_with (fail)
  go_loop [4, 9] (fun s0 s => ∃ (n : Int) (k : Nat), k ≤ xs.length ∧ s0 = .int .i64 n ∧ s = .int .i64 k ∧ Num.LimInv xs n k) (fun _ s => xs.length - (intOf s).toNat)
  case atStart => exact ⟨1, 0, by omega, rfl, rfl, Num.limInv_start xs⟩
  case round =>
    obtain ⟨n, k, hk, rfl, rfl, hp⟩ := hrel
    have n1 := hp.1
    have n2 := hp.2.1
    by_cases hlt : k < xs.length
    · obtain ⟨g, o, rfl, hg, hc⟩ := h k hlt
      have i0 : (0 : Int) ≤ (k : Int) := by omega
      have i1 : (k : Int) < (xs.length : Int) := by omega
      have hx := h1 k hlt
      have nz : ¬ n = 0 := by omega
      have q0 : 0 ≤ 1000000000000000 / n := Int.ediv_nonneg (by omega) (by omega)
      have q1 : 1000000000000000 / n ≤ 1000000000000000 := Int.ediv_le_self _ (by omega)
      by_cases hov : 1000000000000000 / n < xs.getD k 0
      · obtain ⟨r1, r2, -⟩ := Num.limInv_over hp hlt hov
        have HB := Lib.hid r1
        have HB2 := Lib.hid r2
        clear hp r1 r2 h1
        generalize xs.getD k 0 = x at *
        go_wp2_with (fail)
        refine bodyPost_ret (v := .tuple #[.int .i64 0, .int .i64 3]) (by simp [results, Try.results145, go_sem]) rfl ?_
        rw [HB.out, HB2.out]
        exact ⟨rfl, rfl⟩
      · have hs := Num.limInv_step hp hlt hx hov
        have b1 := hs.1
        have b2 := hs.2.1
        have HP := Lib.hid hs
        clear hp hs h1
        generalize xs.getD k 0 = x at *
        go_wp2_with (fail)
        exact ⟨⟨n * x, k + 1, by omega, by go_num, by go_num, HP.out⟩, by simp [intOf]; omega⟩
    · have hge : ¬ ((k : Int) < (xs.length : Int)) := by omega
      obtain rfl : k = xs.length := by omega
      obtain ⟨r1, r2, -⟩ := Num.limInv_end hp
      have HB := Lib.hid r1
      have HB2 := Lib.hid r2
      clear r1 r2 hp h1
      go_wp2_with (fail)
      refine bodyPost_ret (v := .tuple #[.int .i64 n, .int .i64 0]) (by simp [results, Try.results145, go_sem]) rfl ?_
      rw [HB.out, HB2.out]
      exact ⟨rfl, rfl⟩

/-- The greatest finite factor. -/
def Num.lastF (F : List Int) : Int := if F.length = 0 then 1 else F.getD (F.length - 1) 0
end Go.Proofs.Yteappjgdcbploaa
