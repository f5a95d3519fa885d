/- Contracts of the exported functions of chapter 1 that return numbers, of the program and of the model. -/
import Derived.Test.YtncpngmplddbkaaKB
import Derived.Deep.QuietTactic
import Derived.BigQuiet
namespace Go.Proofs.Ytncpngmplddbkaa
open Go.RowKit
set_option linter.unusedVariables false
set_option linter.unusedSimpArgs false

theorem removePrime_any (n p : Int) (w : World) (hp1 : 2 ≤ p) (hp2 : p ≤ 1000000) (hn1 : 1 ≤ n) (hn2 : n ≤ 1000000) :
    Calls Try.prog 78 #[.int .i64 n, .int .i64 p] w fun e w' => e = .returned (.tuple #[.int .i64 (Num.ve p n), .int .i64 (Num.vr p n)]) ∧ w = w' := by
  go_enter Try.func78, Try.ntmps78
  go_wp2
  go_loop [0, 6] (fun s0 s6 => ∃ c k : Int, s0 = .int .i64 c ∧ s6 = .int .i64 k ∧ Num.RemInv p n c k) (fun s0 _ => (intOf s0).toNat)
  case atStart => exact ⟨n, 0, rfl, rfl, Num.remInv_start hn1⟩
  case round =>
    obtain ⟨c, k, rfl, rfl, hi⟩ := hrel
    obtain ⟨b1, b2, b3⟩ := Num.remInv_bd hi
    by_cases hd : c % p = 0
    · obtain ⟨d1, d2, d3⟩ := Num.div_bd hp1 b1 hd
      have hs := Num.remInv_step hp1 hi hd
      have ht : (c % p == 0) = true := by simp [hd]
      clear d3 hd
      go_wp2
      exact ⟨⟨_, _, rfl, rfl, hs⟩, by simp [intOf]; omega⟩
    · have ht : (c % p == 0) = false := by simp [hd]
      obtain ⟨h1, h2⟩ := Num.remInv_end hp1 hi hd
      have H1 := Lib.hid h1
      have H2 := Lib.hid h2
      clear h1 h2
      go_wp2
      go_ret2
      exact ⟨ret_int2 H1.out H2.out, rfl⟩

/-! ### ModPower -/
def MpBad (x m : Int) : Prop := (m < 1 ∨ 1000000 < m) ∨ x < 0 ∨ 1000000 < x
/-! ### ModInverse, UnitOrder's ends, RationalMod, Bezout -/
end Go.Proofs.Ytncpngmplddbkaa
