/- Contracts of the exported functions of chapter 1 that return numbers, of the program and of the model. -/
import Derived.Test.YtkgiffmnhpbpiaaL01B
import Derived.Test.YtkgiffmnhpbpiaaL01C
import Derived.Deep.QuietTactic
import Derived.BigQuiet
namespace Go.Proofs.Ytkgiffmnhpbpiaa
open Go.RowKit
set_option linter.unusedVariables false
set_option linter.unusedSimpArgs false

theorem field_value (a m : Int) (w : World) : (Instr.field 45 (.agg #[.int .i64 a, .int .i64 m]) 0).run Try.prog w = .ok (.int .i64 a) w := by kernel_rfl

theorem removePrime_any (n p : Int) (w : World) (hp1 : 2 ≤ p) (hp2 : p ≤ 1000000) (hn1 : 1 ≤ n) (hn2 : n ≤ 1000000) :
    Calls Try.prog 41 #[.int .i64 n, .int .i64 p] w fun e w' => e = .returned (.tuple #[.int .i64 (Num.ve p n), .int .i64 (Num.vr p n)]) ∧ w = w' := by
  go_enter Try.func41, Try.ntmps41
  go_wp2
  go_loop [0, 6] (fun s0 s6 => ∃ c k : Int, s0 = .int .i64 c ∧ s6 = .int .i64 k ∧ Num.RemInv p n c k) (fun s0 _ => (intOf s0).toNat)
  case atStart => exact ⟨n, 0, rfl, rfl, Num.remInv_start hn1⟩
  case round =>
    obtain ⟨c, k, rfl, rfl, hi⟩ := hrel
    obtain ⟨b1, b2, b3⟩ := Num.remInv_bd hi
    by_cases hd : c % p = 0
    · obtain ⟨d1, d2, d3⟩ := Num.div_bd hp1 b1 hd
      have hs := Num.remInv_step hp1 hi hd
      have ht : (c % p == 0) = true := by simp [hd]
      clear d3 hd
      go_wp2
      exact ⟨⟨_, _, rfl, rfl, hs⟩, by simp [intOf]; omega⟩
    · have ht : (c % p == 0) = false := by simp [hd]
      obtain ⟨h1, h2⟩ := Num.remInv_end hp1 hi hd
      have H1 := Lib.hid h1
      have H2 := Lib.hid h2
      clear h1 h2
      go_wp2
      go_ret2
      exact ⟨ret_int2 H1.out H2.out, rfl⟩

theorem primePart_ok (n p : Int) (w : World) (hn1 : 1 ≤ n) (hn2 : n ≤ 1000000) (hp : Num.gp p = true) :
    Calls Try.prog 19 #[.int .i64 n, .int .i64 p] w fun e w' => e = .returned (.tuple #[.int .i64 (Num.pp p n), .int .i64 0]) ∧ w = w' := by
  obtain ⟨p1, p2⟩ := Num.gp_bd hp
  obtain ⟨v1, v2⟩ := Num.vr_bd (p := p) p1 hn1
  have HD := Lib.hid (Num.div_vr (p := p) p1 hn1)
  obtain ⟨q1, q2⟩ := Num.pp_bd (p := p) p1 hn1
  have q3 : 1 ≤ n / Num.vr p n ∧ n / Num.vr p n ≤ n := by rw [HD.out]; exact ⟨q1, q2⟩
  obtain ⟨q4, q5⟩ := q3
  go_enter Try.func19, Try.ntmps19
  go_wp2_with (first | (go_at_call 40; refine (isNumber_yes _ _ hn1 hn2).mono ?_; rintro e w' ⟨rfl, rfl⟩) | (go_at_call 20; refine (gp_yes _ _ hp).mono ?_; rintro e w' ⟨rfl, rfl⟩) | (go_at_call 41; refine (removePrime_any _ _ _ p1 (by omega) hn1 hn2).mono ?_; rintro e w' ⟨rfl, rfl⟩))
  go_ret2
  exact ⟨ret_int2 HD.out rfl, rfl⟩
theorem primePart_bad (n p : Int) (w : World) (h : (n < 1 ∨ 1000000 < n) ∨ Num.gp p = false) :
    Calls Try.prog 19 #[.int .i64 n, .int .i64 p] w fun e w' => e = .returned (.tuple #[.int .i64 0, .int .i64 2]) ∧ w = w' := by
  by_cases hn : n < 1 ∨ 1000000 < n
  · clear h
    go_enter Try.func19, Try.ntmps19
    go_wp2_with (go_at_call 40; refine (isNumber_no _ _ hn).mono ?_; rintro e w' ⟨rfl, rfl⟩)
    go_ret2
    exact ⟨rfl, rfl⟩
  · have hp : Num.gp p = false := h.resolve_left hn
    clear h
    have hn1 : 1 ≤ n := by omega
    have hn2 : n ≤ 1000000 := by omega
    clear hn
    have HP := Lib.hid hp
    clear hp
    go_enter Try.func19, Try.ntmps19
    go_wp2_with (first | (go_at_call 40; refine (isNumber_yes _ _ hn1 hn2).mono ?_; rintro e w' ⟨rfl, rfl⟩) | (go_at_call 20; refine (gp_no _ _ HP.out).mono ?_; rintro e w' ⟨rfl, rfl⟩))
    go_ret2
    exact ⟨rfl, rfl⟩
theorem sPrimePart_ok (n p : Int) (w : World) (hn1 : 1 ≤ n) (hn2 : n ≤ 1000000) (hp : Num.gp p = true) :
    Calls Try.prog 30 #[.int .i64 n, .int .i64 p] w fun e w' => e = .returned (.tuple #[.int .i64 (Num.pp p n), .int .i64 0]) ∧ w = w' := by
  obtain ⟨p1, p2⟩ := Num.gp_bd hp
  go_enter Try.func30, Try.ntmps30
  go_wp2_with (first | (go_at_call 42; refine (sIn_yes _ _ _ _ hn1 hn2).mono ?_; rintro e w' ⟨rfl, rfl⟩) | (go_at_call 53; refine (sPrime_yes _ _ hp).mono ?_; rintro e w' ⟨rfl, rfl⟩) | (go_at_call 54; refine (sPart_any _ _ _ p1 (by omega) hn1 hn2).mono ?_; rintro e w' ⟨rfl, rfl⟩))
  go_ret2
  exact ⟨rfl, rfl⟩
theorem sPrimePart_bad (n p : Int) (w : World) (h : (n < 1 ∨ 1000000 < n) ∨ Num.gp p = false) :
    Calls Try.prog 30 #[.int .i64 n, .int .i64 p] w fun e w' => e = .returned (.tuple #[.int .i64 0, .int .i64 2]) ∧ w = w' := by
  by_cases hn : n < 1 ∨ 1000000 < n
  · clear h
    go_enter Try.func30, Try.ntmps30
    go_wp2_with (go_at_call 42; refine (sIn_no _ _ _ _ hn).mono ?_; rintro e w' ⟨rfl, rfl⟩)
    go_ret2
    exact ⟨rfl, rfl⟩
  · have hp : Num.gp p = false := h.resolve_left hn
    clear h
    have hn1 : 1 ≤ n := by omega
    have hn2 : n ≤ 1000000 := by omega
    clear hn
    have HP := Lib.hid hp
    clear hp
    go_enter Try.func30, Try.ntmps30
    go_wp2_with (first | (go_at_call 42; refine (sIn_yes _ _ _ _ hn1 hn2).mono ?_; rintro e w' ⟨rfl, rfl⟩) | (go_at_call 53; refine (sPrime_no _ _ HP.out).mono ?_; rintro e w' ⟨rfl, rfl⟩))
    go_ret2
    exact ⟨rfl, rfl⟩

/-! ### ModPower -/
def MpBad (x m : Int) : Prop := (m < 1 ∨ 1000000 < m) ∨ x < 0 ∨ 1000000 < x
theorem modPower_ok (b x m : Int) (w : World) (hm1 : 1 ≤ m) (hm2 : m ≤ 1000000) (hx1 : 0 ≤ x) (hx2 : x ≤ 1000000) :
    Calls Try.prog 18 #[.int .i64 b, .int .i64 x, .int .i64 m] w fun e w' => e = .returned (.tuple #[.int .i64 (b ^ x.toNat % m), .int .i64 0]) ∧ Below w.heap.size w w' := by
  obtain ⟨v0, v1⟩ := Num.mod_bd b (m := m) (by omega)
  have HP := Lib.hid (Num.pow_mod b m x.toNat)
  have hfd := field_value ((b % m) ^ x.toNat % m) m
  have t1 : decide (x < 0) = false := by simp; omega
  have t2 : decide (1000000 < x) = false := by simp; omega
  go_enter Try.func18, Try.ntmps18
  go_wp2_with (go_at_call 40; refine (isNumber_yes _ _ hm1 hm2).mono ?_; rintro e w' ⟨rfl, rfl⟩)
  refine (residueOf_any _ _ _ hm1 hm2).mono ?_
  rintro e w1 ⟨rfl, hb1⟩
  go_wp2_with (fail)
  refine (power_any _ _ _ _ v0 v1 hm2 hx1 hx2).mono ?_
  rintro e w2 ⟨rfl, hb2⟩
  go_wp2
  go_ret2
  exact ⟨ret_int2 HP.out rfl, hb1.trans (hb2.mono hb1.size)⟩
theorem modPower_bad (b x m : Int) (w : World) (h : MpBad x m) :
    Calls Try.prog 18 #[.int .i64 b, .int .i64 x, .int .i64 m] w fun e w' => e = .returned (.tuple #[.int .i64 0, .int .i64 2]) ∧ w = w' := by
  by_cases hn : m < 1 ∨ 1000000 < m
  · clear h
    go_enter Try.func18, Try.ntmps18
    go_wp2_with (go_at_call 40; refine (isNumber_no _ _ hn).mono ?_; rintro e w' ⟨rfl, rfl⟩)
    go_ret2
    exact ⟨rfl, rfl⟩
  · have hx := h.resolve_left hn
    clear h
    have hm1 : 1 ≤ m := by omega
    have hm2 : m ≤ 1000000 := by omega
    clear hn
    by_cases h0 : x < 0
    · clear hx
      go_enter Try.func18, Try.ntmps18
      go_wp2_with (go_at_call 40; refine (isNumber_yes _ _ hm1 hm2).mono ?_; rintro e w' ⟨rfl, rfl⟩)
      go_ret2
      exact ⟨rfl, rfl⟩
    · have h1 : 1000000 < x := hx.resolve_left h0
      have t1 : decide (x < 0) = false := by simp; omega
      clear hx h0
      go_enter Try.func18, Try.ntmps18
      go_wp2_with (go_at_call 40; refine (isNumber_yes _ _ hm1 hm2).mono ?_; rintro e w' ⟨rfl, rfl⟩)
      go_ret2
      exact ⟨rfl, rfl⟩
theorem sModPower_ok (b x m : Int) (w : World) (hm1 : 1 ≤ m) (hm2 : m ≤ 1000000) (hx1 : 0 ≤ x) (hx2 : x ≤ 1000000) :
    Calls Try.prog 31 #[.int .i64 b, .int .i64 x, .int .i64 m] w fun e w' => e = .returned (.tuple #[.int .i64 (b ^ x.toNat % m), .int .i64 0]) ∧ w = w' := by
  obtain ⟨v0, v1⟩ := Num.mod_bd b (m := m) (by omega)
  have HP := Lib.hid (Num.pow_mod b m x.toNat)
  go_enter Try.func31, Try.ntmps31
  go_wp2_with (first | (go_at_call 42; refine (sIn_yes _ _ _ _ (by assumption) (by assumption)).mono ?_; rintro e w' ⟨rfl, rfl⟩) | (go_at_call 46; refine (sMod_any _ _ _ hm1 hm2).mono ?_; rintro e w' ⟨rfl, rfl⟩) | (go_at_call 55; refine (sPower_any _ _ _ _ v0 v1 hm2 hx1 hx2).mono ?_; rintro e w' ⟨rfl, rfl⟩))
  go_ret2
  exact ⟨ret_int2 HP.out rfl, rfl⟩
theorem sModPower_bad (b x m : Int) (w : World) (h : MpBad x m) :
    Calls Try.prog 31 #[.int .i64 b, .int .i64 x, .int .i64 m] w fun e w' => e = .returned (.tuple #[.int .i64 0, .int .i64 2]) ∧ w = w' := by
  by_cases hn : m < 1 ∨ 1000000 < m
  · clear h
    go_enter Try.func31, Try.ntmps31
    go_wp2_with (go_at_call 42; refine (sIn_no _ _ _ _ hn).mono ?_; rintro e w' ⟨rfl, rfl⟩)
    go_ret2
    exact ⟨rfl, rfl⟩
  · have hx := h.resolve_left hn
    clear h
    have hm1 : 1 ≤ m := by omega
    have hm2 : m ≤ 1000000 := by omega
    clear hn
    go_enter Try.func31, Try.ntmps31
    go_wp2_with (first | (go_at_call 42; ((with_reducible refine (sIn_yes _ _ _ _ hm1 hm2).mono ?_); rintro e w' ⟨rfl, rfl⟩)) | (go_at_call 42; ((with_reducible refine (sIn_no _ _ _ _ hx).mono ?_); rintro e w' ⟨rfl, rfl⟩)))
    go_ret2
    exact ⟨rfl, rfl⟩

/-! ### ModInverse, UnitOrder's ends, RationalMod, Bezout -/
theorem modInverse_ok (a m : Int) (w : World) (hm1 : 1 ≤ m) (hm2 : m ≤ 1000000) (hg : Int.gcd (a % m) m = 1) :
    Calls Try.prog 22 #[.int .i64 a, .int .i64 m] w fun e w' => e = .returned (.tuple #[.int .i64 (Num.bez (a % m) m), .int .i64 0]) ∧ Below w.heap.size w w' := by
  obtain ⟨v0, v1⟩ := Num.mod_bd a (m := m) (by omega)
  have HG := Lib.hid hg
  clear hg
  go_enter Try.func22, Try.ntmps22
  go_wp2_with (go_at_call 40; refine (isNumber_yes _ _ hm1 hm2).mono ?_; rintro e w' ⟨rfl, rfl⟩)
  refine (residueOf_any _ _ _ hm1 hm2).mono ?_
  rintro e w1 ⟨rfl, hb1⟩
  go_wp2_with (fail)
  refine (inverse_yes _ _ _ v0 v1 hm2 HG.out).mono ?_
  rintro e w2 ⟨rfl, hb2⟩
  go_wp2
  go_ret2
  exact ⟨rfl, (hb1.trans (hb2.mono hb1.size)).alloc (by have := hb1.size; have := hb2.size; omega) _⟩
theorem modInverse_none (a m : Int) (w : World) (hm1 : 1 ≤ m) (hm2 : m ≤ 1000000) (hg : Int.gcd (a % m) m ≠ 1) :
    Calls Try.prog 22 #[.int .i64 a, .int .i64 m] w fun e w' => e = .returned (.tuple #[.int .i64 0, .int .i64 4]) ∧ Below w.heap.size w w' := by
  obtain ⟨v0, v1⟩ := Num.mod_bd a (m := m) (by omega)
  have HG := Lib.hid hg
  clear hg
  go_enter Try.func22, Try.ntmps22
  go_wp2_with (go_at_call 40; refine (isNumber_yes _ _ hm1 hm2).mono ?_; rintro e w' ⟨rfl, rfl⟩)
  refine (residueOf_any _ _ _ hm1 hm2).mono ?_
  rintro e w1 ⟨rfl, hb1⟩
  go_wp2_with (fail)
  refine (inverse_no _ _ _ v0 v1 hm2 HG.out).mono ?_
  rintro e w2 ⟨rfl, hb2⟩
  go_wp2
  go_ret2
  exact ⟨rfl, (hb1.trans (hb2.mono hb1.size)).alloc (by have := hb1.size; have := hb2.size; omega) _⟩
theorem modInverse_bad (a m : Int) (w : World) (hn : m < 1 ∨ 1000000 < m) :
    Calls Try.prog 22 #[.int .i64 a, .int .i64 m] w fun e w' => e = .returned (.tuple #[.int .i64 0, .int .i64 2]) ∧ w = w' := by
  go_enter Try.func22, Try.ntmps22
  go_wp2_with (go_at_call 40; refine (isNumber_no _ _ hn).mono ?_; rintro e w' ⟨rfl, rfl⟩)
  go_ret2
  exact ⟨rfl, rfl⟩
theorem sModInverse_ok (a m : Int) (w : World) (hm1 : 1 ≤ m) (hm2 : m ≤ 1000000) (hg : Int.gcd (a % m) m = 1) :
    Calls Try.prog 23 #[.int .i64 a, .int .i64 m] w fun e w' => e = .returned (.tuple #[.int .i64 (Num.bez (a % m) m), .int .i64 0]) ∧ w = w' := by
  obtain ⟨v0, v1⟩ := Num.mod_bd a (m := m) (by omega)
  have ht : ((Int.gcd (a % m) m : Int) == 1) = true := by simp [hg]
  clear hg
  go_enter Try.func23, Try.ntmps23
  go_wp2_with (first | (go_at_call 42; refine (sIn_yes _ _ _ _ hm1 hm2).mono ?_; rintro e w' ⟨rfl, rfl⟩) | (go_at_call 46; refine (sMod_any _ _ _ hm1 hm2).mono ?_; rintro e w' ⟨rfl, rfl⟩) | (go_at_call 47; refine (sGcd_any _ _ _ v0 (by omega) (by omega) hm2).mono ?_; rintro e w' ⟨rfl, rfl⟩) | (go_at_call 48; refine (sBezout_any _ _ _ v0 v1 hm2).mono ?_; rintro e w' ⟨rfl, rfl⟩))
  go_ret2
  exact ⟨rfl, rfl⟩
theorem sModInverse_none (a m : Int) (w : World) (hm1 : 1 ≤ m) (hm2 : m ≤ 1000000) (hg : Int.gcd (a % m) m ≠ 1) :
    Calls Try.prog 23 #[.int .i64 a, .int .i64 m] w fun e w' => e = .returned (.tuple #[.int .i64 0, .int .i64 4]) ∧ w = w' := by
  obtain ⟨v0, v1⟩ := Num.mod_bd a (m := m) (by omega)
  have ht : ((Int.gcd (a % m) m : Int) == 1) = false := by simp; omega
  clear hg
  go_enter Try.func23, Try.ntmps23
  go_wp2_with (first | (go_at_call 42; refine (sIn_yes _ _ _ _ hm1 hm2).mono ?_; rintro e w' ⟨rfl, rfl⟩) | (go_at_call 46; refine (sMod_any _ _ _ hm1 hm2).mono ?_; rintro e w' ⟨rfl, rfl⟩) | (go_at_call 47; refine (sGcd_any _ _ _ v0 (by omega) (by omega) hm2).mono ?_; rintro e w' ⟨rfl, rfl⟩))
  go_ret2
  exact ⟨rfl, rfl⟩
theorem sModInverse_bad (a m : Int) (w : World) (hn : m < 1 ∨ 1000000 < m) :
    Calls Try.prog 23 #[.int .i64 a, .int .i64 m] w fun e w' => e = .returned (.tuple #[.int .i64 0, .int .i64 2]) ∧ w = w' := by
  go_enter Try.func23, Try.ntmps23
  go_wp2_with (go_at_call 42; refine (sIn_no _ _ _ _ hn).mono ?_; rintro e w' ⟨rfl, rfl⟩)
  go_ret2
  exact ⟨rfl, rfl⟩
end Go.Proofs.Ytkgiffmnhpbpiaa
