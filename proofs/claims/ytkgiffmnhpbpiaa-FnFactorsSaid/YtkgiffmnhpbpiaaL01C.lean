/- Contracts of the model's functions of chapter 1 that only compute: the world stays as it is. -/
import Derived.Test.YtkgiffmnhpbpiaaNumB
import Derived.Test.YtkgiffmnhpbpiaaL01A
import Derived.Deep.QuietTactic
import Derived.BigQuiet
import Derived.Lib.Hide
namespace Go.Proofs.Ytkgiffmnhpbpiaa
open Go.RowKit
set_option linter.unusedVariables false
set_option linter.unusedSimpArgs false

theorem sIn_yes (n l h : Int) (w : World) (h1 : l ≤ n) (h2 : n ≤ h) :
    Calls Try.prog 42 #[.int .i64 n, .int .i64 l, .int .i64 h] w fun e w' => e = .returned (.bool true) ∧ w = w' := by
  go_enter Try.func42, Try.ntmps42
  go_wp2
  go_ret
  exact ⟨rfl, rfl⟩
theorem sIn_no (n l h : Int) (w : World) (h1 : n < l ∨ h < n) :
    Calls Try.prog 42 #[.int .i64 n, .int .i64 l, .int .i64 h] w fun e w' => e = .returned (.bool false) ∧ w = w' := by
  by_cases h3 : l ≤ n
  · have h2 : decide (n ≤ h) = false := by simp; omega
    clear h1
    go_enter Try.func42, Try.ntmps42
    go_wp2
    go_ret
    exact ⟨rfl, rfl⟩
  · clear h1
    go_enter Try.func42, Try.ntmps42
    go_wp2
    go_ret
    exact ⟨rfl, rfl⟩
theorem sPrime_any (n : Int) (w : World) :
    Calls Try.prog 53 #[.int .i64 n] w fun e w' => e = .returned (.bool (Num.gp n)) ∧ w = w' := by
  by_cases h2 : n = 2
  · subst h2; go_enter Try.func53, Try.ntmps53; go_wp2; go_ret; exact ⟨rfl, rfl⟩
  by_cases h3 : n = 3
  · subst h3; go_enter Try.func53, Try.ntmps53; go_wp2; go_ret; exact ⟨rfl, rfl⟩
  by_cases h5 : n = 5
  · subst h5; go_enter Try.func53, Try.ntmps53; go_wp2; go_ret; exact ⟨rfl, rfl⟩
  by_cases h7 : n = 7
  · subst h7; go_enter Try.func53, Try.ntmps53; go_wp2; go_ret; exact ⟨rfl, rfl⟩
  rw [Num.gp_mk' h2 h3 h5 h7]
  have e2 : (n == 2) = false := by simpa using h2
  have e3 : (n == 3) = false := by simpa using h3
  have e5 : (n == 5) = false := by simpa using h5
  have e7 : (n == 7) = false := by simpa using h7
  clear h2 h3 h5 h7
  go_enter Try.func53, Try.ntmps53
  go_wp2
  go_ret
  exact ⟨rfl, rfl⟩
theorem sPrime_yes (n : Int) (w : World) (h : Num.gp n = true) :
    Calls Try.prog 53 #[.int .i64 n] w fun e w' => e = .returned (.bool true) ∧ w = w' := by
  have := sPrime_any n w; rwa [h] at this
theorem sPrime_no (n : Int) (w : World) (h : Num.gp n = false) :
    Calls Try.prog 53 #[.int .i64 n] w fun e w' => e = .returned (.bool false) ∧ w = w' := by
  have := sPrime_any n w; rwa [h] at this
theorem sGp_any (n : Int) (w : World) :
    Calls Try.prog 26 #[.int .i64 n] w fun e w' => e = .returned (.bool (Num.gp n)) ∧ w = w' := by
  go_enter Try.func26, Try.ntmps26
  go_wp2_with (go_at_call 53; refine (sPrime_any _ _).mono ?_; rintro e w' ⟨rfl, rfl⟩)
  go_ret
  exact ⟨rfl, rfl⟩
theorem sMod_any (a m : Int) (w : World) (h1 : 1 ≤ m) (h2 : m ≤ 1000000) :
    Calls Try.prog 46 #[.int .i64 a, .int .i64 m] w fun e w' => e = .returned (.int .i64 (a % m)) ∧ w = w' := by
  have ⟨b1, b2⟩ := Num.mod_bd a (m := m) (by omega)
  by_cases h : 0 ≤ a
  · go_enter Try.func46, Try.ntmps46
    go_wp2
    go_ret
    exact ⟨rfl, rfl⟩
  · have ⟨b3, b4⟩ := Num.tmod_bd a (m := m) (by omega)
    by_cases h' : a.tmod m < 0
    · rw [Num.tmod_neg (by omega) h'] at *
      go_enter Try.func46, Try.ntmps46
      go_wp2
      go_ret
      exact ⟨rfl, rfl⟩
    · rw [Num.tmod_pos (by omega) (by omega)] at *
      go_enter Try.func46, Try.ntmps46
      go_wp2
      go_ret
      exact ⟨rfl, rfl⟩
theorem sGcd_any (a b : Int) (w : World) (ha0 : 0 ≤ a) (ha1 : a ≤ 1000000) (hb0 : 0 ≤ b) (hb1 : b ≤ 1000000) :
    Calls Try.prog 47 #[.int .i64 a, .int .i64 b] w fun e w' => e = .returned (.int .i64 (Int.gcd a b)) ∧ w = w' := by
  go_enter Try.func47, Try.ntmps47
  go_wp2
  go_loop [0, 1] (fun x y => ∃ c d : Int, x = .int .i64 c ∧ y = .int .i64 d ∧ 0 ≤ c ∧ c ≤ 1000000 ∧ 0 ≤ d ∧ d ≤ 1000000 ∧ Int.gcd c d = Int.gcd a b) (fun _ y => (intOf y).toNat)
  case atStart => exact ⟨a, b, rfl, rfl, ha0, ha1, hb0, hb1, rfl⟩
  case round =>
    obtain ⟨c, d, rfl, rfl, hc0, hc1, hd0, hd1, hg⟩ := hrel
    have HG := Lib.hid hg
    clear hg
    by_cases hd : d = 0
    · subst hd
      have hg : Hid (c = Int.gcd a b) := Lib.hid (by rw [← HG.out, Int.gcd_zero_right]; omega)
      go_wp2
      go_ret
      exact ⟨ret_int hg.out, rfl⟩
    · obtain ⟨m1, m2⟩ := Num.mod_bd c (m := d) (by omega)
      have HG' : Hid (Int.gcd d (c % d) = Int.gcd a b) := Lib.hid (by rw [Num.gcd_step]; exact HG.out)
      have hp : 0 < d := by omega
      go_wp2
      exact ⟨⟨d, c % d, rfl, rfl, hd0, hd1, by omega, by omega, HG'.out⟩, by simp [intOf]; omega⟩
theorem sBezout_any (v m : Int) (w : World) (h0 : 0 ≤ v) (h1 : v < m) (h2 : m ≤ 1000000) :
    Calls Try.prog 48 #[.int .i64 v, .int .i64 m] w fun e w' => e = .returned (.int .i64 (Num.bez v m)) ∧ w = w' := by
  go_enter Try.func48, Try.ntmps48
  go_wp2
  go_loop [5, 6, 7, 8] (fun s4 s5 s6 s7 => ∃ d r x y : Int, s4 = .int .i64 d ∧ s5 = .int .i64 r ∧ s6 = .int .i64 x ∧ s7 = .int .i64 y ∧ Num.Eu v m d r x y) (fun _ s5 _ _ => (intOf s5).toNat)
  case atStart => exact ⟨m, v, 0, 1, rfl, rfl, rfl, rfl, Num.eu_start' h0 h1⟩
  case round =>
    obtain ⟨d, r, x, y, rfl, rfl, rfl, rfl, he⟩ := hrel
    have hd0 := he.d0
    have hr0 := he.r0
    have hdm := he.dm
    have hrm := he.rm
    have hxm : -m ≤ x ∧ x ≤ m := by have := he.xm; omega
    obtain ⟨hx1, hx2⟩ := hxm
    by_cases hr : r = 0
    · subst hr
      have hd1 := Num.eu_end he
      obtain ⟨g1, g2, g3⟩ := Num.gcd_div (v := v) (m := m) (by omega)
      rw [← hd1] at g1 g2 g3
      have HX := Lib.hid (Num.bez_eu' (v := v) (m := m) (x := x) (y := y) (by omega) (by rw [← hd1]; exact he))
      rw [← hd1] at HX
      clear he hd1
      go_wp2_with (go_at_call 46; refine (sMod_any _ _ _ g2 (by omega)).mono ?_; rintro e w' ⟨rfl, rfl⟩)
      go_ret
      exact ⟨ret_int HX.out, rfl⟩
    · obtain ⟨f1, f2, f3, f4, f5, f6, f7, f8⟩ := Num.eu_fits he (by omega)
      have hs := Num.eu_step he (by omega)
      have hlt : d - d / r * r < r := Num.eu_lt (by omega)
      have hs0 := hs.r0
      have hp : 0 < r := by omega
      go_wp2
      exact ⟨⟨r, _, y, _, rfl, rfl, rfl, rfl, hs⟩, by simp [intOf]; omega⟩
theorem sPart_any (n p : Int) (w : World) (hp1 : 2 ≤ p) (hp2 : p ≤ 1000000) (hn1 : 1 ≤ n) (hn2 : n ≤ 1000000) :
    Calls Try.prog 54 #[.int .i64 n, .int .i64 p] w fun e w' => e = .returned (.int .i64 (Num.pp p n)) ∧ w = w' := by
  go_enter Try.func54, Try.ntmps54
  go_wp2
  go_loop [0, 5] (fun s0 s5 => ∃ c o : Int, s0 = .int .i64 c ∧ s5 = .int .i64 o ∧ Num.PartInv p n c o) (fun s0 _ => (intOf s0).toNat)
  case atStart => exact ⟨n, 1, rfl, rfl, Num.partInv_start hn1⟩
  case round =>
    obtain ⟨c, o, rfl, rfl, hi⟩ := hrel
    obtain ⟨b1, b2, b3, b4⟩ := Num.partInv_bd hi
    by_cases hd : c % p = 0
    · obtain ⟨d1, d2, d3⟩ := Num.div_bd hp1 b1 hd
      have hs := Num.partInv_step hp1 hi hd
      obtain ⟨e1, e2, e3, e4⟩ := Num.partInv_bd hs
      have D3 := Lib.hid d3
      have ht : (c % p == 0) = true := by simp [hd]
      clear d3 hd
      go_wp2
      exact ⟨⟨_, _, rfl, rfl, hs⟩, by simp [intOf]; omega⟩
    · have ht : (c % p == 0) = false := by simp [hd]
      have HE := Lib.hid (Num.partInv_end hp1 hi hd)
      go_wp2
      go_ret
      exact ⟨ret_int HE.out, rfl⟩
theorem sPower_any (v n m : Int) (w : World) (hv0 : 0 ≤ v) (hv1 : v < m) (h2 : m ≤ 1000000) (hn0 : 0 ≤ n) (hn1 : n ≤ 1000000) :
    Calls Try.prog 55 #[.int .i64 v, .int .i64 n, .int .i64 m] w fun e w' => e = .returned (.int .i64 (v ^ n.toNat % m)) ∧ w = w' := by
  go_enter Try.func55, Try.ntmps55
  go_wp2
  go_loop [0, 1, 7] (fun s0 s1 s7 => ∃ b e r : Int, s0 = .int .i64 b ∧ s1 = .int .i64 e ∧ s7 = .int .i64 r ∧ Num.PowInv v n m r b e) (fun _ s1 _ => (intOf s1).toNat)
  case atStart => exact ⟨v, n, 1 % m, rfl, rfl, rfl, Num.powInv_start hv0 hv1 hn0⟩
  case round =>
    obtain ⟨b, e, r, rfl, rfl, rfl, hinv⟩ := hrel
    obtain ⟨r0, r1, b0, b1, e0, e1⟩ := Num.powInv_bd hinv
    obtain ⟨x1, x2⟩ := Num.mul_fits r0 r1 b0 b1 h2
    obtain ⟨x3, x4⟩ := Num.mul_fits b0 b1 b0 b1 h2
    by_cases he : e = 0
    · subst he
      have hr := Lib.hid (Num.powInv_end hinv)
      go_wp2
      go_ret
      exact ⟨ret_int hr.out, rfl⟩
    · have hp : 0 < e := by omega
      by_cases hodd : e % 2 = 1
      · have H1 := Lib.hid (Num.powInv_odd hinv hp hodd)
        go_wp2
        exact ⟨⟨_, _, _, rfl, rfl, rfl, H1.out⟩, by simp [intOf]; omega⟩
      · have H1 := Lib.hid (Num.powInv_even hinv hp hodd)
        have hodd' : (e % 2 == 1) = false := by simpa using hodd
        go_wp2
        exact ⟨⟨_, _, _, rfl, rfl, rfl, H1.out⟩, by simp [intOf]; omega⟩
theorem sInv_any (a p : Int) (w : World) (hp : Num.gp p = true) (h0 : a % p ≠ 0) :
    Calls Try.prog 56 #[.int .i64 a, .int .i64 p] w fun e w' => e = .returned (.int .i64 (Num.bez (a % p) p)) ∧ w = w' := by
  obtain ⟨p1, p2⟩ := Num.gp_bd hp
  obtain ⟨v0, v1⟩ := Num.mod_bd a (m := p) (by omega)
  go_enter Try.func56, Try.ntmps56
  go_wp2
  go_loop [5] (fun s5 => ∃ x : Int, s5 = .int .i64 x ∧ 1 ≤ x ∧ x ≤ p ∧ ∀ y, 1 ≤ y → y < x → a % p * y % p ≠ 1) (fun s5 => (p - intOf s5).toNat)
  case atStart => exact ⟨1, rfl, by omega, by omega, fun y h1 h2 => by omega⟩
  case round =>
    obtain ⟨x, rfl, x1, x2, hy⟩ := hrel
    have HY := Lib.hid hy
    clear hy
    by_cases hx : x = p
    · exfalso
      obtain ⟨z1, z2, z3⟩ := Num.bez_inv v0 v1 (Num.gp_gcd hp (by omega) v1)
      have : Num.bez (a % p) p ≠ 0 := by
        intro h
        rw [h] at z3
        simp at z3
        have := Int.emod_eq_of_lt (a := 1) (b := p) (by omega) (by omega)
        omega
      exact HY.out (Num.bez (a % p) p) (by omega) (by omega) (by rw [z3]; exact Int.emod_eq_of_lt (by omega) (by omega))
    · have hlt : x < p := by omega
      obtain ⟨x3, x4⟩ := Num.mul_fits v0 v1 (by omega : 0 ≤ x) hlt (by omega)
      by_cases ht : a % p * x % p = 1
      · have HB := Lib.hid (Num.bez_is (v := a % p) (m := p) (x := x) (by omega) (Num.gp_gcd hp (by omega) v1) (by omega) hlt (by rw [ht]; exact (Int.emod_eq_of_lt (by omega) (by omega)).symm))
        have ht' : (a % p * x % p == 1) = true := by simp [ht]
        clear ht
        go_wp2_with (go_at_call 46; refine (sMod_any _ _ _ (by omega) (by omega)).mono ?_; rintro e w' ⟨rfl, rfl⟩)
        go_ret
        exact ⟨ret_int HB.out.symm, rfl⟩
      · have ht' : (a % p * x % p == 1) = false := by simp [ht]
        have HT := Lib.hid ht
        clear ht
        go_wp2_with (go_at_call 46; refine (sMod_any _ _ _ (by omega) (by omega)).mono ?_; rintro e w' ⟨rfl, rfl⟩)
        refine ⟨⟨x + 1, rfl, by omega, by omega, fun y h1 h2 => ?_⟩, by simp [intOf]; omega⟩
        by_cases hyx : y = x
        · rw [hyx]; exact HT.out
        · exact HY.out y h1 (by omega)
end Go.Proofs.Ytkgiffmnhpbpiaa
