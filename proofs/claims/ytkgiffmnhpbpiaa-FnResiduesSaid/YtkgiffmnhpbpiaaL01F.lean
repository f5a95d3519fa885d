/- Contracts of the model's Bezout, and of RationalMod of both; then the walks of five laws of chapter 1. -/
import Derived.Test.YtkgiffmnhpbpiaaL01E
import Derived.Handy
namespace Go.Proofs.Ytkgiffmnhpbpiaa
open Go.RowKit
set_option linter.unusedVariables false
set_option linter.unusedSimpArgs false

theorem sBezoutF_ok (a b : Int) (w : World) (h1 : -1000000 ≤ a) (h2 : a ≤ 1000000) (h3 : -1000000 ≤ b) (h4 : b ≤ 1000000) (hb : b ≠ 0) :
    Calls Try.prog 33 #[.int .i64 a, .int .i64 b] w fun e w' => e = .returned (.tuple #[.int .i64 (Int.gcd a b), .int .i64 (Num.bez (a % b.natAbs) b.natAbs), .int .i64 (third (Int.gcd a b) a (Num.bez (a % b.natAbs) b.natAbs) b), .int .i64 0]) ∧ Below w.heap.size w w' := by
  have hb0 : (b == 0) = false := by simpa using hb
  have hM : (0 : Int) < b.natAbs := by omega
  obtain ⟨v0, v1⟩ := Num.mod_bd a hM
  have hgg : (Int.gcd (a % b.natAbs) b.natAbs : Int) = Int.gcd a b := by rw [Num.gcd_mod_abs]
  obtain ⟨s1, s2, s3⟩ := Num.bez_spec v0 v1
  obtain ⟨g1, g2, g3⟩ := Num.gcd_div (v := a % b.natAbs) hM
  rw [hgg] at g1 g2 g3 s2
  have g4 : (Int.gcd a b : Int) ≤ 1000000 := by
    have := Int.gcd_dvd_right a b
    have := Int.le_of_dvd hM (by rw [Int.dvd_natAbs]; exact this)
    omega
  clear s3 g2 g3
  have hM2 : (b.natAbs : Int) ≤ 1000000 := by omega
  have s2' : Num.bez (a % b.natAbs) b.natAbs ≤ 1000000 := by
    have : (b.natAbs : Int) / Int.gcd a b ≤ b.natAbs := Int.ediv_le_self _ (by omega)
    omega
  clear s2
  have hsplit : b = b.natAbs ∨ b = -b.natAbs := by omega
  generalize hN : (b.natAbs : Int) = M at *
  clear hN
  generalize hg : (Int.gcd a b : Int) = g at *
  generalize hx : Num.bez (a % M) M = x at *
  obtain ⟨x1, x2⟩ := Num.mul_signed (a := a) (x := x) (by omega) (by omega) (by omega) (by omega)
  obtain ⟨y1, y2⟩ := Num.tdiv_bd (g - a * x) b
  have HX : Hid (Num.bez (a % M) M = x) := Lib.hid hx
  have HG := Lib.hid hgg
  clear hg hx hgg
  rcases hsplit with hs | hs
  · subst hs
    have hp : 0 < b := by omega
    go_enter Try.func33, Try.ntmps33
    go_wp2_with (first | (go_at_call 42; ((with_reducible refine (sIn_yes _ _ _ _ (by omega) (by omega)).mono ?_); rintro e w' ⟨rfl, rfl⟩)) | (go_at_call 46; refine (sMod_any _ _ _ (by omega) (by omega)).mono ?_; rintro e w' ⟨rfl, rfl⟩) | (go_at_call 47; refine (sGcd_any _ _ _ v0 (by omega) (by omega) (by omega)).mono ?_; rw [HG.out]; rintro e w' ⟨rfl, rfl⟩) | (go_at_call 48; refine (sBezout_any _ _ _ v0 v1 (by omega)).mono ?_; rw [HX.out]; rintro e w' ⟨rfl, rfl⟩))
    have m1 : IntKind.i64.wrap (a * x) = a * x := IntWalk.i64_in _ (by omega)
    have m2 : IntKind.i64.wrap (g - a * x) = g - a * x := IntWalk.i64_in _ (by omega)
    have m3 : IntKind.i64.wrap ((g - a * x).tdiv b) = (g - a * x).tdiv b := IntWalk.i64_in _ (by omega)
    go_quiet (fail)
    go_wp2
    refine bodyPost_ret (v := .tuple #[.int .i64 g, .int .i64 x, .int .i64 ((g - a * x).tdiv b), .int .i64 0]) (by simp [results, Try.results33, go_sem]) rfl ⟨?_, below_drewN (Below.refl _ _) _⟩
    rfl
  · have hn : b < 0 := by omega
    have en : -b = M := by omega
    have HS := Lib.hid hs
    clear hs
    go_enter Try.func33, Try.ntmps33
    go_wp2_with (first | (go_at_call 42; ((with_reducible refine (sIn_yes _ _ _ _ (by omega) (by omega)).mono ?_); rintro e w' ⟨rfl, rfl⟩)) | (go_at_call 46; refine (sMod_any _ _ _ (by omega) (by omega)).mono ?_; rintro e w' ⟨rfl, rfl⟩) | (go_at_call 47; refine (sGcd_any _ _ _ v0 (by omega) (by omega) (by omega)).mono ?_; rw [HG.out]; rintro e w' ⟨rfl, rfl⟩) | (go_at_call 48; refine (sBezout_any _ _ _ v0 v1 (by omega)).mono ?_; rw [HX.out]; rintro e w' ⟨rfl, rfl⟩))
    have m1 : IntKind.i64.wrap (a * x) = a * x := IntWalk.i64_in _ (by omega)
    have m2 : IntKind.i64.wrap (g - a * x) = g - a * x := IntWalk.i64_in _ (by omega)
    have m3 : IntKind.i64.wrap ((g - a * x).tdiv b) = (g - a * x).tdiv b := IntWalk.i64_in _ (by omega)
    go_quiet (fail)
    go_wp2
    refine bodyPost_ret (v := .tuple #[.int .i64 g, .int .i64 x, .int .i64 ((g - a * x).tdiv b), .int .i64 0]) (by simp [results, Try.results33, go_sem]) rfl ⟨?_, below_drewN (Below.refl _ _) _⟩
    rfl
theorem rational_ok (n d p : Int) (w : World) (hn1 : -1000000 ≤ n) (hn2 : n ≤ 1000000) (hd1 : -1000000 ≤ d) (hd2 : d ≤ 1000000) (hp : Num.gp p = true) (h0 : d % p ≠ 0) :
    Calls Try.prog 35 #[.int .i64 n, .int .i64 d, .int .i64 p] w fun e w' => e = .returned (.tuple #[.int .i64 (n % p * Num.bez (d % p) p % p), .int .i64 0]) ∧ Below w.heap.size w w' := by
  obtain ⟨p1, p2⟩ := Num.gp_bd hp
  obtain ⟨v0, v1⟩ := Num.mod_bd d (m := p) (by omega)
  obtain ⟨u0, u1⟩ := Num.mod_bd n (m := p) (by omega)
  have HC := Lib.hid (Num.gp_gcd hp (v := d % p) (by omega) v1)
  obtain ⟨s1, s2, s3⟩ := Num.bez_inv v0 v1 HC.out
  clear s3
  have HM := Lib.hid (Int.mul_comm (n % p) (Num.bez (d % p) p))
  have HP := Lib.hid hp
  clear hp
  go_enter Try.func35, Try.ntmps35
  go_wp2_with (first | (go_at_call 50; ((with_reducible refine (isSigned_yes _ _ (by assumption) (by assumption)).mono ?_); rintro e w' ⟨rfl, rfl⟩)) | (go_at_call 20; refine (gp_yes _ _ HP.out).mono ?_; rintro e w' ⟨rfl, rfl⟩))
  refine (residueOf_any _ _ _ (by omega) (by omega)).mono ?_
  rintro e w1 ⟨rfl, hb1⟩
  go_wp2_with (fail)
  refine (inverse_yes _ _ _ v0 v1 (by omega) HC.out).mono ?_
  rintro e w2 ⟨rfl, hb2⟩
  have hfd := field_value (Num.bez (d % p) p * (n % p) % p) p
  go_wp2
  go_region_held3 (fun wx => wx.cell? ⟨w2.heap.size, 0, none⟩ = some (.int .i64 (Num.bez (d % p) p)) ∧ wx.cell? ⟨w2.heap.size, 1, none⟩ = some (.int .i64 p)) (first | go_keep | assumption)
    (first
      | (go_at_call 43; refine (residueOf_any _ _ _ (by omega) (by omega)).mono ?_; rintro e w3 ⟨rfl, hb3⟩; obtain ⟨hc3, hf3⟩ := bcell hb3; have S3 : w3.cell? ⟨w2.heap.size, 0, none⟩ = some (.int .i64 (Num.bez (d % p) p)) ∧ w3.cell? ⟨w2.heap.size, 1, none⟩ = some (.int .i64 p) := ⟨(by rw [hc3 _ _ (by simp)]; simp), (by rw [hc3 _ _ (by simp)]; simp)⟩)
      | (go_at_call 57; refine (times_any _ _ _ _ _ (by omega) (by omega) s1 s2 u0 u1).mono ?_; rintro e w4 ⟨rfl, hb4⟩; obtain ⟨hc4, hf4⟩ := bcell hb4; have zz := hb3.size; simp only [World.size_alloc, World.size_drew] at zz; have S4 : w4.cell? ⟨w2.heap.size, 0, none⟩ = some (.int .i64 (Num.bez (d % p) p)) ∧ w4.cell? ⟨w2.heap.size, 1, none⟩ = some (.int .i64 p) := ⟨(by rw [hc4 _ _ (by omega)]; exact S3.1), (by rw [hc4 _ _ (by omega)]; exact S3.2)⟩))
  have z1 := hb1.size
  have z2 := hb2.size
  have z3 := hb3.size
  have z4 := hb4.size
  simp only [World.size_alloc, World.size_drew] at z3
  go_wp2
  go_ret2
  exact ⟨ret_int2 (by rw [HM.out]) rfl, ((((hb1.trans (hb2.mono z1)).alloc (by omega) _).drew.trans (hb3.mono (by go_size))).trans (hb4.mono (by go_size)))⟩

def RmBad (n d p : Int) : Prop := (n < -1000000 ∨ 1000000 < n) ∨ (d < -1000000 ∨ 1000000 < d) ∨ Num.gp p = false
theorem rational_bad (n d p : Int) (w : World) (h : RmBad n d p) :
    Calls Try.prog 35 #[.int .i64 n, .int .i64 d, .int .i64 p] w fun e w' => e = .returned (.tuple #[.int .i64 0, .int .i64 2]) ∧ w = w' := by
  by_cases hn : n < -1000000 ∨ 1000000 < n
  · clear h
    go_enter Try.func35, Try.ntmps35
    go_wp2_with (go_at_call 50; ((with_reducible refine (isSigned_no _ _ hn).mono ?_); rintro e w' ⟨rfl, rfl⟩))
    go_ret2
    exact ⟨rfl, rfl⟩
  · have h' := h.resolve_left hn
    clear h
    have n1 : -1000000 ≤ n := by omega
    have n2 : n ≤ 1000000 := by omega
    clear hn
    by_cases hd : d < -1000000 ∨ 1000000 < d
    · clear h'
      go_enter Try.func35, Try.ntmps35
      go_wp2_with (first | (go_at_call 50; ((with_reducible refine (isSigned_yes _ _ n1 n2).mono ?_); rintro e w' ⟨rfl, rfl⟩)) | (go_at_call 50; ((with_reducible refine (isSigned_no _ _ hd).mono ?_); rintro e w' ⟨rfl, rfl⟩)))
      go_ret2
      exact ⟨rfl, rfl⟩
    · have HP := Lib.hid (h'.resolve_left hd)
      clear h'
      have d1 : -1000000 ≤ d := by omega
      have d2 : d ≤ 1000000 := by omega
      clear hd
      go_enter Try.func35, Try.ntmps35
      go_wp2_with (first | (go_at_call 50; ((with_reducible refine (isSigned_yes _ _ n1 n2).mono ?_); rintro e w' ⟨rfl, rfl⟩)) | (go_at_call 50; ((with_reducible refine (isSigned_yes _ _ d1 d2).mono ?_); rintro e w' ⟨rfl, rfl⟩)) | (go_at_call 20; refine (gp_no _ _ HP.out).mono ?_; rintro e w' ⟨rfl, rfl⟩))
      go_ret2
      exact ⟨rfl, rfl⟩
theorem sRational_bad (n d p : Int) (w : World) (h : RmBad n d p) :
    Calls Try.prog 34 #[.int .i64 n, .int .i64 d, .int .i64 p] w fun e w' => e = .returned (.tuple #[.int .i64 0, .int .i64 2]) ∧ w = w' := by
  by_cases hn : n < -1000000 ∨ 1000000 < n
  · clear h
    go_enter Try.func34, Try.ntmps34
    go_wp2_with (go_at_call 42; ((with_reducible refine (sIn_no _ _ _ _ hn).mono ?_); rintro e w' ⟨rfl, rfl⟩))
    go_ret2
    exact ⟨rfl, rfl⟩
  · have h' := h.resolve_left hn
    clear h
    have n1 : -1000000 ≤ n := by omega
    have n2 : n ≤ 1000000 := by omega
    clear hn
    by_cases hd : d < -1000000 ∨ 1000000 < d
    · clear h'
      go_enter Try.func34, Try.ntmps34
      go_wp2_with (first | (go_at_call 42; ((with_reducible refine (sIn_yes _ _ _ _ n1 n2).mono ?_); rintro e w' ⟨rfl, rfl⟩)) | (go_at_call 42; ((with_reducible refine (sIn_no _ _ _ _ hd).mono ?_); rintro e w' ⟨rfl, rfl⟩)))
      go_ret2
      exact ⟨rfl, rfl⟩
    · have HP := Lib.hid (h'.resolve_left hd)
      clear h'
      have d1 : -1000000 ≤ d := by omega
      have d2 : d ≤ 1000000 := by omega
      clear hd
      go_enter Try.func34, Try.ntmps34
      go_wp2_with (first | (go_at_call 42; ((with_reducible refine (sIn_yes _ _ _ _ n1 n2).mono ?_); rintro e w' ⟨rfl, rfl⟩)) | (go_at_call 42; ((with_reducible refine (sIn_yes _ _ _ _ d1 d2).mono ?_); rintro e w' ⟨rfl, rfl⟩)) | (go_at_call 53; refine (sPrime_no _ _ HP.out).mono ?_; rintro e w' ⟨rfl, rfl⟩))
      go_ret2
      exact ⟨rfl, rfl⟩
theorem rational_none (n d p : Int) (w : World) (hn1 : -1000000 ≤ n) (hn2 : n ≤ 1000000) (hd1 : -1000000 ≤ d) (hd2 : d ≤ 1000000) (hp : Num.gp p = true) (h0 : d % p = 0) :
    Calls Try.prog 35 #[.int .i64 n, .int .i64 d, .int .i64 p] w fun e w' => e = .returned (.tuple #[.int .i64 0, .int .i64 4]) ∧ Below w.heap.size w w' := by
  obtain ⟨p1, p2⟩ := Num.gp_bd hp
  obtain ⟨v0, v1⟩ := Num.mod_bd d (m := p) (by omega)
  have HP := Lib.hid hp
  have HZ := Lib.hid h0
  have HC : Int.gcd (d % p) p ≠ 1 := by rw [h0, Int.gcd_zero_left]; omega
  have HC := Lib.hid HC
  clear hp h0
  go_enter Try.func35, Try.ntmps35
  go_wp2_with (first | (go_at_call 50; ((with_reducible refine (isSigned_yes _ _ (by assumption) (by assumption)).mono ?_); rintro e w' ⟨rfl, rfl⟩)) | (go_at_call 20; refine (gp_yes _ _ HP.out).mono ?_; rintro e w' ⟨rfl, rfl⟩))
  refine (residueOf_any _ _ _ (by omega) (by omega)).mono ?_
  rintro e w1 ⟨rfl, hb1⟩
  go_wp2_with (fail)
  refine (inverse_no _ _ _ v0 v1 (by omega) HC.out).mono ?_
  rintro e w2 ⟨rfl, hb2⟩
  go_wp2
  go_ret2
  exact ⟨rfl, (hb1.trans (hb2.mono hb1.size)).alloc (by have := hb1.size; have := hb2.size; omega) _⟩
theorem sRational_ok (n d p : Int) (w : World) (hn1 : -1000000 ≤ n) (hn2 : n ≤ 1000000) (hd1 : -1000000 ≤ d) (hd2 : d ≤ 1000000) (hp : Num.gp p = true) (h0 : d % p ≠ 0) :
    Calls Try.prog 34 #[.int .i64 n, .int .i64 d, .int .i64 p] w fun e w' => e = .returned (.tuple #[.int .i64 (n % p * Num.bez (d % p) p % p), .int .i64 0]) ∧ Below w.heap.size w w' := by
  obtain ⟨p1, p2⟩ := Num.gp_bd hp
  obtain ⟨v0, v1⟩ := Num.mod_bd d (m := p) (by omega)
  obtain ⟨u0, u1⟩ := Num.mod_bd n (m := p) (by omega)
  have HC := Lib.hid (Num.gp_gcd hp (v := d % p) (by omega) v1)
  obtain ⟨s1, s2, s3⟩ := Num.bez_inv v0 v1 HC.out
  clear s3
  obtain ⟨x1, x2⟩ := Num.mul_fits u0 u1 s1 s2 (by omega)
  have HP := Lib.hid hp
  clear hp
  have ht : (d % p == 0) = false := by simp [h0]
  have H0 := Lib.hid h0
  clear h0
  go_enter Try.func34, Try.ntmps34
  go_wp2_with (first | (go_at_call 42; ((with_reducible refine (sIn_yes _ _ _ _ (by assumption) (by assumption)).mono ?_); rintro e w' ⟨rfl, rfl⟩)) | (go_at_call 53; refine (sPrime_yes _ _ HP.out).mono ?_; rintro e w' ⟨rfl, rfl⟩) | (go_at_call 46; refine (sMod_any _ _ _ (by omega) (by omega)).mono ?_; rintro e w' ⟨rfl, rfl⟩) | (go_at_call 56; refine (sInv_any _ _ _ HP.out H0.out).mono ?_; rintro e w' ⟨rfl, rfl⟩))
  go_ret2
  exact ⟨rfl, Below.refl _ _⟩
theorem sRational_none (n d p : Int) (w : World) (hn1 : -1000000 ≤ n) (hn2 : n ≤ 1000000) (hd1 : -1000000 ≤ d) (hd2 : d ≤ 1000000) (hp : Num.gp p = true) (h0 : d % p = 0) :
    Calls Try.prog 34 #[.int .i64 n, .int .i64 d, .int .i64 p] w fun e w' => e = .returned (.tuple #[.int .i64 0, .int .i64 4]) ∧ w = w' := by
  obtain ⟨p1, p2⟩ := Num.gp_bd hp
  have HP := Lib.hid hp
  clear hp
  go_enter Try.func34, Try.ntmps34
  go_wp2_with (first | (go_at_call 42; ((with_reducible refine (sIn_yes _ _ _ _ (by assumption) (by assumption)).mono ?_); rintro e w' ⟨rfl, rfl⟩)) | (go_at_call 53; refine (sPrime_yes _ _ HP.out).mono ?_; rintro e w' ⟨rfl, rfl⟩) | (go_at_call 46; refine (sMod_any _ _ _ (by omega) (by omega)).mono ?_; rintro e w' ⟨rfl, rfl⟩))
  go_ret2
  exact ⟨rfl, rfl⟩
end Go.Proofs.Ytkgiffmnhpbpiaa
