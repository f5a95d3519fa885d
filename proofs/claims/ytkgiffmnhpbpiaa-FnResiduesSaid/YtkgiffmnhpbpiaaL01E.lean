/- Contracts of Bezout and RationalMod, of the program and of the model. -/
import Derived.Test.YtkgiffmnhpbpiaaNumC
import Derived.Test.YtkgiffmnhpbpiaaL01D
import Derived.IntWalk
import Derived.Deep.RegionHeld3
import Derived.Deep.DeepCutAuto
import Derived.Handy
namespace Go.Proofs.Ytkgiffmnhpbpiaa
open Go.RowKit
set_option linter.unusedVariables false
set_option linter.unusedSimpArgs false

def BzBad (a b : Int) : Prop := (a < -1000000 ∨ 1000000 < a) ∨ b < -1000000 ∨ 1000000 < b
theorem bezout_bad (a b : Int) (w : World) (h : BzBad a b) :
    Calls Try.prog 25 #[.int .i64 a, .int .i64 b] w fun e w' => e = .returned (.tuple #[.int .i64 0, .int .i64 0, .int .i64 0, .int .i64 2]) ∧ w = w' := by
  by_cases hn : a < -1000000 ∨ 1000000 < a
  · clear h
    go_enter Try.func25, Try.ntmps25
    go_wp2_with (go_at_call 50; refine (isSigned_no _ _ hn).mono ?_; rintro e w' ⟨rfl, rfl⟩)
    refine bodyPost_ret (v := .tuple #[.int .i64 0, .int .i64 0, .int .i64 0, .int .i64 2]) (by simp [results, Try.results25, go_sem]) rfl ⟨rfl, rfl⟩
  · have hx := h.resolve_left hn
    clear h
    have h1 : -1000000 ≤ a := by omega
    have h2 : a ≤ 1000000 := by omega
    clear hn
    go_enter Try.func25, Try.ntmps25
    go_wp2_with (first | (go_at_call 50; ((with_reducible refine (isSigned_yes _ _ h1 h2).mono ?_); rintro e w' ⟨rfl, rfl⟩)) | (go_at_call 50; ((with_reducible refine (isSigned_no _ _ hx).mono ?_); rintro e w' ⟨rfl, rfl⟩)))
    refine bodyPost_ret (v := .tuple #[.int .i64 0, .int .i64 0, .int .i64 0, .int .i64 2]) (by simp [results, Try.results25, go_sem]) rfl ⟨rfl, rfl⟩
theorem sBezoutF_bad (a b : Int) (w : World) (h : BzBad a b) :
    Calls Try.prog 33 #[.int .i64 a, .int .i64 b] w fun e w' => e = .returned (.tuple #[.int .i64 0, .int .i64 0, .int .i64 0, .int .i64 2]) ∧ w = w' := by
  by_cases hn : a < -1000000 ∨ 1000000 < a
  · clear h
    go_enter Try.func33, Try.ntmps33
    go_wp2_with (go_at_call 42; refine (sIn_no _ _ _ _ hn).mono ?_; rintro e w' ⟨rfl, rfl⟩)
    refine bodyPost_ret (v := .tuple #[.int .i64 0, .int .i64 0, .int .i64 0, .int .i64 2]) (by simp [results, Try.results33, go_sem]) rfl ⟨rfl, rfl⟩
  · have hx := h.resolve_left hn
    clear h
    have h1 : -1000000 ≤ a := by omega
    have h2 : a ≤ 1000000 := by omega
    clear hn
    go_enter Try.func33, Try.ntmps33
    go_wp2_with (first | (go_at_call 42; ((with_reducible refine (sIn_yes _ _ _ _ h1 h2).mono ?_); rintro e w' ⟨rfl, rfl⟩)) | (go_at_call 42; ((with_reducible refine (sIn_no _ _ _ _ hx).mono ?_); rintro e w' ⟨rfl, rfl⟩)))
    refine bodyPost_ret (v := .tuple #[.int .i64 0, .int .i64 0, .int .i64 0, .int .i64 2]) (by simp [results, Try.results33, go_sem]) rfl ⟨rfl, rfl⟩
theorem bezout_zero (a : Int) (w : World) (h1 : -1000000 ≤ a) (h2 : a ≤ 1000000) :
    Calls Try.prog 25 #[.int .i64 a, .int .i64 0] w fun e w' => e = .returned (.tuple #[.int .i64 (Int.gcd a 0), .int .i64 (Num.sg a), .int .i64 0, .int .i64 0]) ∧ Below w.heap.size w w' := by
  go_enter Try.func25, Try.ntmps25
  go_wp2_with (first | (go_at_call 50; ((with_reducible refine (isSigned_yes _ _ (by omega) (by omega)).mono ?_); rintro e w' ⟨rfl, rfl⟩)) | (go_at_call 51; refine (commonDivisor_any _ _ _ h1 h2 (by omega) (by omega)).mono ?_; rintro e w1 ⟨rfl, hb⟩) | (go_at_call 52; refine (signOf_any _ _).mono ?_; rintro e w' ⟨rfl, rfl⟩))
  refine bodyPost_ret (v := .tuple #[.int .i64 (Int.gcd a 0), .int .i64 (Num.sg a), .int .i64 0, .int .i64 0]) (by simp [results, Try.results25, go_sem]) rfl ⟨rfl, hb⟩
theorem sBezoutF_zero (a : Int) (w : World) (h1 : -1000000 ≤ a) (h2 : a ≤ 1000000) :
    Calls Try.prog 33 #[.int .i64 a, .int .i64 0] w fun e w' => e = .returned (.tuple #[.int .i64 (Int.gcd a 0), .int .i64 (Num.sg a), .int .i64 0, .int .i64 0]) ∧ w = w' := by
  have hg : (Int.gcd a 0 : Int) = a.natAbs := by rw [Int.gcd_zero_right]
  rw [hg]
  clear hg
  by_cases h3 : 0 < a
  · have e1 : Num.sg a = 1 := by simp [Num.sg, h3]
    have e2 : (a.natAbs : Int) = a := by omega
    rw [e1, e2]; clear e1 e2
    go_enter Try.func33, Try.ntmps33
    go_wp2_with (go_at_call 42; ((with_reducible refine (sIn_yes _ _ _ _ (by omega) (by omega)).mono ?_); rintro e w' ⟨rfl, rfl⟩))
    refine bodyPost_ret (v := .tuple #[.int .i64 a, .int .i64 1, .int .i64 0, .int .i64 0]) (by simp [results, Try.results33, go_sem]) rfl ⟨rfl, rfl⟩
  · by_cases h4 : a < 0
    · have e1 : Num.sg a = -1 := by simp [Num.sg, h3, h4]
      have e2 : (a.natAbs : Int) = -a := by omega
      rw [e1, e2]; clear e1 e2
      go_enter Try.func33, Try.ntmps33
      go_wp2_with (go_at_call 42; ((with_reducible refine (sIn_yes _ _ _ _ (by omega) (by omega)).mono ?_); rintro e w' ⟨rfl, rfl⟩))
      refine bodyPost_ret (v := .tuple #[.int .i64 (-a), .int .i64 (-1), .int .i64 0, .int .i64 0]) (by simp [results, Try.results33, go_sem]) rfl ⟨rfl, rfl⟩
    · obtain rfl : a = 0 := by omega
      have e1 : Num.sg 0 = 0 := by simp [Num.sg]
      rw [e1]; clear e1
      go_enter Try.func33, Try.ntmps33
      go_wp2_with (go_at_call 42; ((with_reducible refine (sIn_yes _ _ _ _ (by omega) (by omega)).mono ?_); rintro e w' ⟨rfl, rfl⟩))
      refine bodyPost_ret (v := .tuple #[.int .i64 0, .int .i64 0, .int .i64 0, .int .i64 0]) (by simp [results, Try.results33, go_sem]) rfl ⟨rfl, rfl⟩

/-- The third result. -/
def third (g a x b : Int) : Int := (g - a * x).tdiv b
set_option maxHeartbeats 1000000 in
theorem bezout_ok (a b : Int) (w : World) (h1 : -1000000 ≤ a) (h2 : a ≤ 1000000) (h3 : -1000000 ≤ b) (h4 : b ≤ 1000000) (hb : b ≠ 0) :
    Calls Try.prog 25 #[.int .i64 a, .int .i64 b] w fun e w' => e = .returned (.tuple #[.int .i64 (Int.gcd a b), .int .i64 (Num.bez (a % b.natAbs) b.natAbs), .int .i64 (third (Int.gcd a b) a (Num.bez (a % b.natAbs) b.natAbs) b), .int .i64 0]) ∧ Below w.heap.size w w' := by
  have hb0 : (b == 0) = false := by simpa using hb
  have hM : (0 : Int) < b.natAbs := by omega
  have hgab : Int.gcd a b.natAbs = Int.gcd a b := by simp [Int.gcd]
  obtain ⟨c1, c2⟩ := Num.bez_scaled (a := a) (M := (b.natAbs : Int)) hM
  obtain ⟨g1, g2, g3⟩ := Num.gcd_div (v := a) hM
  rw [hgab] at c1 c2 g1 g2 g3
  have gd : (Int.gcd a b : Int) ∣ a := Int.gcd_dvd_left a b
  have ea := Num.tdiv_exact gd
  obtain ⟨t1, t2⟩ := Num.tdiv_bd a (Int.gcd a b)
  obtain ⟨v0, v1⟩ := Num.mod_bd (a.tdiv (Int.gcd a b)) (m := (b.natAbs : Int) / Int.gcd a b) (by omega)
  rw [← ea] at c1 c2
  rw [← c2]
  obtain ⟨s1, s2, s3⟩ := Num.bez_inv v0 v1 c1
  have es := Num.mul_sg b
  have hbs1 : 0 ≤ b * Num.sg b := by omega
  have hbs2 : b * Num.sg b ≤ 1000000 := by omega
  rw [← es] at c1 g2 g3 v0 v1 s1 s2 s3 ⊢
  have g4 : (Int.gcd a b : Int) ≤ 1000000 := by
    rw [← hgab]
    have := Int.gcd_dvd_right a (b.natAbs : Int)
    have := Int.le_of_dvd hM this
    omega
  generalize hg : (Int.gcd a b : Int) = g at *
  have HC := Lib.hid c1
  have S3 := Lib.hid s3
  have EA := Lib.hid ea
  have HG : Hid ((Int.gcd a b : Int) = g) := Lib.hid hg
  clear c1 c2 s3 ea es hgab hg gd
  go_enter Try.func25, Try.ntmps25
  go_wp2_with (first | (go_at_call 50; ((with_reducible refine (isSigned_yes _ _ (by omega) (by omega)).mono ?_); rintro e w' ⟨rfl, rfl⟩)))
  refine (commonDivisor_any _ _ _ h1 h2 h3 h4).mono ?_
  rintro e w1 ⟨rfl, hb1⟩
  rw [HG.out]
  go_upto_region 6 with fail
  have Z1 := hb1.size
  have hg0 : (g == 0) = false := by simp; omega
  have hg1 : g ≠ 0 := by omega
  have k1 : IntKind.i64.wrap (a.tdiv g) = a.tdiv g := IntWalk.i64_in _ (by omega)
  have k2 : IntKind.i64.wrap (b * Num.sg b) = b * Num.sg b := IntWalk.i64_in _ (by omega)
  have k3 : IntKind.i64.wrap ((b * Num.sg b).tdiv g) = b * Num.sg b / g := by rw [Int.tdiv_eq_ediv_of_nonneg hbs1]; exact IntWalk.i64_in _ (by omega)
  go_cut [9, 10] (fun s9 s10 wx => ∃ q : Nat, s9 = .pointer (some ⟨q, 0, none⟩) ∧ s10 = .bool true ∧ wx.cell? ⟨q, 0, none⟩ = some (.int .i64 (Num.bez (a.tdiv g % (b * Num.sg b / g)) (b * Num.sg b / g))) ∧ Below w.heap.size w wx)
  case first =>
   go_region_held3 (fun _ => True) (trivial)
    (first
      | (go_at_call 52; refine (signOf_any _ _).mono ?_; rintro e w' ⟨rfl, rfl⟩)
      | (go_at_call 43; refine (residueOf_any _ _ _ g2 (by omega)).mono ?_; rintro e w2 ⟨rfl, hb2⟩; obtain ⟨hc2, hf2⟩ := bcell hb2; have hz2 := hb2.size; try simp only [World.size_alloc, World.size_drew, Nat.add_one_le_iff] at hz2)
      | (go_at_call 45; refine (inverse_yes _ _ _ v0 v1 (by omega) HC.out).mono ?_; rintro e w3 ⟨rfl, hb3⟩; obtain ⟨hc3, hf3⟩ := bcell hb3; have hz3 := hb3.size; try simp only [World.size_alloc, World.size_drew, Nat.add_one_le_iff] at hz3))
   all_goals
    have Z2 := hb2.size
    have Z3 := hb3.size
    try simp only [World.size_alloc, World.size_drew] at Z2 Z3
    go_wp2_with fail
    go_meet
    first
      | exact ⟨_, rfl, rfl, by simp [World.cell?_alloc_new], ((hb1.drew.trans (hb2.mono (by go_size))).trans (hb3.mono (by go_size))).alloc (by go_size) _⟩
      | exact ⟨_, rfl, rfl, (((((Own2.new w1 (.int .i64 0) (.int .i64 0) 45).drew.below hb2 (by go_size)).below hb3 (by go_size)).set _ _).1), ((((hb1.alloc (by go_size) _).drew.trans (hb2.mono (by go_size))).trans (hb3.mono (by go_size))).setCell (by go_size) _).setCell (by go_size) _⟩
      | exact ⟨_, rfl, rfl, (((Own2.new w2 (.int .i64 0) (.int .i64 0) 45).below hb3 (by go_size)).set _ _).1, ((((hb1.drew.trans (hb2.mono (by go_size))).alloc (by go_size) _).trans (hb3.mono (by go_size))).setCell (by go_size) _).setCell (by go_size) _⟩
  case rest =>
    obtain ⟨q, rfl, rfl, hq, hbel⟩ := hcut
    generalize hx : Num.bez (a.tdiv g % (b * Num.sg b / g)) (b * Num.sg b / g) = x at *
    have x1 : -1000000000000 ≤ a * x ∧ a * x ≤ 1000000000000 := Num.mul_signed (by omega) (by omega) (by omega) (by omega)
    obtain ⟨x1, x2⟩ := x1
    obtain ⟨y1, y2⟩ := Num.tdiv_bd (g - a * x) b
    have m1 : IntKind.i64.wrap (a * x) = a * x := IntWalk.i64_in _ (by omega)
    have m2 : IntKind.i64.wrap (g - a * x) = g - a * x := IntWalk.i64_in _ (by omega)
    have m3 : IntKind.i64.wrap ((g - a * x).tdiv b) = (g - a * x).tdiv b := IntWalk.i64_in _ (by omega)
    clear k1 k2 k3
    go_wp2
    go_quiet (fail)
    go_wp2
    refine bodyPost_ret (v := .tuple #[.int .i64 g, .int .i64 x, .int .i64 ((g - a * x).tdiv b), .int .i64 0]) (by simp [results, Try.results25, go_sem]) rfl ⟨?_, below_drewN hbel _⟩
    obtain rfl := HG.out
    subst hx
    rfl
end Go.Proofs.Ytkgiffmnhpbpiaa
