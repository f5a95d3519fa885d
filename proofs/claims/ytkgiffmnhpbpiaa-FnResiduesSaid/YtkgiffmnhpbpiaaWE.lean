/- The walk of the law of residues: an inverse exists exactly if there is an order, and the powers fit. -/
import Derived.Test.YtkgiffmnhpbpiaaL01H
import Derived.Test.YtkgiffmnhpbpiaaL01F
import Derived.Test.YtkgiffmnhpbpiaaDrA
namespace Go.Proofs.Ytkgiffmnhpbpiaa
open Go.RowKit
set_option linter.unusedVariables false
set_option linter.unusedSimpArgs false

theorem below_tr {w a b : World} (h : Below w.heap.size w a) (k : Below a.heap.size a b) : Below w.heap.size w b := h.trans (k.mono h.size)

/-- The arithmetic of the law. -/
theorem residues_arith {v m : Int} (hm1 : 1 ≤ m) (h0 : 0 ≤ v) (h1 : v < m) (hg : Int.gcd v m = 1) :
    v ^ (Num.ordM v m).toNat % m = 1 % m ∧ v ^ (Num.ordM v m - 1).toNat % m = Num.bez v m ∧ 1 ≤ Num.ordM v m ∧ Num.ordM v m ≤ m ∧ 0 ≤ Num.bez v m ∧ Num.bez v m < m ∧ Int.gcd m (Num.bez v m) = 1 := by
  obtain ⟨ho, hop⟩ := Num.ord_spec hm1 hg
  have hph := Num.phi_bd hm1
  obtain ⟨b0, b1, b2⟩ := Num.bez_inv h0 h1 hg
  have ho1 := ho.1
  refine ⟨ho.2.1, ?_, ho1, by omega, b0, b1, ?_⟩
  · obtain ⟨y0, y1⟩ := Num.mod_bd (v ^ (Num.ordM v m - 1).toNat) (m := m) (by omega)
    refine (Num.bez_is (by omega) hg y0 y1 ?_).symm
    rw [Num.mul_mod_right, Int.mul_comm, ← Int.pow_succ, show (Num.ordM v m - 1).toNat.succ = (Num.ordM v m).toNat by omega]
    exact ho.2.1
  · have hd : (Int.gcd m (Num.bez v m) : Int) ∣ 1 := by
      have h1 := Int.gcd_dvd_left m (Num.bez v m)
      have h2 := Int.gcd_dvd_right m (Num.bez v m)
      have h3 : m ∣ v * Num.bez v m - 1 := by
        apply Int.dvd_of_emod_eq_zero
        rw [← Int.emod_eq_emod_iff_emod_sub_eq_zero]
        exact b2
      have h4 := Int.dvd_trans h1 h3
      have h5 : (Int.gcd m (Num.bez v m) : Int) ∣ v * Num.bez v m := Int.dvd_mul_of_dvd_right h2
      have h6 := Int.dvd_sub h5 h4
      have e : v * Num.bez v m - (v * Num.bez v m - 1) = 1 := by omega
      rwa [e] at h6
    have := Int.le_of_dvd (by omega) hd
    have h0 : (Int.gcd m (Num.bez v m)) ≠ 0 := by
      intro e
      rw [Int.gcd_eq_zero_iff] at e
      omega
    omega
/-- Where g is 1 the third coefficient is exact. -/
theorem third_arith {m x : Int} (hm : 1 ≤ m) (hx : 1 ≤ x) (hg : Int.gcd m x = 1) :
    0 ≤ Num.bez (m % x) x ∧ Num.bez (m % x) x < x ∧ x * third 1 m (Num.bez (m % x) x) x = 1 - m * Num.bez (m % x) x := by
  obtain ⟨v0, v1⟩ := Num.mod_bd m (m := x) (by omega)
  have hg2 : Int.gcd (m % x) x = 1 := by rw [Int.gcd_comm, Num.gcd_step]; exact hg
  obtain ⟨b0, b1, b2⟩ := Num.bez_inv v0 v1 hg2
  refine ⟨b0, b1, ?_⟩
  have hd : x ∣ 1 - m * Num.bez (m % x) x := by
    rw [Num.mul_mod_left] at b2
    apply Int.dvd_of_emod_eq_zero
    rw [← Int.emod_eq_emod_iff_emod_sub_eq_zero]
    exact b2.symm
  unfold third
  rw [Num.tdiv_exact hd]
  exact Int.mul_ediv_cancel' hd

set_option maxHeartbeats 1000000 in
theorem fnResidues_walk (a0 : Option Addr) (len0 cap0 : Nat) (z0 : List Int) (w : World) (w0 : IsRow .u8 w a0 len0 cap0 z0) :
    Calls Try.prog 4 #[.slice a0 len0 cap0] w fun e w' => e = .returned (.bool true) ∧ Below w.heap.size w w' := by
  have hB := w0.rdB
  clear w0
  by_cases hl : 4096 < len0
  · go_enter Try.func4, Try.ntmps4
    go_wp2_with (go_at_call 13; refine (big_yes _ _ _ _ hl).mono ?_; rintro e w' ⟨rfl, rfl⟩)
    go_ret
    exact ⟨rfl, Below.refl _ _⟩
  · have hl' : len0 ≤ 4096 := by omega
    clear hl
    go_enter Try.func4, Try.ntmps4
    go_wp2_with (fail)
    refine (big_no _ _ _ _ hl').mono ?_; rintro e w' ⟨rfl, rfl⟩
    go_wp2_with (fail)
    refine (drawModInverse_any _ _ _ _ hB hl').mono ?_; rintro e w1 ⟨⟨a, m, rfl⟩, b1⟩
    clear hB
    by_cases hm : m < 1 ∨ 1000000 < m
    · have H := Lib.hid hm
      clear hm
      go_wp2_with (first | (go_at_call 22; refine (modInverse_bad _ _ _ H.out).mono ?_; rintro e w' ⟨rfl, rfl⟩) | (go_at_call 23; refine (sModInverse_bad _ _ _ H.out).mono ?_; rintro e w' ⟨rfl, rfl⟩) | (go_at_call 24; refine (unitOrder_bad _ _ _ H.out).mono ?_; rintro e w' ⟨rfl, rfl⟩))
      go_ret
      exact ⟨rfl, b1⟩
    · have m1 : 1 ≤ m := by omega
      have m2 : m ≤ 1000000 := by omega
      clear hm
      by_cases hg : Int.gcd (a % m) m = 1
      · obtain ⟨v0, v1⟩ := Num.mod_bd a (m := m) (by omega)
        obtain ⟨r1, r2, r3, r4, r5, r6, r7⟩ := residues_arith m1 v0 v1 hg
        have p1 : a ^ (Num.ordM (a % m) m).toNat % m = 1 % m := by rw [← r1, Num.pow_mod]
        have p2 : a ^ (Num.ordM (a % m) m - 1).toNat % m = Num.bez (a % m) m := by rw [← r2, Num.pow_mod]
        have H := Lib.hid hg
        clear hg r1 r2
        have cI := fun wx => modInverse_ok a m wx m1 m2 H.out
        have cS := fun wx => sModInverse_ok a m wx m1 m2 H.out
        have cU := fun wx => unitOrder_ok a m wx m1 m2 H.out
        have cP := fun wx => modPower_ok a (Num.ordM (a % m) m) m wx m1 m2 (by omega) (by omega)
        have cQ := fun wx => modPower_ok a (Num.ordM (a % m) m - 1) m wx m1 m2 (by omega) (by omega)
        rw [p1] at cP
        rw [p2] at cQ
        clear p1 p2 H
        generalize Num.ordM (a % m) m = K at *
        generalize Num.bez (a % m) m = X at *
        have CI := Lib.hid cI
        have CS := Lib.hid cS
        have CU := Lib.hid cU
        have CP := Lib.hid cP
        have CQ := Lib.hid cQ
        clear cI cS cU cP cQ
        have HG := Lib.hid r7
        clear r7
        go_wp2_with (fail)
        refine (CI.out _).mono ?_; rintro e w2 ⟨rfl, b2⟩
        replace b1 := below_tr b1 b2
        clear b2
        go_wp2_with (fail)
        refine (CS.out _).mono ?_; rintro e w' ⟨rfl, rfl⟩
        go_wp2_with (fail)
        refine (CU.out _).mono ?_; rintro e w3 ⟨rfl, b2⟩
        replace b1 := below_tr b1 b2
        clear b2
        go_wp2_with (fail)
        refine (CP.out _).mono ?_; rintro e w4 ⟨rfl, b2⟩
        replace b1 := below_tr b1 b2
        clear b2
        go_wp2_with (fail)
        refine (CQ.out _).mono ?_; rintro e w5 ⟨rfl, b2⟩
        replace b1 := below_tr b1 b2
        clear b2
        by_cases hx : X = 0
        · subst hx
          have hm1 : m = 1 := by
            have := HG.out
            rw [Int.gcd_zero_right] at this
            omega
          subst hm1
          go_wp2_with (fail)
          refine (bezout_zero 1 _ (by omega) (by omega)).mono ?_; rintro e w6 ⟨rfl, b2⟩
          replace b1 := below_tr b1 b2
          clear b2
          have e1 : (Int.gcd 1 0 : Int) = 1 := by decide
          have e2 : Num.sg 1 = 1 := by decide
          rw [e1, e2]
          go_wp2
          go_ret
          exact ⟨rfl, b1⟩
        · obtain ⟨t0, t1, t2⟩ := third_arith m1 (by omega) HG.out
          have hn : (X.natAbs : Int) = X := by omega
          have cB := fun wx => bezout_ok m X wx (by omega) (by omega) (by omega) (by omega) hx
          rw [hn, HG.out] at cB
          have CB := Lib.hid cB
          clear cB hn
          generalize Num.bez (m % X) X = u at *
          have hu := Num.mul_signed (a := m) (x := u) (by omega) (by omega) (by omega) (by omega)
          obtain ⟨u1, u2⟩ := hu
          have CB' : Hid (∀ wx : World, Calls Try.prog 25 #[.int .i64 m, .int .i64 X] wx fun e w' => e = .returned (.tuple #[.int .i64 1, .int .i64 u, .int .i64 (third 1 m u X), .int .i64 0]) ∧ Below wx.heap.size wx w') := CB
          clear CB
          generalize third 1 m u X = T at *
          have y1 : -1000000000000 ≤ X * T := by omega
          have y2 : X * T ≤ 1000000000001 := by omega
          have y3 : (m * u + X * T == 1) = true := by simp; omega
          clear t2
          go_wp2_with (fail)
          refine (CB'.out _).mono ?_; rintro e w6 ⟨rfl, b2⟩
          replace b1 := below_tr b1 b2
          clear b2
          go_wp2
          go_ret
          exact ⟨rfl, b1⟩
      · have H := Lib.hid hg
        clear hg
        go_wp2_with (first | (go_at_call 22; refine (modInverse_none _ _ _ m1 m2 H.out).mono ?_; rintro e w2 ⟨rfl, b2⟩) | (go_at_call 23; refine (sModInverse_none _ _ _ m1 m2 H.out).mono ?_; rintro e w' ⟨rfl, rfl⟩) | (go_at_call 24; refine (unitOrder_none _ _ _ m1 m2 H.out).mono ?_; rintro e w3 ⟨rfl, b3⟩))
        go_ret
        exact ⟨rfl, below_tr (below_tr b1 b2) b3⟩
end Go.Proofs.Ytkgiffmnhpbpiaa
