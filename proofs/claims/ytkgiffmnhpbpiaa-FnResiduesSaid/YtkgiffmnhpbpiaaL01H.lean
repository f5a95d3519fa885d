/- Contracts of the order of a residue and of UnitOrder, of the program and of the model. -/
import Derived.Test.YtkgiffmnhpbpiaaNumH
import Derived.Test.YtkgiffmnhpbpiaaL01G
import Derived.Deep.DeepCutAuto
import Derived.Deep.RegionHeld3
import Derived.IntWalk
import Derived.Handy
namespace Go.Proofs.Ytkgiffmnhpbpiaa
open Go.RowKit
set_option linter.unusedVariables false
set_option linter.unusedSimpArgs false

theorem factorize_post (n : Int) (w : World) (hn1 : 1 ≤ n) (hn2 : n ≤ 1000000) : Calls Try.prog 15 #[.int .i64 n] w (FacPost w (Num.facP 2 n) (Num.facE 2 n)) :=
  (factorize_ok n w hn1 hn2).mono fun _ _ h => FacPost.of h

set_option maxHeartbeats 400000 in
theorem countUnits_any (m : Int) (w : World) (hm1 : 1 ≤ m) (hm2 : m ≤ 1000000) :
    Calls Try.prog 58 #[.int .i64 m] w fun e w' => e = .returned (.int .i64 (Num.phi m)) ∧ Below w.heap.size w w' := by
  have hlP : (Num.facP 2 m).length ≤ 1000000 := by have := Num.facP_len (d := 2) hm1; omega
  go_enter Try.func58, Try.ntmps58
  go_wp2_with (fail)
  refine (factorize_post _ _ hm1 hm2).mono ?_; rintro e wa ⟨A1, c1, A2, c2, rfl, s1, s2, _, bel⟩
  have hr := s1.reads
  clear s1 s2
  go_wp2_with (fail)
  go_loop [18, 3] (fun s18 s3 => ∃ (j : Nat) (u : Int), s18 = .int .i64 j ∧ s3 = .int .i64 u ∧ j ≤ (Num.facP 2 m).length ∧ Num.CuInv m u j) (fun s18 _ => (Num.facP 2 m).length - (intOf s18).toNat)
  case atStart => exact ⟨0, m, rfl, rfl, by omega, Num.cuInv_start hm1⟩
  case round =>
    obtain ⟨j, u, rfl, rfl, hj, hu⟩ := hrel
    by_cases hlt : j < (Num.facP 2 m).length
    · obtain ⟨g, o, rfl, hg, hc⟩ := hr j hlt
      obtain ⟨p2, pm, q0, q1, hs⟩ := Num.cuInv_step hm1 hu hlt
      generalize (Num.facP 2 m).getD j 0 = p at *
      have u1 := hu.1
      have u2 := hu.2.1
      have v1 := hs.1
      have v2 := hs.2.1
      have i0 : (0 : Int) ≤ (j : Int) := by omega
      have i1 : (j : Int) < ((Num.facP 2 m).length : Int) := by omega
      go_wp2
      exact ⟨⟨j + 1, _, by go_num, rfl, by omega, hs⟩, by simp [intOf]; omega⟩
    · have hge : ¬ ((j : Int) < ((Num.facP 2 m).length : Int)) := by omega
      have HE := Lib.hid (Num.cuInv_end hu (by omega)).1
      go_wp2
      go_ret
      exact ⟨ret_int HE.out, bel⟩

set_option maxHeartbeats 1000000 in
theorem order_yes (v m : Int) (w : World) (h0 : 0 ≤ v) (h1 : v < m) (h2 : m ≤ 1000000) (hg1 : Int.gcd v m = 1) :
    Calls Try.prog 49 #[.agg #[.int .i64 v, .int .i64 m]] w fun e w' => e = .returned (.tuple #[.int .i64 (Num.ordM v m), .bool true]) ∧ Below w.heap.size w w' := by
  have hm1 : 1 ≤ m := by omega
  have HG := Lib.hid hg1
  clear hg1
  have hph := Num.phi_bd hm1
  obtain ⟨ph1, ph2⟩ := hph
  have HP := Lib.hid (Num.pow_phi hm1 HG.out)
  go_enter Try.func49, Try.ntmps49
  go_wp2_with (fail)
  refine (inverse_yes _ _ _ h0 h1 h2 HG.out).mono ?_; rintro e w1 ⟨rfl, hb1⟩
  have O1 : Own2 w1 w.heap.size (.int .i64 v) (.int .i64 m) := (Own2.new w (.int .i64 v) (.int .i64 m) 45).below hb1 (by go_size)
  have bel1 : Below w.heap.size w w1 := ((Below.refl _ _).alloc (Nat.le_refl _) _).trans (hb1.mono (by go_size))
  have z1 := hb1.size
  simp only [World.size_alloc] at z1
  obtain ⟨o1, o2, o3, o4, o5⟩ := id O1
  clear hb1
  go_wp2_with (fail)
  refine (countUnits_any _ _ hm1 h2).mono ?_; rintro e w2 ⟨rfl, hb2⟩
  have O2 := (O1.alloc #[.int .i64 (Num.bez v m), .int .i64 m] 45).below hb2 (by go_size)
  have bel2 := (bel1.alloc (by omega) (.cells #[.int .i64 (Num.bez v m), .int .i64 m] 45)).trans (hb2.mono (by go_size))
  have z2 := hb2.size
  simp only [World.size_alloc] at z2
  clear hb2 o1 o2 o3 o4 o5 O1 bel1
  have HN := Lib.hid ph1
  have hlP : (Num.facP 2 (Num.phi m)).length ≤ 1000000 := by have := Num.facP_len (d := 2) ph1; omega
  generalize hN : Num.phi m = N at *
  clear hN
  go_wp2_with (fail)
  refine (factorize_post _ _ ph1 (by omega)).mono ?_; rintro e w3 ⟨A1, k1, A2, k2, rfl, s1, s2, _, b3⟩
  have hr := s1.reads
  have O3 := O2.below b3 (by omega)
  have bel3 := bel2.trans (b3.mono (by omega))
  have z3 := b3.size
  clear s1 s2 b3 O2 bel2
  go_wp2_with (fail)
  go_loopw [30, 6] (fun s30 s6 wr => ∃ (j : Nat) (c : Int), s30 = .int .i64 j ∧ s6 = .int .i64 c ∧ j ≤ (Num.facP 2 N).length ∧ Num.OrInv v m N c j ∧ Below w3.heap.size w3 wr) (fun s30 _ _ => (Num.facP 2 N).length - (intOf s30).toNat)
  case atStart => exact ⟨0, N, rfl, rfl, by omega, Num.orInv_start ph1 HP.out, Below.refl _ _⟩
  case round =>
    obtain ⟨j, c, rfl, rfl, hj, hc, bw⟩ := hrel
    by_cases hlt : j < (Num.facP 2 N).length
    · obtain ⟨g, o, rfl, hg, hcell⟩ := (hr.below' bw) j hlt
      have hpr := (Num.facP_pr ph1 hlt).1
      have hpN := Num.facP_le ph1 hlt
      have i0 : (0 : Int) ≤ (j : Int) := by omega
      have i1 : (j : Int) < ((Num.facP 2 N).length : Int) := by omega
      have HP2 := Lib.hid (rfl : (Num.facP 2 N).getD j 0 = (Num.facP 2 N).getD j 0)
      generalize hp : (Num.facP 2 N).getD j 0 = p at hcell hpr hpN
      have HPJ := Lib.hid hp
      clear hp HP2
      go_wp2_with (fail)
      go_loopw [6] (fun s6 wi => ∃ c : Int, s6 = .int .i64 c ∧ Num.OrInv v m N c j ∧ Below w3.heap.size w3 wi) (fun s6 _ => (intOf s6).toNat)
      case atStart => exact ⟨c, rfl, hc, bw⟩
      case round =>
        obtain ⟨x, rfl, hx, bx⟩ := hrel
        clear hcell hg bw hc
        obtain ⟨x1, x2⟩ := Num.orInv_bd ph1 hx
        obtain ⟨q0, q1⟩ := Num.mod_bd x (m := p) (by omega)
        have hp0 : p ≠ 0 := by omega
        have tm : x.tmod p = x % p := Int.tmod_eq_emod_of_nonneg (by omega)
        have d0 : 0 ≤ x / p := Int.ediv_nonneg (by omega) (by omega)
        have d1 : x / p ≤ x := Int.ediv_le_self _ (by omega)
        have td : IntKind.i64.wrap (x.tdiv p) = x / p := by rw [Int.tdiv_eq_ediv_of_nonneg (by omega)]; exact IntWalk.i64_in _ (by omega)
        by_cases hd : x % p = 0
        · have ht : (x % p == 0) = true := by simp [hd]
          have HD := Lib.hid hd
          clear hd
          have OX := O3.below bx (by omega)
          obtain ⟨e1, e2, e3, e4, e5⟩ := id OX
          have y0 := Num.mod_bd (v ^ (x / p).toNat) (m := m) (by omega)
          by_cases hone : v ^ (x / p).toNat % m = 1 % m
          · obtain ⟨hs, hsl⟩ := Num.orInv_take ph1 hx (by omega) hpr HD.out hone
            have ho : (v ^ (x / p).toNat % m == 1 % m) = true := by simp [hone]
            clear hone
            go_wp2_with (fail)
            go_region_held3 (fun wx => wx.cell? ⟨w.heap.size, 0, none⟩ = some (.int .i64 v) ∧ wx.cell? ⟨w.heap.size, 1, none⟩ = some (.int .i64 m)) (first | go_keep | assumption) (first | (go_at_call 44; refine (power_any _ _ _ _ h0 h1 h2 d0 (by omega)).mono ?_; rintro e w5 ⟨rfl, hb5⟩; obtain ⟨hc5, hf5⟩ := bcell hb5; have S5 : w5.cell? ⟨w.heap.size, 0, none⟩ = some (.int .i64 v) ∧ w5.cell? ⟨w.heap.size, 1, none⟩ = some (.int .i64 m) := ⟨(by rw [hc5 _ _ (by go_size)]; exact e1), (by rw [hc5 _ _ (by go_size)]; exact e2)⟩) | (go_at_call 59; refine (isOne_yes _ _ _ (by omega) h2 ho).mono ?_; rintro e w6 ⟨rfl, hb6⟩; obtain ⟨hc6, hf6⟩ := bcell hb6; have S6 : w6.cell? ⟨w.heap.size, 0, none⟩ = some (.int .i64 v) ∧ w6.cell? ⟨w.heap.size, 1, none⟩ = some (.int .i64 m) := ⟨(by rw [hc6 _ _ (by have := hb5.size; simp only [World.size_drew] at this; omega)]; exact S5.1), (by rw [hc6 _ _ (by have := hb5.size; simp only [World.size_drew] at this; omega)]; exact S5.2)⟩))
            all_goals
              have Z5 := hb5.size
              have Z6 := hb6.size
              have Z3 := bx.size
              simp only [World.size_drew] at Z5
              go_wp2
              exact ⟨⟨_, rfl, hs, (bx.drew.trans (hb5.mono (by go_size))).trans (hb6.mono (by go_size))⟩, by simp [intOf]; omega⟩
          · have hn := Num.orInv_next hx (fun h => hone (by rw [HPJ.out] at h; exact h.2))
            have ho : (v ^ (x / p).toNat % m == 1 % m) = false := by simp [hone]
            clear hone
            go_wp2_with (fail)
            go_region_held3 (fun wx => wx.cell? ⟨w.heap.size, 0, none⟩ = some (.int .i64 v) ∧ wx.cell? ⟨w.heap.size, 1, none⟩ = some (.int .i64 m)) (first | go_keep | assumption) (first | (go_at_call 44; refine (power_any _ _ _ _ h0 h1 h2 d0 (by omega)).mono ?_; rintro e w5 ⟨rfl, hb5⟩; obtain ⟨hc5, hf5⟩ := bcell hb5; have S5 : w5.cell? ⟨w.heap.size, 0, none⟩ = some (.int .i64 v) ∧ w5.cell? ⟨w.heap.size, 1, none⟩ = some (.int .i64 m) := ⟨(by rw [hc5 _ _ (by go_size)]; exact e1), (by rw [hc5 _ _ (by go_size)]; exact e2)⟩) | (go_at_call 59; refine (isOne_no _ _ _ (by omega) h2 ho).mono ?_; rintro e w6 ⟨rfl, hb6⟩; obtain ⟨hc6, hf6⟩ := bcell hb6; have S6 : w6.cell? ⟨w.heap.size, 0, none⟩ = some (.int .i64 v) ∧ w6.cell? ⟨w.heap.size, 1, none⟩ = some (.int .i64 m) := ⟨(by rw [hc6 _ _ (by have := hb5.size; simp only [World.size_drew] at this; omega)]; exact S5.1), (by rw [hc6 _ _ (by have := hb5.size; simp only [World.size_drew] at this; omega)]; exact S5.2)⟩))
            all_goals
              have Z5 := hb5.size
              have Z6 := hb6.size
              have Z3 := bx.size
              simp only [World.size_drew] at Z5
              go_wp2
              exact ⟨⟨j + 1, x, by go_num, rfl, by omega, hn, (bx.drew.trans (hb5.mono (by go_size))).trans (hb6.mono (by go_size))⟩, by simp [intOf]; omega⟩
        · have hn := Num.orInv_next hx (fun h => hd (by rw [HPJ.out] at h; exact h.1))
          have ht : (x % p == 0) = false := by simp [hd]
          clear hd
          go_wp2_with (fail)
          go_quiet (fail)
          go_wp2
          exact ⟨⟨j + 1, x, by go_num, rfl, by omega, hn, below_drewN bx _⟩, by simp [intOf]; omega⟩
    · have hge : ¬ ((j : Int) < ((Num.facP 2 N).length : Int)) := by omega
      have HE := Lib.hid (Num.orInv_end ph1 hm1 HG.out hc (by omega))
      go_wp2
      go_ret2
      exact ⟨by rw [HE.out]; rfl, bel3.trans (bw.mono (by omega))⟩

theorem order_no (v m : Int) (w : World) (h0 : 0 ≤ v) (h1 : v < m) (h2 : m ≤ 1000000) (hg1 : Int.gcd v m ≠ 1) :
    Calls Try.prog 49 #[.agg #[.int .i64 v, .int .i64 m]] w fun e w' => e = .returned (.tuple #[.int .i64 0, .bool false]) ∧ Below w.heap.size w w' := by
  have HG := Lib.hid hg1
  clear hg1
  go_enter Try.func49, Try.ntmps49
  go_wp2_with (fail)
  refine (inverse_no _ _ _ h0 h1 h2 HG.out).mono ?_; rintro e w1 ⟨rfl, hb1⟩
  have z1 := hb1.size
  simp only [World.size_alloc] at z1
  go_wp2
  go_ret2
  exact ⟨rfl, (((Below.refl _ _).alloc (Nat.le_refl _) _).trans (hb1.mono (by go_size))).alloc (by omega) _⟩
theorem unitOrder_ok (a m : Int) (w : World) (hm1 : 1 ≤ m) (hm2 : m ≤ 1000000) (hg : Int.gcd (a % m) m = 1) :
    Calls Try.prog 24 #[.int .i64 a, .int .i64 m] w fun e w' => e = .returned (.tuple #[.int .i64 (Num.ordM (a % m) m), .int .i64 0]) ∧ Below w.heap.size w w' := by
  obtain ⟨v0, v1⟩ := Num.mod_bd a (m := m) (by omega)
  have HG := Lib.hid hg
  clear hg
  go_enter Try.func24, Try.ntmps24
  go_wp2_with (go_at_call 40; refine (isNumber_yes _ _ hm1 hm2).mono ?_; rintro e w' ⟨rfl, rfl⟩)
  refine (residueOf_any _ _ _ hm1 hm2).mono ?_
  rintro e w1 ⟨rfl, hb1⟩
  go_wp2_with (fail)
  refine (order_yes _ _ _ v0 v1 hm2 HG.out).mono ?_
  rintro e w2 ⟨rfl, hb2⟩
  go_wp2
  go_ret2
  exact ⟨rfl, hb1.trans (hb2.mono hb1.size)⟩
theorem unitOrder_none (a m : Int) (w : World) (hm1 : 1 ≤ m) (hm2 : m ≤ 1000000) (hg : Int.gcd (a % m) m ≠ 1) :
    Calls Try.prog 24 #[.int .i64 a, .int .i64 m] w fun e w' => e = .returned (.tuple #[.int .i64 0, .int .i64 4]) ∧ Below w.heap.size w w' := by
  obtain ⟨v0, v1⟩ := Num.mod_bd a (m := m) (by omega)
  have HG := Lib.hid hg
  clear hg
  go_enter Try.func24, Try.ntmps24
  go_wp2_with (go_at_call 40; refine (isNumber_yes _ _ hm1 hm2).mono ?_; rintro e w' ⟨rfl, rfl⟩)
  refine (residueOf_any _ _ _ hm1 hm2).mono ?_
  rintro e w1 ⟨rfl, hb1⟩
  go_wp2_with (fail)
  refine (order_no _ _ _ v0 v1 hm2 HG.out).mono ?_
  rintro e w2 ⟨rfl, hb2⟩
  go_wp2
  go_ret2
  exact ⟨rfl, hb1.trans (hb2.mono hb1.size)⟩
theorem unitOrder_bad (a m : Int) (w : World) (hn : m < 1 ∨ 1000000 < m) :
    Calls Try.prog 24 #[.int .i64 a, .int .i64 m] w fun e w' => e = .returned (.tuple #[.int .i64 0, .int .i64 2]) ∧ w = w' := by
  go_enter Try.func24, Try.ntmps24
  go_wp2_with (go_at_call 40; refine (isNumber_no _ _ hn).mono ?_; rintro e w' ⟨rfl, rfl⟩)
  go_ret2
  exact ⟨rfl, rfl⟩
theorem sUnitOrder_bad (a m : Int) (w : World) (hn : m < 1 ∨ 1000000 < m) :
    Calls Try.prog 32 #[.int .i64 a, .int .i64 m] w fun e w' => e = .returned (.tuple #[.int .i64 0, .int .i64 2]) ∧ w = w' := by
  go_enter Try.func32, Try.ntmps32
  go_wp2_with (go_at_call 42; refine (sIn_no _ _ _ _ hn).mono ?_; rintro e w' ⟨rfl, rfl⟩)
  go_ret2
  exact ⟨rfl, rfl⟩
theorem sUnitOrder_none (a m : Int) (w : World) (hm1 : 1 ≤ m) (hm2 : m ≤ 1000000) (hg : Int.gcd (a % m) m ≠ 1) :
    Calls Try.prog 32 #[.int .i64 a, .int .i64 m] w fun e w' => e = .returned (.tuple #[.int .i64 0, .int .i64 4]) ∧ w = w' := by
  obtain ⟨v0, v1⟩ := Num.mod_bd a (m := m) (by omega)
  have ht : ((Int.gcd (a % m) m : Int) == 1) = false := by simp; omega
  clear hg
  go_enter Try.func32, Try.ntmps32
  go_wp2_with (first | (go_at_call 42; refine (sIn_yes _ _ _ _ hm1 hm2).mono ?_; rintro e w' ⟨rfl, rfl⟩) | (go_at_call 46; refine (sMod_any _ _ _ hm1 hm2).mono ?_; rintro e w' ⟨rfl, rfl⟩) | (go_at_call 47; refine (sGcd_any _ _ _ v0 (by omega) (by omega) hm2).mono ?_; rintro e w' ⟨rfl, rfl⟩))
  go_ret2
  exact ⟨rfl, rfl⟩
set_option maxHeartbeats 400000 in
theorem sUnitOrder_ok (a m : Int) (w : World) (hm1 : 1 ≤ m) (hm2 : m ≤ 1000000) (hg : Int.gcd (a % m) m = 1) :
    Calls Try.prog 32 #[.int .i64 a, .int .i64 m] w fun e w' => e = .returned (.tuple #[.int .i64 (Num.ordM (a % m) m), .int .i64 0]) ∧ Below w.heap.size w w' := by
  obtain ⟨v0, v1⟩ := Num.mod_bd a (m := m) (by omega)
  have ht : ((Int.gcd (a % m) m : Int) == 1) = true := by simp [hg]
  obtain ⟨ho, hop⟩ := Num.ord_spec hm1 hg
  have hph := Num.phi_bd hm1
  have ho1 := ho.1
  have ho2 : Num.ordM (a % m) m ≤ m := by omega
  have HO := Lib.hid ho
  clear hg ho hop hph
  generalize hv : a % m = v at *
  go_enter Try.func32, Try.ntmps32
  go_wp2_with (first | (go_at_call 42; refine (sIn_yes _ _ _ _ hm1 hm2).mono ?_; rintro e w' ⟨rfl, rfl⟩) | (go_at_call 46; refine (sMod_any _ _ _ hm1 hm2).mono ?_; rintro e w' ⟨rfl, rfl⟩) | (go_at_call 47; refine (sGcd_any _ _ _ (by omega) (by omega) (by omega) hm2).mono ?_; rintro e w' ⟨rfl, rfl⟩))
  go_loop [7, 8] (fun s7 s8 => ∃ k : Int, s7 = .int .i64 (v ^ k.toNat % m) ∧ s8 = .int .i64 k ∧ 1 ≤ k ∧ k ≤ Num.ordM v m) (fun _ s8 => (Num.ordM v m - intOf s8).toNat)
  case atStart =>
    refine ⟨1, ?_, rfl, by omega, by omega⟩
    show Value.int .i64 v = .int .i64 (v ^ 1 % m)
    rw [Int.pow_succ, Int.pow_zero, Int.one_mul, Int.emod_eq_of_lt v0 v1]
  case round =>
    obtain ⟨k, rfl, rfl, k1, k2⟩ := hrel
    obtain ⟨y0, y1⟩ := Num.mod_bd (v ^ k.toNat) (m := m) (by omega)
    obtain ⟨f0, f1⟩ := Num.mul_fits y0 y1 v0 v1 hm2
    by_cases hk : k = Num.ordM v m
    · have hone : (v ^ k.toNat % m == 1 % m) = true := by rw [hk]; simp [HO.out.2.1]
      have hone' : (v ^ k.toNat % m != 1 % m) = false := by rw [hk]; simp [HO.out.2.1]
      have HK := Lib.hid hk
      clear hk
      generalize v ^ k.toNat % m = x at *
      go_wp2
      go_ret2
      exact ⟨ret_int2 HK.out rfl, Below.refl _ _⟩
    · have hone : (v ^ k.toNat % m == 1 % m) = false := by
        have := HO.out.2.2 k k1 (by omega)
        simpa using this
      have hone' : (v ^ k.toNat % m != 1 % m) = true := by
        have := HO.out.2.2 k k1 (by omega)
        simpa using this
      have HM : Hid (v ^ k.toNat % m * v % m = v ^ (k + 1).toNat % m) := Lib.hid (by
        rw [show (k + 1).toNat = k.toNat + 1 by omega, Int.pow_succ, Num.mul_mod_left])
      have hkm : k ≤ m := by omega
      have hkt : decide (k ≤ m) = true := by simpa using hkm
      have hklt : k < Num.ordM v m := by omega
      clear hk
      generalize v ^ k.toNat % m = x at *
      go_wp2
      exact ⟨⟨k + 1, by rw [HM.out], rfl, by omega, by omega⟩, by simp [intOf]; omega⟩
end Go.Proofs.Ytkgiffmnhpbpiaa
