/- CountPrimeSubgroups of the program and of the model. -/
import Derived.Test.YtihdidbikeaafaaL07J
namespace Go.Proofs.Ytihdidbikeaafaa
open Go.RowKit
set_option linter.unusedVariables false
set_option linter.unusedSimpArgs false
set_option maxRecDepth 100000 in
set_option maxHeartbeats 1000000 in
theorem iCountPrimeSubgroups_any (v0 : Value) (x0 : Ab) (p : Int) (w : World) (h0 : spAb.rd w v0 x0) : Calls Try.prog 37 #[v0, .int .i64 p] w (RetI (rCountPrimeSubgroups x0 p) (cCountPrimeSubgroups x0 p) w) := by
  obtain ⟨F, K⟩ := x0
  obtain ⟨_, rfl, A, c, rfl, hm, hA0⟩ := h0
  replace hA0 : RdI w A F := hA0
  replace hm : F.length ≤ maxLen := hm
  have L : Below w.heap.size w (w.alloc (.cells [.slice A F.length c, .int .i64 K].toArray 38)) := by go_grown
  have Ba : Blk (w.alloc (.cells [.slice A F.length c, .int .i64 K].toArray 38)) w.heap.size [.slice A F.length c, .int .i64 K] 38 := Blk.new w _ _
  have K0 := Lib.hid (spAb.rd_below (x := ⟨F, K⟩) (v := .agg #[.slice A F.length c, .int .i64 K]) ⟨_, rfl, A, c, rfl, hm, hA0⟩ L)
  cases hk : Ab.ok ⟨F, K⟩ with
  | false =>
    have HE := Lib.hid (Ab.psub_bad (p := p) hk)
    have HC := Lib.hid (isAb_no _ _ _ K0.out hk)
    clear hk hA0 hm
    obtain ⟨bl, a0, a1⟩ := Ba.c2
    go_enter Try.func37, Try.ntmps37
    go_wp2_with (fail)
    refine HC.out.mono ?_; rintro e w1 ⟨rfl, hb⟩
    replace L := bstep L L.size hb
    replace Ba := Ba.below hb
    replace K0 := Lib.hid (spAb.rd_below K0.out hb)
    clear a0 a1 bl HC hb
    obtain ⟨bl, a0, a1⟩ := Ba.c2
    go_wp2_with (fail)
    refine bodyPost_ret (v := .tuple #[.int .i64 0, .int .i64 1]) (by simp [results, Try.results37, go_sem]) rfl ?_
    rw [HE.out.1, HE.out.2]
    exact ⟨rfl, L⟩
  | true =>
    have HC := Lib.hid (isAb_yes _ _ _ K0.out hk)
    by_cases hP : p ≤ 1000 ∧ Num.isP p = true
    · have HE := Lib.hid (Ab.psub_ok hk hP)
      obtain ⟨p1, p2⟩ := hP
      have p0 : 2 ≤ p := by
        by_cases h : p < 2
        · rw [Num.isP_small h] at p2; cases p2
        · omega
      have hbp : Num.baseN p = p := by
        unfold Num.isP at p2
        simp at p2
        exact p2.2
      have hl10 : F.length ≤ 10 := (Ab.ok_out hk).1
      have HF : Hid (∀ W, Below w.heap.size w W → RdI W A F) := Lib.hid fun W hW => hA0.below' hW
      have HR : Hid (∀ j, j < F.length → 2 ≤ F.getD j 0 ∧ F.getD j 0 ≤ 1000000) := Lib.hid fun j hj => (Ab.ok_out hk).2.2.2.1 j hj
      rw [HE.out.1, HE.out.2]
      clear hk hA0 hm HE
      have np : ¬ 1000 < p := by omega
      have HP : Hid (∀ W, Calls Try.prog 74 #[.int .i64 p] W fun e w' => e = .returned (.bool true) ∧ Below W.heap.size W w') := Lib.hid fun W => by have := isPrime_any p W p1; rwa [p2] at this
      clear p2 hbp
      obtain ⟨bl, a0, a1⟩ := Ba.c2
      go_enter Try.func37, Try.ntmps37
      go_wp2_with (fail)
      refine HC.out.mono ?_; rintro e w1 ⟨rfl, hb⟩
      replace L := bstep L L.size hb
      replace Ba := Ba.below hb
      replace K0 := Lib.hid (spAb.rd_below K0.out hb)
      clear a0 a1 bl HC hb
      obtain ⟨bl, a0, a1⟩ := Ba.c2
      go_wp2_with (fail)
      refine (HP.out _).mono ?_; rintro e w2 ⟨rfl, hb⟩
      replace L := bstep L L.size hb
      replace Ba := Ba.below hb
      clear a0 a1 bl HP hb
      obtain ⟨bl, a0, a1⟩ := Ba.c2
      go_wp2_with (fail)
      go_loop [6, 24] (fun s6 s24 => ∃ (n : Int) (j : Nat), j ≤ F.length ∧ s6 = .int .i64 n ∧ s24 = .int .i64 j ∧ Num.LinInv p F n j) (fun _ s24 => F.length - (intOf s24).toNat)
      case atStart => exact ⟨0, 0, by omega, rfl, rfl, Num.linInv_start p F⟩
      case round =>
        obtain ⟨n, j, hj, rfl, rfl, hi⟩ := hrel
        have n0 := hi.1
        have n1 := hi.2.1
        obtain ⟨m0, m1⟩ := Num.lin_mul n0 n1 p0 p1
        have m2 : p * n = n * p := Int.mul_comm _ _
        have nmx : ¬ 1000000000000000 < n := by omega
        by_cases hlt : j < F.length
        · obtain ⟨g, o, rfl, hg, hc⟩ := (HF.out _ L) j hlt
          have i0 : (0 : Int) ≤ (j : Int) := by omega
          have i1 : (j : Int) < (F.length : Int) := by omega
          obtain ⟨x1, x2⟩ := HR.out j hlt
          have x0 : 0 ≤ F.getD j 0 := by omega
          by_cases hx : F.getD j 0 % p = 0
          · by_cases hov : 1000000000000000 < n * p + 1
            · obtain ⟨r1, r2⟩ := Num.linInv_over hi hlt hx hov
              have HB := Lib.hid r1
              have HB2 := Lib.hid r2
              have T1 : (F.getD j 0 % p == 0) = true := by rw [hx]; rfl
              have T2 : 999999999999999 / p < n := (Num.lin_quo p0).mpr hov
              clear hi r1 r2 hx
              generalize F.getD j 0 = x at *
              go_wp2_with (fail)
              refine bodyPost_ret (v := .tuple #[.int .i64 0, .int .i64 3]) (by simp [results, Try.results37, go_sem]) rfl ?_
              rw [HB.out, HB2.out]
              exact ⟨rfl, L⟩
            · have HP2 := Lib.hid (Num.linInv_step hi hlt (by omega) hx hov)
              have T1 : (F.getD j 0 % p == 0) = true := by rw [hx]; rfl
              have T2 : ¬ 999999999999999 / p < n := fun h => hov ((Num.lin_quo p0).mp h)
              have m3 : 1 + p * n = n * p + 1 := by omega
              clear hi hx
              generalize F.getD j 0 = x at *
              go_wp2_with (fail)
              exact ⟨⟨n * p + 1, j + 1, by omega, by first | rfl | go_num | (rw [m3]), by go_num, HP2.out⟩, by simp [intOf]; omega⟩
          · have HP2 := Lib.hid (Num.linInv_skip hi hlt hx)
            have T1 : (F.getD j 0 % p == 0) = false := beq_eq_false_iff_ne.mpr hx
            clear hi hx
            generalize F.getD j 0 = x at *
            go_wp2_with (fail)
            exact ⟨⟨n, j + 1, by omega, rfl, by go_num, HP2.out⟩, by simp [intOf]; omega⟩
        · have hge : ¬ ((j : Int) < (F.length : Int)) := by omega
          obtain rfl : j = F.length := by omega
          obtain ⟨r1, r2⟩ := Num.linInv_end hi
          have HB := Lib.hid r1
          have HB2 := Lib.hid r2
          clear hi r1 r2
          go_wp2_with (fail)
          refine bodyPost_ret (v := .tuple #[.int .i64 n, .int .i64 0]) (by simp [results, Try.results37, go_sem]) rfl ?_
          rw [HB.out, HB2.out]
          exact ⟨rfl, L⟩
    · have HE := Lib.hid (Ab.psub_rng hk hP)
      clear hk hA0 hm
      by_cases p1 : p ≤ 1000
      · have hpf : Num.isP p = false := by
          cases h : Num.isP p with
          | false => rfl
          | true => exact absurd ⟨p1, h⟩ hP
        have HP : Hid (∀ W, Calls Try.prog 74 #[.int .i64 p] W fun e w' => e = .returned (.bool false) ∧ Below W.heap.size W w') := Lib.hid fun W => by have := isPrime_any p W p1; rwa [hpf] at this
        have np : ¬ 1000 < p := by omega
        clear hpf hP
        obtain ⟨bl, a0, a1⟩ := Ba.c2
        go_enter Try.func37, Try.ntmps37
        go_wp2_with (fail)
        refine HC.out.mono ?_; rintro e w1 ⟨rfl, hb⟩
        replace L := bstep L L.size hb
        replace Ba := Ba.below hb
        replace K0 := Lib.hid (spAb.rd_below K0.out hb)
        clear a0 a1 bl HC hb
        obtain ⟨bl, a0, a1⟩ := Ba.c2
        go_wp2_with (fail)
        refine (HP.out _).mono ?_; rintro e w2 ⟨rfl, hb⟩
        replace L := bstep L L.size hb
        clear HP hb
        go_wp2_with (fail)
        refine bodyPost_ret (v := .tuple #[.int .i64 0, .int .i64 2]) (by simp [results, Try.results37, go_sem]) rfl ?_
        rw [HE.out.1, HE.out.2]
        exact ⟨rfl, L⟩
      · have np : 1000 < p := by omega
        clear hP
        obtain ⟨bl, a0, a1⟩ := Ba.c2
        go_enter Try.func37, Try.ntmps37
        go_wp2_with (fail)
        refine HC.out.mono ?_; rintro e w1 ⟨rfl, hb⟩
        replace L := bstep L L.size hb
        replace Ba := Ba.below hb
        replace K0 := Lib.hid (spAb.rd_below K0.out hb)
        clear a0 a1 bl HC hb
        obtain ⟨bl, a0, a1⟩ := Ba.c2
        go_wp2_with (fail)
        refine bodyPost_ret (v := .tuple #[.int .i64 0, .int .i64 2]) (by simp [results, Try.results37, go_sem]) rfl ?_
        rw [HE.out.1, HE.out.2]
        exact ⟨rfl, L⟩
set_option maxRecDepth 100000 in
set_option maxHeartbeats 1000000 in
theorem sCountPrimeSubgroups_any (v0 : Value) (x0 : Ab) (p : Int) (w : World) (h0 : spAb.rd w v0 x0) : Calls Try.prog 36 #[v0, .int .i64 p] w (RetI (rCountPrimeSubgroups x0 p) (cCountPrimeSubgroups x0 p) w) := by
  obtain ⟨F, K⟩ := x0
  obtain ⟨_, rfl, A, c, rfl, hm, hA0⟩ := h0
  replace hA0 : RdI w A F := hA0
  replace hm : F.length ≤ maxLen := hm
  have L : Below w.heap.size w (w.alloc (.cells [.slice A F.length c, .int .i64 K].toArray 38)) := by go_grown
  have Ba : Blk (w.alloc (.cells [.slice A F.length c, .int .i64 K].toArray 38)) w.heap.size [.slice A F.length c, .int .i64 K] 38 := Blk.new w _ _
  have K0 := Lib.hid (spAb.rd_below (x := ⟨F, K⟩) (v := .agg #[.slice A F.length c, .int .i64 K]) ⟨_, rfl, A, c, rfl, hm, hA0⟩ L)
  cases hk : Ab.ok ⟨F, K⟩ with
  | false =>
    have HE := Lib.hid (Ab.psub_bad (p := p) hk)
    have HC := Lib.hid (sIsAb_no _ _ _ K0.out hk)
    clear hk hA0 hm
    obtain ⟨bl, a0, a1⟩ := Ba.c2
    go_enter Try.func36, Try.ntmps36
    go_wp2_with (fail)
    refine HC.out.mono ?_; rintro e w1 ⟨rfl, hb⟩
    replace L := bstep L L.size hb
    replace Ba := Ba.below hb
    replace K0 := Lib.hid (spAb.rd_below K0.out hb)
    clear a0 a1 bl HC hb
    obtain ⟨bl, a0, a1⟩ := Ba.c2
    go_wp2_with (fail)
    refine bodyPost_ret (v := .tuple #[.int .i64 0, .int .i64 1]) (by simp [results, Try.results36, go_sem]) rfl ?_
    rw [HE.out.1, HE.out.2]
    exact ⟨rfl, L⟩
  | true =>
    have HC := Lib.hid (sIsAb_yes _ _ _ K0.out hk)
    by_cases hP : p ≤ 1000 ∧ Num.isP p = true
    · have HE := Lib.hid (Ab.psub_ok hk hP)
      obtain ⟨p1, p2⟩ := hP
      have p0 : 2 ≤ p := by
        by_cases h : p < 2
        · rw [Num.isP_small h] at p2; cases p2
        · omega
      have hbp : Num.baseN p = p := by
        unfold Num.isP at p2
        simp at p2
        exact p2.2
      have hl10 : F.length ≤ 10 := (Ab.ok_out hk).1
      have HF : Hid (∀ W, Below w.heap.size w W → RdI W A F) := Lib.hid fun W hW => hA0.below' hW
      have HR : Hid (∀ j, j < F.length → 2 ≤ F.getD j 0 ∧ F.getD j 0 ≤ 1000000) := Lib.hid fun j hj => (Ab.ok_out hk).2.2.2.1 j hj
      rw [HE.out.1, HE.out.2]
      clear hk hA0 hm HE
      have np : ¬ 1000 < p := by omega
      have HP : Hid (∀ W, Calls Try.prog 73 #[.int .i64 p] W fun e w' => e = .returned (.int .i64 p) ∧ W = w') := Lib.hid fun W => by have := sBase_any p W (by omega); rwa [hbp] at this
      have PP := Lib.hid p0
      have PQ := Lib.hid p1
      clear p2 hbp
      obtain ⟨bl, a0, a1⟩ := Ba.c2
      go_enter Try.func36, Try.ntmps36
      go_wp2_with (fail)
      refine HC.out.mono ?_; rintro e w1 ⟨rfl, hb⟩
      replace L := bstep L L.size hb
      replace Ba := Ba.below hb
      replace K0 := Lib.hid (spAb.rd_below K0.out hb)
      clear a0 a1 bl HC hb
      obtain ⟨bl, a0, a1⟩ := Ba.c2
      go_wp2_with (first | (go_at_call 52; refine (sIn_yes _ _ _ _ PP.out PQ.out).mono ?_; rintro e w' ⟨rfl, rfl⟩) | (go_at_call 73; refine (HP.out _).mono ?_; rintro e w2 ⟨rfl, rfl⟩))
      go_loop [6, 7] (fun s6 s24 => ∃ (n : Int) (j : Nat), j ≤ F.length ∧ s6 = .int .i64 n ∧ s24 = .int .i64 j ∧ Num.LinInv p F n j) (fun _ s24 => F.length - (intOf s24).toNat)
      case atStart => exact ⟨0, 0, by omega, rfl, rfl, Num.linInv_start p F⟩
      case round =>
        obtain ⟨n, j, hj, rfl, rfl, hi⟩ := hrel
        have n0 := hi.1
        have n1 := hi.2.1
        obtain ⟨m0, m1⟩ := Num.lin_mul n0 n1 p0 p1
        have m2 : p * n = n * p := Int.mul_comm _ _
        have nmx : ¬ 1000000000000000 < n := by omega
        by_cases hlt : j < F.length
        · obtain ⟨g, o, rfl, hg, hc⟩ := (HF.out _ L) j hlt
          have i0 : (0 : Int) ≤ (j : Int) := by omega
          have i1 : (j : Int) < (F.length : Int) := by omega
          obtain ⟨x1, x2⟩ := HR.out j hlt
          have x0 : 0 ≤ F.getD j 0 := by omega
          by_cases hx : F.getD j 0 % p = 0
          · by_cases hov : 1000000000000000 < n * p + 1
            · obtain ⟨r1, r2⟩ := Num.linInv_over hi hlt hx hov
              have HB := Lib.hid r1
              have HB2 := Lib.hid r2
              have T1 : (F.getD j 0 % p == 0) = true := by rw [hx]; rfl
              have T2 : 999999999999999 / p < n := (Num.lin_quo p0).mpr hov
              clear hi r1 r2 hx
              generalize F.getD j 0 = x at *
              go_wp2_with (fail)
              refine bodyPost_ret (v := .tuple #[.int .i64 0, .int .i64 3]) (by simp [results, Try.results36, go_sem]) rfl ?_
              rw [HB.out, HB2.out]
              exact ⟨rfl, L⟩
            · have HP2 := Lib.hid (Num.linInv_step hi hlt (by omega) hx hov)
              have T1 : (F.getD j 0 % p == 0) = true := by rw [hx]; rfl
              have T2 : ¬ 999999999999999 / p < n := fun h => hov ((Num.lin_quo p0).mp h)
              have m3 : 1 + p * n = n * p + 1 := by omega
              clear hi hx
              generalize F.getD j 0 = x at *
              go_wp2_with (fail)
              exact ⟨⟨n * p + 1, j + 1, by omega, by first | rfl | go_num | (rw [m3]), by go_num, HP2.out⟩, by simp [intOf]; omega⟩
          · have HP2 := Lib.hid (Num.linInv_skip hi hlt hx)
            have T1 : (F.getD j 0 % p == 0) = false := beq_eq_false_iff_ne.mpr hx
            clear hi hx
            generalize F.getD j 0 = x at *
            go_wp2_with (fail)
            exact ⟨⟨n, j + 1, by omega, rfl, by go_num, HP2.out⟩, by simp [intOf]; omega⟩
        · have hge : ¬ ((j : Int) < (F.length : Int)) := by omega
          obtain rfl : j = F.length := by omega
          obtain ⟨r1, r2⟩ := Num.linInv_end hi
          have HB := Lib.hid r1
          have HB2 := Lib.hid r2
          clear hi r1 r2
          go_wp2_with (fail)
          refine bodyPost_ret (v := .tuple #[.int .i64 n, .int .i64 0]) (by simp [results, Try.results36, go_sem]) rfl ?_
          rw [HB.out, HB2.out]
          exact ⟨rfl, L⟩
    · have HE := Lib.hid (Ab.psub_rng hk hP)
      clear hk hA0 hm
      by_cases p1 : 2 ≤ p ∧ p ≤ 1000
      · obtain ⟨p0, p1⟩ := p1
        have hbp : ¬ Num.baseN p = p := fun h => hP ⟨p1, by unfold Num.isP; rw [decide_eq_true p0, decide_eq_true h]; rfl⟩
        have HP : Hid (∀ W, Calls Try.prog 73 #[.int .i64 p] W fun e w' => e = .returned (.int .i64 (Num.baseN p)) ∧ W = w') := Lib.hid fun W => sBase_any p W (by omega)
        have T1 : (Num.baseN p != p) = true := bne_iff_ne.mpr hbp
        have PP := Lib.hid p0
        have PQ := Lib.hid p1
        clear hbp hP
        generalize Num.baseN p = y at *
        obtain ⟨bl, a0, a1⟩ := Ba.c2
        go_enter Try.func36, Try.ntmps36
        go_wp2_with (fail)
        refine HC.out.mono ?_; rintro e w1 ⟨rfl, hb⟩
        replace L := bstep L L.size hb
        replace Ba := Ba.below hb
        replace K0 := Lib.hid (spAb.rd_below K0.out hb)
        clear a0 a1 bl HC hb
        obtain ⟨bl, a0, a1⟩ := Ba.c2
        go_wp2_with (first | (go_at_call 52; refine (sIn_yes _ _ _ _ PP.out PQ.out).mono ?_; rintro e w' ⟨rfl, rfl⟩) | (go_at_call 73; refine (HP.out _).mono ?_; rintro e w2 ⟨rfl, rfl⟩))
        refine bodyPost_ret (v := .tuple #[.int .i64 0, .int .i64 2]) (by simp [results, Try.results36, go_sem]) rfl ?_
        rw [HE.out.1, HE.out.2]
        exact ⟨rfl, L⟩
      · have PP : Hid (p < 2 ∨ 1000 < p) := Lib.hid (by omega)
        clear hP p1
        obtain ⟨bl, a0, a1⟩ := Ba.c2
        go_enter Try.func36, Try.ntmps36
        go_wp2_with (fail)
        refine HC.out.mono ?_; rintro e w1 ⟨rfl, hb⟩
        replace L := bstep L L.size hb
        replace Ba := Ba.below hb
        replace K0 := Lib.hid (spAb.rd_below K0.out hb)
        clear a0 a1 bl HC hb
        obtain ⟨bl, a0, a1⟩ := Ba.c2
        go_wp2_with (first | (go_at_call 52; refine (sIn_no _ _ _ _ PP.out).mono ?_; rintro e w' ⟨rfl, rfl⟩))
        refine bodyPost_ret (v := .tuple #[.int .i64 0, .int .i64 2]) (by simp [results, Try.results36, go_sem]) rfl ?_
        rw [HE.out.1, HE.out.2]
        exact ⟨rfl, L⟩
theorem iCountPrimeSubgroups_ok (v0 : Value) (x0 : Ab) (x1 : Int) (w : World) (h0 : spAb.rd w v0 x0) (s0 : spAb.sz x0 ≤ 1048576) : Calls Try.prog 37 #[v0, .int .i64 x1] w (RetI (rCountPrimeSubgroups x0 x1) (cCountPrimeSubgroups x0 x1) w) := iCountPrimeSubgroups_any v0 x0 x1 w h0
theorem sCountPrimeSubgroups_ok (v0 : Value) (x0 : Ab) (x1 : Int) (w : World) (h0 : spAb.rd w v0 x0) (s0 : spAb.sz x0 ≤ 1048576) : Calls Try.prog 36 #[v0, .int .i64 x1] w (RetI (rCountPrimeSubgroups x0 x1) (cCountPrimeSubgroups x0 x1) w) := sCountPrimeSubgroups_any v0 x0 x1 w h0
end Go.Proofs.Ytihdidbikeaafaa
