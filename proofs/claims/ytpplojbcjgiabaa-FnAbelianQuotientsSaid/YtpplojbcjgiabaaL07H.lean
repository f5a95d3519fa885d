/- HasAbelianQuotient of the model. -/
import Derived.Test.YtpplojbcjgiabaaL07F
namespace Go.Proofs.Ytpplojbcjgiabaa
open Go.RowKit
set_option linter.unusedVariables false
set_option linter.unusedSimpArgs false
set_option maxRecDepth 100000 in
set_option maxHeartbeats 2000000 in
theorem sHasAbelianQuotient_any (v0 v1 : Value) (x0 x1 : Ab) (w : World) (h0 : spAb.rd w v0 x0) (h1 : spAb.rd w v1 x1) : Calls Try.prog 20 #[v0, v1] w (RetBC (rHasAbelianQuotient x0 x1) (cHasAbelianQuotient x0 x1) w) := by
  obtain ⟨F0, K0⟩ := x0
  obtain ⟨_, rfl, A0, c0, rfl, hm0, hA0⟩ := h0
  replace hA0 : RdI w A0 F0 := hA0
  replace hm0 : F0.length ≤ maxLen := hm0
  obtain ⟨F1, K1⟩ := x1
  obtain ⟨_, rfl, A1, c1, rfl, hm1, hA1⟩ := h1
  replace hA1 : RdI w A1 F1 := hA1
  replace hm1 : F1.length ≤ maxLen := hm1
  have L : Below w.heap.size w ((w.alloc (.cells [.slice A0 F0.length c0, .int .i64 K0].toArray 40)).alloc (.cells [.slice A1 F1.length c1, .int .i64 K1].toArray 40)) := by go_grown
  have Ba : Blk ((w.alloc (.cells [.slice A0 F0.length c0, .int .i64 K0].toArray 40)).alloc (.cells [.slice A1 F1.length c1, .int .i64 K1].toArray 40)) w.heap.size [.slice A0 F0.length c0, .int .i64 K0] 40 := (Blk.new w [.slice A0 F0.length c0, .int .i64 K0] _).alloc _
  have Bb : Blk ((w.alloc (.cells [.slice A0 F0.length c0, .int .i64 K0].toArray 40)).alloc (.cells [.slice A1 F1.length c1, .int .i64 K1].toArray 40)) (w.heap.size + 1) [.slice A1 F1.length c1, .int .i64 K1] 40 := by have := Blk.new (w.alloc (.cells [.slice A0 F0.length c0, .int .i64 K0].toArray 40)) [.slice A1 F1.length c1, .int .i64 K1] 40; rwa [World.size_alloc] at this
  have R0 := Lib.hid (spAb.rd_below (x := ⟨F0, K0⟩) (v := .agg #[.slice A0 F0.length c0, .int .i64 K0]) ⟨_, rfl, A0, c0, rfl, hm0, hA0⟩ L)
  have R1 := Lib.hid (spAb.rd_below (x := ⟨F1, K1⟩) (v := .agg #[.slice A1 F1.length c1, .int .i64 K1]) ⟨_, rfl, A1, c1, rfl, hm1, hA1⟩ L)
  cases hk0 : Ab.ok ⟨F0, K0⟩ with
  | false =>
    have HE := Lib.hid (Ab.quo_bad (x := ⟨F0, K0⟩) (y := ⟨F1, K1⟩) (.inl hk0))
    have HC := Lib.hid (sIsAb_no _ _ _ R0.out hk0)
    clear hk0 hA0 hm0 hA1 hm1
    obtain ⟨bl0, a00, a01⟩ := Ba.c2
    obtain ⟨bl1, a10, a11⟩ := Bb.c2
    go_enter Try.func20, Try.ntmps20
    go_wp2_with (fail)
    refine HC.out.mono ?_; rintro e w1 ⟨rfl, hb⟩
    replace L := bstep L L.size hb
    replace Ba := Ba.below hb
    replace Bb := Bb.below hb
    replace R0 := Lib.hid (spAb.rd_below R0.out hb)
    replace R1 := Lib.hid (spAb.rd_below R1.out hb)
    clear a00 a01 a10 a11 bl0 bl1 HC hb
    obtain ⟨bl0, a00, a01⟩ := Ba.c2
    obtain ⟨bl1, a10, a11⟩ := Bb.c2
    go_wp2_with (fail)
    refine bodyPost_ret (v := .tuple #[.bool false, .int .i64 1]) (by simp [results, Try.results20, go_sem]) rfl ?_
    rw [HE.out.1, HE.out.2]
    exact ⟨rfl, L⟩
  | true =>
    have HC := Lib.hid (sIsAb_yes _ _ _ R0.out hk0)
    cases hk1 : Ab.ok ⟨F1, K1⟩ with
    | false =>
      have HE := Lib.hid (Ab.quo_bad (x := ⟨F0, K0⟩) (y := ⟨F1, K1⟩) (.inr hk1))
      have HC2 : Hid (∀ W, spAb.rd W (.agg #[.slice A1 F1.length c1, .int .i64 K1]) ⟨F1, K1⟩ → Calls Try.prog 49 #[.agg #[.slice A1 F1.length c1, .int .i64 K1]] W (RetB false W)) := Lib.hid fun W hW => sIsAb_no _ _ _ hW hk1
      clear hk0 hk1 hA0 hm0 hA1 hm1
      obtain ⟨bl0, a00, a01⟩ := Ba.c2
      obtain ⟨bl1, a10, a11⟩ := Bb.c2
      go_enter Try.func20, Try.ntmps20
      go_wp2_with (fail)
      refine HC.out.mono ?_; rintro e w1 ⟨rfl, hb⟩
      replace L := bstep L L.size hb
      replace Ba := Ba.below hb
      replace Bb := Bb.below hb
      replace R0 := Lib.hid (spAb.rd_below R0.out hb)
      replace R1 := Lib.hid (spAb.rd_below R1.out hb)
      clear a00 a01 a10 a11 bl0 bl1 HC hb
      obtain ⟨bl0, a00, a01⟩ := Ba.c2
      obtain ⟨bl1, a10, a11⟩ := Bb.c2
      go_wp2_with (fail)
      refine (HC2.out _ R1.out).mono ?_; rintro e w2 ⟨rfl, hb⟩
      replace L := bstep L L.size hb
      replace Ba := Ba.below hb
      replace Bb := Bb.below hb
      replace R0 := Lib.hid (spAb.rd_below R0.out hb)
      replace R1 := Lib.hid (spAb.rd_below R1.out hb)
      clear a00 a01 a10 a11 bl0 bl1 HC2 hb
      obtain ⟨bl0, a00, a01⟩ := Ba.c2
      obtain ⟨bl1, a10, a11⟩ := Bb.c2
      go_wp2_with (fail)
      refine bodyPost_ret (v := .tuple #[.bool false, .int .i64 1]) (by simp [results, Try.results20, go_sem]) rfl ?_
      rw [HE.out.1, HE.out.2]
      exact ⟨rfl, L⟩
    | true =>
      have HC2 : Hid (∀ W, spAb.rd W (.agg #[.slice A1 F1.length c1, .int .i64 K1]) ⟨F1, K1⟩ → Calls Try.prog 49 #[.agg #[.slice A1 F1.length c1, .int .i64 K1]] W (RetB true W)) := Lib.hid fun W hW => sIsAb_yes _ _ _ hW hk1
      have HE := Lib.hid (Ab.quo_ok hk0 hk1)
      have H0 : Hid (∀ W, spAb.rd W (.agg #[.slice A0 F0.length c0, .int .i64 K0]) ⟨F0, K0⟩ → Calls Try.prog 50 #[.agg #[.slice A0 F0.length c0, .int .i64 K0]] W fun e w' => ∃ v, e = .returned v ∧ spI.rd w' v (Num.chainL F0 K0).reverse ∧ Below W.heap.size W w') := Lib.hid fun W hW => sDown_any _ ⟨F0, K0⟩ W hW hk0
      have H1 : Hid (∀ W, spAb.rd W (.agg #[.slice A1 F1.length c1, .int .i64 K1]) ⟨F1, K1⟩ → Calls Try.prog 50 #[.agg #[.slice A1 F1.length c1, .int .i64 K1]] W fun e w' => ∃ v, e = .returned v ∧ spI.rd w' v (Num.chainL F1 K1).reverse ∧ Below W.heap.size W w') := Lib.hid fun W hW => sDown_any _ ⟨F1, K1⟩ W hW hk1
      obtain ⟨bx, lx⟩ := Ab.ok_rbd hk0
      obtain ⟨by_, ly⟩ := Ab.ok_rbd hk1
      have HX := Lib.hid bx
      have HY := Lib.hid by_
      have lx : (Num.chainL F0 K0).reverse.length ≤ 10 := lx
      have ly : (Num.chainL F1 K1).reverse.length ≤ 10 := ly
      clear bx by_
      clear hk0 hk1 hA0 hm0 hA1 hm1
      rw [HE.out.1, HE.out.2]
      clear HE
      dsimp only at HX HY ⊢
      generalize (Num.chainL F0 K0).reverse = x at *
      generalize (Num.chainL F1 K1).reverse = y at *
      obtain ⟨bl0, a00, a01⟩ := Ba.c2
      obtain ⟨bl1, a10, a11⟩ := Bb.c2
      go_enter Try.func20, Try.ntmps20
      go_wp2_with (fail)
      refine HC.out.mono ?_; rintro e w1 ⟨rfl, hb⟩
      replace L := bstep L L.size hb
      replace Ba := Ba.below hb
      replace Bb := Bb.below hb
      replace R0 := Lib.hid (spAb.rd_below R0.out hb)
      replace R1 := Lib.hid (spAb.rd_below R1.out hb)
      clear a00 a01 a10 a11 bl0 bl1 HC hb
      obtain ⟨bl0, a00, a01⟩ := Ba.c2
      obtain ⟨bl1, a10, a11⟩ := Bb.c2
      go_wp2_with (fail)
      refine (HC2.out _ R1.out).mono ?_; rintro e w2 ⟨rfl, hb⟩
      replace L := bstep L L.size hb
      replace Ba := Ba.below hb
      replace Bb := Bb.below hb
      replace R0 := Lib.hid (spAb.rd_below R0.out hb)
      replace R1 := Lib.hid (spAb.rd_below R1.out hb)
      clear a00 a01 a10 a11 bl0 bl1 HC2 hb
      obtain ⟨bl0, a00, a01⟩ := Ba.c2
      obtain ⟨bl1, a10, a11⟩ := Bb.c2
      have LC0 : Below w2.heap.size w2 w2.drew := (Below.refl _ _).drew
      go_wp2_with (fail)
      go_region_held3 (fun wx => wx.cell? ⟨w.heap.size, 0, none⟩ = some (.slice A0 F0.length c0) ∧ wx.cell? ⟨w.heap.size, 1, none⟩ = some (.int .i64 K0) ∧ wx.cell? ⟨w.heap.size + 1, 0, none⟩ = some (.slice A1 F1.length c1) ∧ wx.cell? ⟨w.heap.size + 1, 1, none⟩ = some (.int .i64 K1)) (first | assumption | go_keep) (first
        | (go_at_call 50; (with_reducible refine (H0.out _ (spAb.rd_below R0.out LC0)).mono ?_); rintro e w3 ⟨u3, rfl, hr3, hb3⟩; have LC1 := bstep LC0 LC0.size hb3; obtain ⟨B3, d3, rfl, hl3, hq3⟩ := hr3; have SM3 : w3.cell? ⟨w.heap.size, 0, none⟩ = some (.slice A0 F0.length c0) ∧ w3.cell? ⟨w.heap.size, 1, none⟩ = some (.int .i64 K0) ∧ w3.cell? ⟨w.heap.size + 1, 0, none⟩ = some (.slice A1 F1.length c1) ∧ w3.cell? ⟨w.heap.size + 1, 1, none⟩ = some (.int .i64 K1) := ⟨(Blk.cell (Ba.below LC1) 0 (by simp)), (Blk.cell (Ba.below LC1) 1 (by simp)), (Blk.cell (Bb.below LC1) 0 (by simp)), (Blk.cell (Bb.below LC1) 1 (by simp))⟩)
        | (go_at_call 50; (with_reducible refine (H1.out _ (spAb.rd_below R1.out LC1)).mono ?_); rintro e w4 ⟨u4, rfl, hr4, hb4⟩; have LC2 := bstep LC1 LC1.size hb4; obtain ⟨B4, d4, rfl, hl4, hq4⟩ := hr4; have SM4 : w4.cell? ⟨w.heap.size, 0, none⟩ = some (.slice A0 F0.length c0) ∧ w4.cell? ⟨w.heap.size, 1, none⟩ = some (.int .i64 K0) ∧ w4.cell? ⟨w.heap.size + 1, 0, none⟩ = some (.slice A1 F1.length c1) ∧ w4.cell? ⟨w.heap.size + 1, 1, none⟩ = some (.int .i64 K1) := ⟨(Blk.cell (Ba.below LC2) 0 (by simp)), (Blk.cell (Ba.below LC2) 1 (by simp)), (Blk.cell (Bb.below LC2) 0 (by simp)), (Blk.cell (Bb.below LC2) 1 (by simp))⟩))
      all_goals
        have LZ := bstep L L.size LC2
        have RX : RdI w4 B3 x := hq3.below' hb4
        clear SM3 SM4 a00 a01 a10 a11 bl0 bl1 hq3 hb3 hb4 LC0 LC1 LC2 Ba Bb R0 R1 H0 H1
        by_cases hlen : y.length ≤ x.length
        · have l1 : ¬ ((x.length : Int) < (y.length : Int)) := by omega
          have HOK : Hid ((∀ i, i < y.length → ¬ Num.BadQ (x.getD i 0) (y.getD i 0)) → Num.covD x y = true) := Lib.hid fun hh => Num.covD_ok hlen hh
          go_wp2_with (fail)
          go_loopw [8] (fun s8 wr => ∃ i n : Nat, s8 = .int .i64 i ∧ i ≤ y.length ∧ Hid (∀ q, q < i → ¬ Num.BadQ (x.getD q 0) (y.getD q 0)) ∧ wr = w4.drewN n) (fun s8 _ => y.length - (intOf s8).toNat)
          case atStart => exact ⟨0, 0, rfl, by omega, Lib.hid (fun q hq => by omega), rfl⟩
          case round =>
            obtain ⟨i, n, rfl, hi, HP, rfl⟩ := hrel
            by_cases hlt : i < y.length
            · obtain ⟨g, o, rfl, hg, hc⟩ := RX i (by omega)
              obtain ⟨g', o', rfl, hg', hc'⟩ := hq4 i hlt
              have j0 : (0 : Int) ≤ (i : Int) := by omega
              have j1 : (i : Int) < (y.length : Int) := by omega
              have j2 : (i : Int) < (x.length : Int) := by omega
              have bx := HX.out i
              have by_ := HY.out i
              have HS : Hid (¬ Num.BadQ (x.getD i 0) (y.getD i 0) → ∀ q, q < i + 1 → ¬ Num.BadQ (x.getD q 0) (y.getD q 0)) := Lib.hid fun he q hq => by
                by_cases e : q = i
                · rw [e]; exact he
                · exact HP.out q (by omega)
              have HBJ : Hid (Num.BadQ (x.getD i 0) (y.getD i 0) → Num.covD x y = false) := Lib.hid fun hh => Num.covD_bad hlt hh
              clear HP HOK
              generalize x.getD i 0 = X at *
              generalize y.getD i 0 = Y at *
              obtain ⟨bx0, bx1⟩ := bx
              obtain ⟨by0, by1⟩ := by_
              by_cases hX : X = 0
              · have HP2 := Lib.hid (HS.out (fun hh => hh.1 hX))
                have T1 : (X != 0) = false := bne_eq_false_iff_eq.mpr hX
                clear HS HBJ
                go_wp2_with (fail)
                go_quiet (fail)
                go_wp2_with (fail)
                exact ⟨⟨i + 1, _, by go_num, by omega, HP2, rfl⟩, by simp [intOf]; omega⟩
              · have T1 : (X != 0) = true := bne_iff_ne.mpr hX
                by_cases hY : Y = 0
                · have HR := Lib.hid (HBJ.out ⟨hX, .inl hY⟩)
                  have T2 : (Y == 0) = true := by rw [hY]; rfl
                  clear HS HBJ
                  go_wp2_with (fail)
                  go_quiet (fail)
                  go_wp2_with (fail)
                  refine bodyPost_ret (v := .tuple #[.bool false, .int .i64 0]) (by simp [results, Try.results20, go_sem]) rfl ?_
                  rw [HR.out]
                  exact ⟨rfl, by rw [World.drewN_drewN]; exact below_drewN LZ _⟩
                · have T2 : (Y == 0) = false := beq_eq_false_iff_ne.mpr hY
                  by_cases hM : X % Y = 0
                  · have HP2 := Lib.hid (HS.out (fun hh => hh.2.elim hY (fun h => h hM)))
                    have T3 : (X % Y != 0) = false := bne_eq_false_iff_eq.mpr hM
                    clear HS HBJ
                    go_wp2_with (fail)
                    go_quiet (fail)
                    go_wp2_with (fail)
                    exact ⟨⟨i + 1, _, by go_num, by omega, HP2, rfl⟩, by simp [intOf]; omega⟩
                  · have HR := Lib.hid (HBJ.out ⟨hX, .inr hM⟩)
                    have T3 : (X % Y != 0) = true := bne_iff_ne.mpr hM
                    clear HS HBJ
                    go_wp2_with (fail)
                    go_quiet (fail)
                    go_wp2_with (fail)
                    refine bodyPost_ret (v := .tuple #[.bool false, .int .i64 0]) (by simp [results, Try.results20, go_sem]) rfl ?_
                    rw [HR.out]
                    exact ⟨rfl, by rw [World.drewN_drewN]; exact below_drewN LZ _⟩
            · obtain rfl : i = y.length := by omega
              have hge : ¬ ((y.length : Int) < (y.length : Int)) := by omega
              have HR := Lib.hid (HOK.out HP.out)
              go_wp2_with (fail)
              refine bodyPost_ret (v := .tuple #[.bool true, .int .i64 0]) (by simp [results, Try.results20, go_sem]) rfl ?_
              rw [HR.out]
              exact ⟨rfl, below_drewN LZ _⟩
        · have l1 : (x.length : Int) < (y.length : Int) := by omega
          have HR := Lib.hid (Num.covD_short (x := x) (y := y) (by omega))
          go_wp2_with (fail)
          refine bodyPost_ret (v := .tuple #[.bool false, .int .i64 0]) (by simp [results, Try.results20, go_sem]) rfl ?_
          rw [HR.out]
          exact ⟨rfl, LZ⟩
theorem iHasAbelianQuotient_ok (v0 : Value) (x0 : Ab) (v1 : Value) (x1 : Ab) (w : World) (h0 : spAb.rd w v0 x0) (h1 : spAb.rd w v1 x1) (s0 : spAb.sz x0 ≤ 1048576) (s1 : spAb.sz x1 ≤ 1048576) : Calls Try.prog 19 #[v0, v1] w (RetBC (rHasAbelianQuotient x0 x1) (cHasAbelianQuotient x0 x1) w) := iHasAbelianQuotient_any v0 v1 x0 x1 w h0 h1
theorem sHasAbelianQuotient_ok (v0 : Value) (x0 : Ab) (v1 : Value) (x1 : Ab) (w : World) (h0 : spAb.rd w v0 x0) (h1 : spAb.rd w v1 x1) (s0 : spAb.sz x0 ≤ 1048576) (s1 : spAb.sz x1 ≤ 1048576) : Calls Try.prog 20 #[v0, v1] w (RetBC (rHasAbelianQuotient x0 x1) (cHasAbelianQuotient x0 x1) w) := sHasAbelianQuotient_any v0 v1 x0 x1 w h0 h1
end Go.Proofs.Ytpplojbcjgiabaa
