/- IsSmithProof of the model. -/
import Derived.Test.YtihdidbikeaafaaL08D
namespace Go.Proofs.Ytihdidbikeaafaa
open Go.RowKit
set_option linter.unusedVariables false
set_option linter.unusedSimpArgs false
theorem smith_no9 {a u v : Tab} {d : List Int} (h : ¬ (1 ≤ (a.R.length : Int) ∧ (a.R.length : Int) ≤ 4)) : rIsSmithProof a u v d = false := by
  cases hu : rIsUnimodular u with
  | false => exact smith_no2 hu
  | true =>
    refine smith_no4 fun h4 => h ?_
    obtain ⟨hk, -⟩ := Tab.uni_out hu
    obtain ⟨u1, u2, -⟩ := Tab.ok_out hk
    omega
set_option maxRecDepth 100000 in
set_option maxHeartbeats 8000000 in
theorem sSmith_main (v0 v1 v2 v3 : Value) (x0 x1 x2 : Tab) (x3 : List Int) (w : World) (h0 : rdTabC w v0 x0) (h1 : rdTabC w v1 x1) (h2 : rdTabC w v2 x2) (h3 : spI.rd w v3 x3) (hmain : x0.ok = true ∧ rIsUnimodular x1 = true ∧ rIsUnimodular x2 = true ∧ x1.C = (x0.R.length : Int) ∧ x2.C = x0.C ∧ x3.length ≤ x0.R.length ∧ (x3.length : Int) ≤ x0.C) : Calls Try.prog 15 #[v0, v1, v2, v3] w (RetB (rIsSmithProof x0 x1 x2 x3) w) := by
  obtain ⟨hk0, hk1, hk2, hc4, hc5, hc7, hc8⟩ := hmain
  obtain ⟨A0, n0, c0, rfl, r0⟩ := spTab_form (rdTabC_rd h0)
  obtain ⟨rfl, -, -, -⟩ := rdII_of r0
  obtain ⟨A1, n1, c1, rfl, r1⟩ := spTab_form (rdTabC_rd h1)
  obtain ⟨rfl, -, -, -⟩ := rdII_of r1
  obtain ⟨A2, n2, c2, rfl, r2⟩ := spTab_form (rdTabC_rd h2)
  obtain ⟨rfl, -, -, -⟩ := rdII_of r2
  obtain ⟨A3, c3, rfl, m3, hd3⟩ := h3
  have L : Below w.heap.size w (((w.alloc (.cells [.int .i64 x0.C, .slice A0 x0.R.length c0].toArray 28)).alloc (.cells [.int .i64 x1.C, .slice A1 x1.R.length c1].toArray 28)).alloc (.cells [.int .i64 x2.C, .slice A2 x2.R.length c2].toArray 28)) := by go_grown
  have B0 : Blk (((w.alloc (.cells [.int .i64 x0.C, .slice A0 x0.R.length c0].toArray 28)).alloc (.cells [.int .i64 x1.C, .slice A1 x1.R.length c1].toArray 28)).alloc (.cells [.int .i64 x2.C, .slice A2 x2.R.length c2].toArray 28)) w.heap.size [.int .i64 x0.C, .slice A0 x0.R.length c0] 28 := ((Blk.new w [.int .i64 x0.C, .slice A0 x0.R.length c0] _).alloc _).alloc _
  have B1 : Blk (((w.alloc (.cells [.int .i64 x0.C, .slice A0 x0.R.length c0].toArray 28)).alloc (.cells [.int .i64 x1.C, .slice A1 x1.R.length c1].toArray 28)).alloc (.cells [.int .i64 x2.C, .slice A2 x2.R.length c2].toArray 28)) (w.heap.size + 1) [.int .i64 x1.C, .slice A1 x1.R.length c1] 28 := by have := (Blk.new (w.alloc (.cells [.int .i64 x0.C, .slice A0 x0.R.length c0].toArray 28)) [.int .i64 x1.C, .slice A1 x1.R.length c1] 28).alloc (.cells [.int .i64 x2.C, .slice A2 x2.R.length c2].toArray 28); rwa [World.size_alloc] at this
  have B2 : Blk (((w.alloc (.cells [.int .i64 x0.C, .slice A0 x0.R.length c0].toArray 28)).alloc (.cells [.int .i64 x1.C, .slice A1 x1.R.length c1].toArray 28)).alloc (.cells [.int .i64 x2.C, .slice A2 x2.R.length c2].toArray 28)) (w.heap.size + 2) [.int .i64 x2.C, .slice A2 x2.R.length c2] 28 := by have := Blk.new ((w.alloc (.cells [.int .i64 x0.C, .slice A0 x0.R.length c0].toArray 28)).alloc (.cells [.int .i64 x1.C, .slice A1 x1.R.length c1].toArray 28)) [.int .i64 x2.C, .slice A2 x2.R.length c2] 28; rwa [World.size_alloc, World.size_alloc] at this
  have R0 := Lib.hid (rdTabC_below h0 L)
  have R1 := Lib.hid (rdTabC_below h1 L)
  have R2 := Lib.hid (rdTabC_below h2 L)
  have HD : Hid (∀ W, Below w.heap.size w W → RdI W A3 x3) := Lib.hid fun W hW => hd3.below' hW
  have m3' := m3
  unfold maxLen at m3'
  have HM0 : x0.R.length ≤ maxLen := (rdII_of r0).2.1
  unfold maxLen at HM0
  have HI0 : Hid (∀ W, Below w.heap.size w W → spII.rd W (.slice A0 x0.R.length c0) x0.R) := Lib.hid fun W hW => spII.rd_below r0 hW
  have HI1 : Hid (∀ W, Below w.heap.size w W → spII.rd W (.slice A1 x1.R.length c1) x1.R) := Lib.hid fun W hW => spII.rd_below r1 hW
  have HI2 : Hid (∀ W, Below w.heap.size w W → spII.rd W (.slice A2 x2.R.length c2) x2.R) := Lib.hid fun W hW => spII.rd_below r2 hW
  clear h0 h1 h2 hd3 r0 r1 r2
  show Calls _ _ _ _ fun e w' => e = .returned (.bool (rIsSmithProof x0 x1 x2 x3)) ∧ Below w.heap.size w w'
  have T4 : (x1.C != (x0.R.length : Int)) = false := bne_eq_false_iff_eq.mpr hc4
  have T5 : (x2.C != x0.C) = false := bne_eq_false_iff_eq.mpr hc5
  have LN1 : Hid (1 ≤ (x0.R.length : Int)) := Lib.hid (by have := (three_of hk0 hk1 hk2 hc4 hc5).r0; omega)
  have LN2 : Hid ((x0.R.length : Int) ≤ 4) := Lib.hid (by have := (three_of hk0 hk1 hk2 hc4 hc5).r1; omega)
  have HC0 : Hid (∀ W, rdTabC W (.agg #[.int .i64 x0.C, .slice A0 x0.R.length c0]) x0 → Calls Try.prog 51 #[.agg #[.int .i64 x0.C, .slice A0 x0.R.length c0]] W (RetB true W)) := Lib.hid fun W hW => by have := sIsTab_any (.agg #[.int .i64 x0.C, .slice A0 x0.R.length c0]) x0 W (rdTabC_rd hW); rwa [hk0] at this
  have HC1 : Hid (∀ W, rdTabC W (.agg #[.int .i64 x1.C, .slice A1 x1.R.length c1]) x1 → Calls Try.prog 53 #[.agg #[.int .i64 x1.C, .slice A1 x1.R.length c1]] W (RetB true W)) := Lib.hid fun W hW => by have := sIsUnimodular_any (.agg #[.int .i64 x1.C, .slice A1 x1.R.length c1]) x1 W hW; rwa [hk1] at this
  have HC2 : Hid (∀ W, rdTabC W (.agg #[.int .i64 x2.C, .slice A2 x2.R.length c2]) x2 → Calls Try.prog 53 #[.agg #[.int .i64 x2.C, .slice A2 x2.R.length c2]] W (RetB true W)) := Lib.hid fun W hW => by have := sIsUnimodular_any (.agg #[.int .i64 x2.C, .slice A2 x2.R.length c2]) x2 W hW; rwa [hk2] at this
  · have T3 := three_of hk0 hk1 hk2 hc4 hc5
    have HE6 : Hid (Num.chainB x3 = true → rIsSmithProof x0 x1 x2 x3 = Num.diagB (prod3 x0 x1 x2) x3) := Lib.hid fun hk6 => smith_is hk0 hk1 hk2 hc4 hc5 hk6 hc7 hc8
    have HE7 : Hid (∀ j, j < x3.length → ¬ Num.Link x3 j → rIsSmithProof x0 x1 x2 x3 = false) := Lib.hid fun j hj h => smith_no6 (Num.chainB_bad hj h)
    have l7 : ¬ ((x0.R.length : Int) < (x3.length : Int)) := by omega
    have l8 : ¬ (x0.C < (x3.length : Int)) := by omega
    have l7n : decide (x0.R.length < x3.length) = false := decide_eq_false (by omega)
    have l8n : decide (x0.C < (x3.length : Int)) = false := decide_eq_false l8
    have T3' := Lib.hid T3
    have HL8 := Lib.hid hc8
    clear hk0 hk1 hk2 hc4 hc5 hc8 T3
    have HT1 : Hid (∀ W, Below w.heap.size w W → Calls Try.prog 54 #[.slice A1 x1.R.length c1, .slice A0 x0.R.length c0, .int .i64 x0.C] W (Made spII (Num.mulZ x0.C.toNat x0.R.length x1.R x0.R) W)) := Lib.hid fun W hW => by
      have t := T3'.out
      exact sTimes_any x0.C.toNat 64 64 x0.C _ _ x1.R x0.R W (HI1.out W hW) (HI0.out W hW) t.ec.symm (by have := t.c1; omega) (by have := t.r1; omega) (by have := t.r1; have := t.ul; omega) t.ur t.ar t.ub t.ab (by decide) (by decide)
    have HT2 : Hid (∀ W v, Below w.heap.size w W → spII.rd W v (Num.mulZ x0.C.toNat x0.R.length x1.R x0.R) → Calls Try.prog 54 #[v, .slice A2 x2.R.length c2, .int .i64 x0.C] W (Made spII (prod3 x0 x1 x2) W)) := Lib.hid fun W v hW hv => by
      have t := T3'.out
      obtain ⟨m1, m2, m3⟩ := t.mid
      exact sTimes_any x0.C.toNat 16384 64 x0.C v _ _ x2.R W hv (HI2.out W hW) t.ec.symm (by have := t.c1; omega) (by have := t.c1; have := t.vl; omega) (by have := t.r1; omega) m1 t.vr m2 t.vb (by decide) (by decide)
    have HEL : Hid ((prod3 x0 x1 x2).length ≤ 4 ∧ ∀ i, i < (prod3 x0 x1 x2).length → ((prod3 x0 x1 x2).getD i []).length ≤ 4) := Lib.hid (by
      have t := T3'.out
      obtain ⟨e1, e2⟩ := t.end_
      exact ⟨by have := t.r1; omega, fun i hi => by have := e2 i hi; have := t.c1; omega⟩)
    have HBAD : Hid (∀ i, i < (prod3 x0 x1 x2).length → ∀ j, j < ((prod3 x0 x1 x2).getD i []).length → ¬ ((prod3 x0 x1 x2).getD i []).getD j 0 = (if i = j ∧ i < x3.length then x3.getD i 0 else 0) → Num.diagB (prod3 x0 x1 x2) x3 = false) := Lib.hid fun i hi j hj hne => Num.diagB_bad hi (Num.row_ne (j := j) (by rw [Num.wantZ_get hj]; exact hne))
    have HOKR : Hid (∀ i, i < (prod3 x0 x1 x2).length → (∀ j, j < ((prod3 x0 x1 x2).getD i []).length → ((prod3 x0 x1 x2).getD i []).getD j 0 = (if i = j ∧ i < x3.length then x3.getD i 0 else 0)) → (prod3 x0 x1 x2).getD i [] = Num.wantZ ((prod3 x0 x1 x2).getD i []).length i x3) := Lib.hid fun i hi hh => Num.row_eq (by rw [Num.wantZ_len]) fun j hj => by rw [Num.wantZ_get hj]; exact hh j hj
    have HOK : Hid ((∀ i, i < (prod3 x0 x1 x2).length → (prod3 x0 x1 x2).getD i [] = Num.wantZ ((prod3 x0 x1 x2).getD i []).length i x3) → Num.diagB (prod3 x0 x1 x2) x3 = true) := Lib.hid Num.diagB_ok
    generalize Num.mulZ x0.C.toNat x0.R.length x1.R x0.R = MID at *
    generalize prod3 x0 x1 x2 = END at *
    clear T3'
    obtain ⟨bl0, a00, a01⟩ := B0.c2
    obtain ⟨bl1, a10, a11⟩ := B1.c2
    obtain ⟨bl2, a20, a21⟩ := B2.c2
    go_enter Try.func15, Try.ntmps15
    go_wp2_with (fail)
    refine (HC0.out _ R0.out).mono ?_; rintro e w1 ⟨rfl, hb⟩
    replace L := bstep L L.size hb
    replace B0 := B0.below hb
    replace B1 := B1.below hb
    replace B2 := B2.below hb
    replace R0 := Lib.hid (rdTabC_below R0.out hb)
    replace R1 := Lib.hid (rdTabC_below R1.out hb)
    replace R2 := Lib.hid (rdTabC_below R2.out hb)
    clear a00 a01 a10 a11 a20 a21 bl0 bl1 bl2
    clear HC0 hb
    obtain ⟨bl0, a00, a01⟩ := B0.c2
    obtain ⟨bl1, a10, a11⟩ := B1.c2
    obtain ⟨bl2, a20, a21⟩ := B2.c2
    go_wp2_with (fail)
    refine (sIn_yes _ _ _ _ LN1.out LN2.out).mono ?_; rintro e w' ⟨rfl, rfl⟩
    go_wp2_with (fail)
    refine (HC1.out _ R1.out).mono ?_; rintro e w2 ⟨rfl, hb⟩
    replace L := bstep L L.size hb
    replace B0 := B0.below hb
    replace B1 := B1.below hb
    replace B2 := B2.below hb
    replace R0 := Lib.hid (rdTabC_below R0.out hb)
    replace R1 := Lib.hid (rdTabC_below R1.out hb)
    replace R2 := Lib.hid (rdTabC_below R2.out hb)
    clear a00 a01 a10 a11 a20 a21 bl0 bl1 bl2
    clear HC1 hb
    obtain ⟨bl0, a00, a01⟩ := B0.c2
    obtain ⟨bl1, a10, a11⟩ := B1.c2
    obtain ⟨bl2, a20, a21⟩ := B2.c2
    go_wp2_with (fail)
    refine (HC2.out _ R2.out).mono ?_; rintro e w3 ⟨rfl, hb⟩
    replace L := bstep L L.size hb
    replace B0 := B0.below hb
    replace B1 := B1.below hb
    replace B2 := B2.below hb
    replace R0 := Lib.hid (rdTabC_below R0.out hb)
    replace R1 := Lib.hid (rdTabC_below R1.out hb)
    replace R2 := Lib.hid (rdTabC_below R2.out hb)
    clear a00 a01 a10 a11 a20 a21 bl0 bl1 bl2
    clear HC2 hb
    obtain ⟨bl0, a00, a01⟩ := B0.c2
    obtain ⟨bl1, a10, a11⟩ := B1.c2
    obtain ⟨bl2, a20, a21⟩ := B2.c2
    go_wp2_with (fail)
    go_loopw [9] (fun s wr => ∃ k n : Nat, k ≤ x3.length ∧ s = .int .i64 k ∧ Num.Links x3 k ∧ wr = w3.drewN n) (fun s _ => x3.length - (intOf s).toNat)
    case atStart => exact ⟨0, 0, by omega, rfl, Num.Links.zero x3, rfl⟩
    case round =>
      obtain ⟨k, n, hk, rfl, hq, rfl⟩ := hrel
      by_cases hlt : k < x3.length
      · have hA := HD.out _ L
        clear HT1 HT2 HEL HBAD HOKR HOK HI0 HI1 HI2 R0 R1 R2 HE6 HL8 B0 B1 B2 a00 a01 a10 a11 a20 a21 bl0 bl1 bl2 T4 T5 LN1 LN2 HD HM0
        obtain ⟨g, o, e3, hg, hc⟩ := hA k hlt
        subst e3
        have i0 : (0 : Int) ≤ (k : Int) := by omega
        have i1 : (k : Int) < (x3.length : Int) := by omega
        have HBL := Lib.hid (HE7.out k hlt)
        by_cases hx : 0 < x3.getD k 0
        · have hx1 : ¬ x3.getD k 0 < 1 := by omega
          by_cases k0 : 0 < (k : Int)
          · have i2 : (0 : Int) ≤ (k : Int) - 1 := by omega
            have i3 : (k : Int) - 1 < (x3.length : Int) := by omega
            obtain ⟨g', o', e', _, hc2⟩ := hA (k - 1) (by omega)
            simp only [Option.some.injEq, Addr.mk.injEq, and_true] at e'
            obtain ⟨rfl, rfl⟩ := e'
            have hpos : 0 < x3.getD (k - 1) 0 := (hq (k - 1) (by omega)).1
            have epv : Num.prevD x3 k = x3.getD (k - 1) 0 := by unfold Num.prevD; rw [if_neg (by omega)]
            have k0' : 0 < k := by omega
            have nk : ((k : Int) - 1).toNat = k - 1 := by omega
            by_cases hL : x3.getD k 0 % x3.getD (k - 1) 0 = 0
            · have HQ : Hid (Num.Links x3 (k + 1)) := Lib.hid (hq.step ⟨hx, by rw [epv]; exact hL⟩)
              have T1 : (x3.getD k 0 % x3.getD (k - 1) 0 != 0) = false := bne_eq_false_iff_eq.mpr hL
              clear hq HBL epv hA hL
              generalize x3.getD (k - 1) 0 = y at *
              generalize x3.getD k 0 = x at *
              have x0' : 0 ≤ x := by omega
              have T0 : decide (x < 1) = false := decide_eq_false (by omega)
              go_wp2_with (fail)
              go_quiet (fail)
              go_wp2_with (fail)
              exact ⟨⟨k + 1, _, by omega, by go_num, HQ.out, rfl⟩, by simp [intOf]; omega⟩
            · have HB : Hid (rIsSmithProof x0 x1 x2 x3 = false) := Lib.hid (HBL.out (fun h => hL (by rw [← epv]; exact h.2)))
              have T1 : (x3.getD k 0 % x3.getD (k - 1) 0 != 0) = true := bne_iff_ne.mpr hL
              clear hq HBL epv hA hL
              generalize x3.getD (k - 1) 0 = y at *
              generalize x3.getD k 0 = x at *
              have x0' : 0 ≤ x := by omega
              have T0 : decide (x < 1) = false := decide_eq_false (by omega)
              go_wp2_with (fail)
              go_quiet (fail)
              go_wp2_with (fail)
              go_ret
              exact ⟨ret_b HB.out.symm, by rw [World.drewN_drewN]; exact below_drewN L _⟩
          · have HQ : Hid (Num.Links x3 (k + 1)) := Lib.hid (hq.step ⟨hx, by rw [show k = 0 by omega, Num.prevD_zero]; exact Int.emod_one _⟩)
            have k0' : ¬ 0 < k := by omega
            clear hq HBL hA
            generalize x3.getD k 0 = x at *
            have T0 : decide (x < 1) = false := decide_eq_false (by omega)
            go_wp2_with (fail)
            go_quiet (fail)
            go_wp2_with (fail)
            exact ⟨⟨k + 1, _, by omega, by go_num, HQ.out, rfl⟩, by simp [intOf]; omega⟩
        · have HB : Hid (rIsSmithProof x0 x1 x2 x3 = false) := Lib.hid (HBL.out (fun h => hx h.1))
          have hx1 : x3.getD k 0 < 1 := by omega
          clear hq HBL hA hx
          generalize x3.getD k 0 = x at *
          go_wp2_with (fail)
          go_quiet (fail)
          go_wp2_with (fail)
          go_ret
          exact ⟨ret_b HB.out.symm, by rw [World.drewN_drewN]; exact below_drewN L _⟩
      · obtain rfl : k = x3.length := by omega
        have hge : ¬ ((x3.length : Int) < (x3.length : Int)) := by omega
        have HE := Lib.hid (HE6.out (Num.chainB_ok hq))
        clear HE6 HE7 hq
        have LN0 : Below w3.heap.size w3 (w3.drewN n) := below_drewN (Below.refl _ _) n
        replace L := bstep L L.size LN0
        replace B0 := B0.below LN0
        replace B1 := B1.below LN0
        replace B2 := B2.below LN0
        clear a00 a01 a10 a11 a20 a21 bl0 bl1 bl2 LN0 R0 R1 R2
        generalize w3.drewN n = W4 at *
        obtain ⟨bl0, a00, a01⟩ := B0.c2
        obtain ⟨bl1, a10, a11⟩ := B1.c2
        obtain ⟨bl2, a20, a21⟩ := B2.c2
        have LC0 : Below W4.heap.size W4 W4.drew := (Below.refl _ _).drew
        have HT1' := Lib.hid (HT1.out W4.drew (bstep L L.size LC0))
        go_wp2_with (fail)
        go_region_held3 (fun wx => wx.cell? ⟨w.heap.size, 0, none⟩ = some (.int .i64 x0.C) ∧ wx.cell? ⟨w.heap.size, 1, none⟩ = some (.slice A0 x0.R.length c0) ∧ wx.cell? ⟨(w.heap.size + 1), 0, none⟩ = some (.int .i64 x1.C) ∧ wx.cell? ⟨(w.heap.size + 1), 1, none⟩ = some (.slice A1 x1.R.length c1) ∧ wx.cell? ⟨(w.heap.size + 2), 0, none⟩ = some (.int .i64 x2.C) ∧ wx.cell? ⟨(w.heap.size + 2), 1, none⟩ = some (.slice A2 x2.R.length c2)) (first | assumption | go_keep) (first
          | (go_at_call 54; (with_reducible refine HT1'.out.mono ?_); rintro e w5 ⟨u5, Sw5, rfl, ow5, -, hb5⟩; have LC1 := bstep LC0 LC0.size hb5; have SMw5 : w5.cell? ⟨w.heap.size, 0, none⟩ = some (.int .i64 x0.C) ∧ w5.cell? ⟨w.heap.size, 1, none⟩ = some (.slice A0 x0.R.length c0) ∧ w5.cell? ⟨(w.heap.size + 1), 0, none⟩ = some (.int .i64 x1.C) ∧ w5.cell? ⟨(w.heap.size + 1), 1, none⟩ = some (.slice A1 x1.R.length c1) ∧ w5.cell? ⟨(w.heap.size + 2), 0, none⟩ = some (.int .i64 x2.C) ∧ w5.cell? ⟨(w.heap.size + 2), 1, none⟩ = some (.slice A2 x2.R.length c2) := ⟨(Blk.cell (B0.below LC1) 0 (by simp)), (Blk.cell (B0.below LC1) 1 (by simp)), (Blk.cell (B1.below LC1) 0 (by simp)), (Blk.cell (B1.below LC1) 1 (by simp)), (Blk.cell (B2.below LC1) 0 (by simp)), (Blk.cell (B2.below LC1) 1 (by simp))⟩)
          | (go_at_call 54; (with_reducible refine (HT2.out _ _ (bstep L L.size LC1) (spII.own_rd ow5)).mono ?_); rintro e w6 ⟨u6, Sw6, rfl, ow6, -, hb6⟩; have LC2 := bstep LC1 LC1.size hb6; have SMw6 : w6.cell? ⟨w.heap.size, 0, none⟩ = some (.int .i64 x0.C) ∧ w6.cell? ⟨w.heap.size, 1, none⟩ = some (.slice A0 x0.R.length c0) ∧ w6.cell? ⟨(w.heap.size + 1), 0, none⟩ = some (.int .i64 x1.C) ∧ w6.cell? ⟨(w.heap.size + 1), 1, none⟩ = some (.slice A1 x1.R.length c1) ∧ w6.cell? ⟨(w.heap.size + 2), 0, none⟩ = some (.int .i64 x2.C) ∧ w6.cell? ⟨(w.heap.size + 2), 1, none⟩ = some (.slice A2 x2.R.length c2) := ⟨(Blk.cell (B0.below LC2) 0 (by simp)), (Blk.cell (B0.below LC2) 1 (by simp)), (Blk.cell (B1.below LC2) 0 (by simp)), (Blk.cell (B1.below LC2) 1 (by simp)), (Blk.cell (B2.below LC2) 0 (by simp)), (Blk.cell (B2.below LC2) 1 (by simp))⟩))
        all_goals
          have LZ := bstep L L.size LC2
          have HRX := Lib.hid (spII.own_rd ow6)
          obtain ⟨AE, cE, rfl, -⟩ := spII.own_rd ow6
          have HDZ := Lib.hid (HD.out _ LZ)
          obtain ⟨el1, el2⟩ := HEL.out
          have HEL2 := Lib.hid el2
          clear SMw5 SMw6 ow5 ow6 hb5 hb6 HT1 HT2 HT1' el2 HEL LC0 LC1 LC2
          clear a00 a01 a10 a11 a20 a21 bl0 bl1 bl2
          go_wp2_with (fail)
          go_loop [11] (fun s => ∃ i : Nat, s = .int .i64 i ∧ i ≤ END.length ∧ Hid (∀ q, q < i → END.getD q [] = Num.wantZ (END.getD q []).length q x3)) (fun s => END.length - (intOf s).toNat)
          case atStart => exact ⟨0, rfl, by omega, Lib.hid (fun q hq => by omega)⟩
          case round =>
            obtain ⟨i, rfl, hi, HP⟩ := hrel
            by_cases hlti : i < END.length
            · obtain ⟨gr, or, ur, e9, hgr, hcr, hrr⟩ := spL_row HRX.out hlti
              subst e9
              obtain ⟨Br, cr, rfl, -, hrb⟩ := spI_form hrr
              have HRB := Lib.hid hrb
              have t0 : (0 : Int) ≤ (i : Int) := by omega
              have t1 : (i : Int) < (END.length : Int) := by omega
              have hl4 := HEL2.out i hlti
              have HBI := Lib.hid (HBAD.out i hlti)
              have HOI := Lib.hid (HOKR.out i hlti)
              have HPI : Hid (END.getD i [] = Num.wantZ (END.getD i []).length i x3 → ∀ q, q < i + 1 → END.getD q [] = Num.wantZ (END.getD q []).length q x3) := Lib.hid fun he q hq => by
                by_cases e : q = i
                · rw [e]; exact he
                · exact HP.out q (by omega)
              clear hrr hrb HP
              generalize hER : END.getD i [] = row at *
              have HER := Lib.hid hER
              clear hER
              go_wp2_with (fail)
              go_loop [12] (fun s => ∃ j : Nat, s = .int .i64 j ∧ j ≤ row.length ∧ Hid (∀ q, q < j → row.getD q 0 = (if i = q ∧ i < x3.length then x3.getD i 0 else 0))) (fun s => row.length - (intOf s).toNat)
              case atStart => exact ⟨0, rfl, by omega, Lib.hid (fun q hq => by omega)⟩
              case round =>
                obtain ⟨j, rfl, hj, HQ⟩ := hrel
                by_cases hltj : j < row.length
                · obtain ⟨gb, ob, rfl, hgb, hcb⟩ := HRB.out j hltj
                  have s0 : (0 : Int) ≤ (j : Int) := by omega
                  have s1 : (j : Int) < (row.length : Int) := by omega
                  have HBJ := Lib.hid (HBI.out j hltj)
                  have HQJ : Hid (row.getD j 0 = (if i = j ∧ i < x3.length then x3.getD i 0 else 0) → ∀ q, q < j + 1 → row.getD q 0 = (if i = q ∧ i < x3.length then x3.getD i 0 else 0)) := Lib.hid fun he q hq => by
                    by_cases e : q = j
                    · rw [e]; exact he
                    · exact HQ.out q (by omega)
                  clear HQ
                  by_cases hd : i = j ∧ i < x3.length
                  · obtain ⟨g3, o3, e3, hg3, hc3⟩ := HDZ.out i hd.2
                    subst e3
                    rw [if_pos hd] at HBJ HQJ
                    have d1 : ((i : Int) == (j : Int)) = true := by simp [hd.1]
                    have d2 : (i : Int) < (x3.length : Int) := by omega
                    have HIJ := Lib.hid hd.1
                    clear hd
                    generalize x3.getD i 0 = D at *
                    generalize row.getD j 0 = X at *
                    by_cases he : X = D
                    · have HQ2 := Lib.hid (HQJ.out he)
                      have T9 : (X != D) = false := bne_eq_false_iff_eq.mpr he
                      clear he HBJ HQJ
                      go_wp2_with (fail)
                      exact ⟨⟨j + 1, by go_num, by omega, HQ2⟩, by simp [intOf]; omega⟩
                    · have HR := Lib.hid (HBJ.out he)
                      have T9 : (X != D) = true := bne_iff_ne.mpr he
                      clear he HBJ HQJ
                      go_wp2_with (fail)
                      go_ret
                      exact ⟨ret_b (HE.out.trans HR.out).symm, LZ⟩
                  · rw [if_neg hd] at HBJ HQJ
                    generalize row.getD j 0 = X at *
                    by_cases hij : i = j
                    · have d1 : ((i : Int) == (j : Int)) = true := by simp [hij]
                      have d2 : ¬ ((i : Int) < (x3.length : Int)) := by omega
                      have HIJ := Lib.hid hij
                      clear hij hd
                      by_cases he : X = 0
                      · have HQ2 := Lib.hid (HQJ.out he)
                        have T9 : (X != 0) = false := bne_eq_false_iff_eq.mpr he
                        clear he HBJ HQJ
                        go_wp2_with (fail)
                        exact ⟨⟨j + 1, by go_num, by omega, HQ2⟩, by simp [intOf]; omega⟩
                      · have HR := Lib.hid (HBJ.out he)
                        have T9 : (X != 0) = true := bne_iff_ne.mpr he
                        clear he HBJ HQJ
                        go_wp2_with (fail)
                        go_ret
                        exact ⟨ret_b (HE.out.trans HR.out).symm, LZ⟩
                    · have d1 : ((i : Int) == (j : Int)) = false := by simp; omega
                      clear hd
                      by_cases he : X = 0
                      · have HQ2 := Lib.hid (HQJ.out he)
                        have T9 : (X != 0) = false := bne_eq_false_iff_eq.mpr he
                        clear he HBJ HQJ
                        go_wp2_with (fail)
                        exact ⟨⟨j + 1, by go_num, by omega, HQ2⟩, by simp [intOf]; omega⟩
                      · have HR := Lib.hid (HBJ.out he)
                        have T9 : (X != 0) = true := bne_iff_ne.mpr he
                        clear he HBJ HQJ
                        go_wp2_with (fail)
                        go_ret
                        exact ⟨ret_b (HE.out.trans HR.out).symm, LZ⟩
                · obtain rfl : j = row.length := by omega
                  have hge : ¬ ((row.length : Int) < (row.length : Int)) := by omega
                  have HP2 := Lib.hid (HPI.out (HOI.out HQ.out))
                  go_wp2_with (fail)
                  exact ⟨⟨i + 1, by go_num, by omega, HP2⟩, by simp [intOf]; omega⟩
            · obtain rfl : i = END.length := by omega
              have hge : ¬ ((END.length : Int) < (END.length : Int)) := by omega
              have HR := Lib.hid (HOK.out HP.out)
              go_wp2_with (fail)
              go_ret
              exact ⟨ret_b (HE.out.trans HR.out).symm, LZ⟩
set_option maxRecDepth 100000 in
set_option maxHeartbeats 4000000 in
theorem sIsSmithProof_any (v0 v1 v2 v3 : Value) (x0 x1 x2 : Tab) (x3 : List Int) (w : World) (h0 : rdTabC w v0 x0) (h1 : rdTabC w v1 x1) (h2 : rdTabC w v2 x2) (h3 : spI.rd w v3 x3) : Calls Try.prog 15 #[v0, v1, v2, v3] w (RetB (rIsSmithProof x0 x1 x2 x3) w) := by
  by_cases hmain : x0.ok = true ∧ rIsUnimodular x1 = true ∧ rIsUnimodular x2 = true ∧ x1.C = (x0.R.length : Int) ∧ x2.C = x0.C ∧ x3.length ≤ x0.R.length ∧ (x3.length : Int) ≤ x0.C
  · exact sSmith_main v0 v1 v2 v3 x0 x1 x2 x3 w h0 h1 h2 h3 hmain
  obtain ⟨A0, n0, c0, rfl, r0⟩ := spTab_form (rdTabC_rd h0)
  obtain ⟨rfl, -, -, -⟩ := rdII_of r0
  obtain ⟨A1, n1, c1, rfl, r1⟩ := spTab_form (rdTabC_rd h1)
  obtain ⟨rfl, -, -, -⟩ := rdII_of r1
  obtain ⟨A2, n2, c2, rfl, r2⟩ := spTab_form (rdTabC_rd h2)
  obtain ⟨rfl, -, -, -⟩ := rdII_of r2
  obtain ⟨A3, c3, rfl, m3, hd3⟩ := h3
  have L : Below w.heap.size w (((w.alloc (.cells [.int .i64 x0.C, .slice A0 x0.R.length c0].toArray 28)).alloc (.cells [.int .i64 x1.C, .slice A1 x1.R.length c1].toArray 28)).alloc (.cells [.int .i64 x2.C, .slice A2 x2.R.length c2].toArray 28)) := by go_grown
  have B0 : Blk (((w.alloc (.cells [.int .i64 x0.C, .slice A0 x0.R.length c0].toArray 28)).alloc (.cells [.int .i64 x1.C, .slice A1 x1.R.length c1].toArray 28)).alloc (.cells [.int .i64 x2.C, .slice A2 x2.R.length c2].toArray 28)) w.heap.size [.int .i64 x0.C, .slice A0 x0.R.length c0] 28 := ((Blk.new w [.int .i64 x0.C, .slice A0 x0.R.length c0] _).alloc _).alloc _
  have B1 : Blk (((w.alloc (.cells [.int .i64 x0.C, .slice A0 x0.R.length c0].toArray 28)).alloc (.cells [.int .i64 x1.C, .slice A1 x1.R.length c1].toArray 28)).alloc (.cells [.int .i64 x2.C, .slice A2 x2.R.length c2].toArray 28)) (w.heap.size + 1) [.int .i64 x1.C, .slice A1 x1.R.length c1] 28 := by have := (Blk.new (w.alloc (.cells [.int .i64 x0.C, .slice A0 x0.R.length c0].toArray 28)) [.int .i64 x1.C, .slice A1 x1.R.length c1] 28).alloc (.cells [.int .i64 x2.C, .slice A2 x2.R.length c2].toArray 28); rwa [World.size_alloc] at this
  have B2 : Blk (((w.alloc (.cells [.int .i64 x0.C, .slice A0 x0.R.length c0].toArray 28)).alloc (.cells [.int .i64 x1.C, .slice A1 x1.R.length c1].toArray 28)).alloc (.cells [.int .i64 x2.C, .slice A2 x2.R.length c2].toArray 28)) (w.heap.size + 2) [.int .i64 x2.C, .slice A2 x2.R.length c2] 28 := by have := Blk.new ((w.alloc (.cells [.int .i64 x0.C, .slice A0 x0.R.length c0].toArray 28)).alloc (.cells [.int .i64 x1.C, .slice A1 x1.R.length c1].toArray 28)) [.int .i64 x2.C, .slice A2 x2.R.length c2] 28; rwa [World.size_alloc, World.size_alloc] at this
  have R0 := Lib.hid (rdTabC_below h0 L)
  have R1 := Lib.hid (rdTabC_below h1 L)
  have R2 := Lib.hid (rdTabC_below h2 L)
  have HD : Hid (∀ W, Below w.heap.size w W → RdI W A3 x3) := Lib.hid fun W hW => hd3.below' hW
  have m3' := m3
  unfold maxLen at m3'
  have HM0 : x0.R.length ≤ maxLen := (rdII_of r0).2.1
  unfold maxLen at HM0
  have HI0 : Hid (∀ W, Below w.heap.size w W → spII.rd W (.slice A0 x0.R.length c0) x0.R) := Lib.hid fun W hW => spII.rd_below r0 hW
  have HI1 : Hid (∀ W, Below w.heap.size w W → spII.rd W (.slice A1 x1.R.length c1) x1.R) := Lib.hid fun W hW => spII.rd_below r1 hW
  have HI2 : Hid (∀ W, Below w.heap.size w W → spII.rd W (.slice A2 x2.R.length c2) x2.R) := Lib.hid fun W hW => spII.rd_below r2 hW
  clear h0 h1 h2 hd3 r0 r1 r2
  show Calls _ _ _ _ fun e w' => e = .returned (.bool (rIsSmithProof x0 x1 x2 x3)) ∧ Below w.heap.size w w'
  cases hk0 : x0.ok with
  | false =>
    have HE := Lib.hid (smith_no1 (u := x1) (v := x2) (d := x3) hk0)
    have HC0 : Hid (∀ W, rdTabC W (.agg #[.int .i64 x0.C, .slice A0 x0.R.length c0]) x0 → Calls Try.prog 51 #[.agg #[.int .i64 x0.C, .slice A0 x0.R.length c0]] W (RetB false W)) := Lib.hid fun W hW => by have := sIsTab_any (.agg #[.int .i64 x0.C, .slice A0 x0.R.length c0]) x0 W (rdTabC_rd hW); rwa [hk0] at this
    clear hk0
    obtain ⟨bl0, a00, a01⟩ := B0.c2
    obtain ⟨bl1, a10, a11⟩ := B1.c2
    obtain ⟨bl2, a20, a21⟩ := B2.c2
    go_enter Try.func15, Try.ntmps15
    go_wp2_with (fail)
    refine (HC0.out _ R0.out).mono ?_; rintro e w1 ⟨rfl, hb⟩
    replace L := bstep L L.size hb
    replace B0 := B0.below hb
    replace B1 := B1.below hb
    replace B2 := B2.below hb
    replace R0 := Lib.hid (rdTabC_below R0.out hb)
    replace R1 := Lib.hid (rdTabC_below R1.out hb)
    replace R2 := Lib.hid (rdTabC_below R2.out hb)
    clear a00 a01 a10 a11 a20 a21 bl0 bl1 bl2
    clear HC0 hb
    obtain ⟨bl0, a00, a01⟩ := B0.c2
    obtain ⟨bl1, a10, a11⟩ := B1.c2
    obtain ⟨bl2, a20, a21⟩ := B2.c2
    go_wp2_with (fail)
    go_ret
    exact ⟨ret_b HE.out.symm, L⟩
  | true =>
    have HC0 : Hid (∀ W, rdTabC W (.agg #[.int .i64 x0.C, .slice A0 x0.R.length c0]) x0 → Calls Try.prog 51 #[.agg #[.int .i64 x0.C, .slice A0 x0.R.length c0]] W (RetB true W)) := Lib.hid fun W hW => by have := sIsTab_any (.agg #[.int .i64 x0.C, .slice A0 x0.R.length c0]) x0 W (rdTabC_rd hW); rwa [hk0] at this
    by_cases hln : 1 ≤ (x0.R.length : Int) ∧ (x0.R.length : Int) ≤ 4
    · obtain ⟨ln1, ln2⟩ := hln
      have LN1 := Lib.hid ln1
      have LN2 := Lib.hid ln2
      cases hk1 : rIsUnimodular x1 with
      | false =>
        have HE := Lib.hid (smith_no2 (a := x0) (v := x2) (d := x3) hk1)
        have HC1 : Hid (∀ W, rdTabC W (.agg #[.int .i64 x1.C, .slice A1 x1.R.length c1]) x1 → Calls Try.prog 53 #[.agg #[.int .i64 x1.C, .slice A1 x1.R.length c1]] W (RetB false W)) := Lib.hid fun W hW => by have := sIsUnimodular_any (.agg #[.int .i64 x1.C, .slice A1 x1.R.length c1]) x1 W hW; rwa [hk1] at this
        clear hk0 hk1
        obtain ⟨bl0, a00, a01⟩ := B0.c2
        obtain ⟨bl1, a10, a11⟩ := B1.c2
        obtain ⟨bl2, a20, a21⟩ := B2.c2
        go_enter Try.func15, Try.ntmps15
        go_wp2_with (fail)
        refine (HC0.out _ R0.out).mono ?_; rintro e w1 ⟨rfl, hb⟩
        replace L := bstep L L.size hb
        replace B0 := B0.below hb
        replace B1 := B1.below hb
        replace B2 := B2.below hb
        replace R0 := Lib.hid (rdTabC_below R0.out hb)
        replace R1 := Lib.hid (rdTabC_below R1.out hb)
        replace R2 := Lib.hid (rdTabC_below R2.out hb)
        clear a00 a01 a10 a11 a20 a21 bl0 bl1 bl2
        clear HC0 hb
        obtain ⟨bl0, a00, a01⟩ := B0.c2
        obtain ⟨bl1, a10, a11⟩ := B1.c2
        obtain ⟨bl2, a20, a21⟩ := B2.c2
        go_wp2_with (fail)
        refine (sIn_yes _ _ _ _ LN1.out LN2.out).mono ?_; rintro e w' ⟨rfl, rfl⟩
        go_wp2_with (fail)
        refine (HC1.out _ R1.out).mono ?_; rintro e w2 ⟨rfl, hb⟩
        replace L := bstep L L.size hb
        replace B0 := B0.below hb
        replace B1 := B1.below hb
        replace B2 := B2.below hb
        replace R0 := Lib.hid (rdTabC_below R0.out hb)
        replace R1 := Lib.hid (rdTabC_below R1.out hb)
        replace R2 := Lib.hid (rdTabC_below R2.out hb)
        clear a00 a01 a10 a11 a20 a21 bl0 bl1 bl2
        clear HC1 hb
        obtain ⟨bl0, a00, a01⟩ := B0.c2
        obtain ⟨bl1, a10, a11⟩ := B1.c2
        obtain ⟨bl2, a20, a21⟩ := B2.c2
        go_wp2_with (fail)
        go_ret
        exact ⟨ret_b HE.out.symm, L⟩
      | true =>
        have HC1 : Hid (∀ W, rdTabC W (.agg #[.int .i64 x1.C, .slice A1 x1.R.length c1]) x1 → Calls Try.prog 53 #[.agg #[.int .i64 x1.C, .slice A1 x1.R.length c1]] W (RetB true W)) := Lib.hid fun W hW => by have := sIsUnimodular_any (.agg #[.int .i64 x1.C, .slice A1 x1.R.length c1]) x1 W hW; rwa [hk1] at this
        cases hk2 : rIsUnimodular x2 with
        | false =>
          have HE := Lib.hid (smith_no3 (a := x0) (u := x1) (d := x3) hk2)
          have HC2 : Hid (∀ W, rdTabC W (.agg #[.int .i64 x2.C, .slice A2 x2.R.length c2]) x2 → Calls Try.prog 53 #[.agg #[.int .i64 x2.C, .slice A2 x2.R.length c2]] W (RetB false W)) := Lib.hid fun W hW => by have := sIsUnimodular_any (.agg #[.int .i64 x2.C, .slice A2 x2.R.length c2]) x2 W hW; rwa [hk2] at this
          clear hk0 hk1 hk2
          obtain ⟨bl0, a00, a01⟩ := B0.c2
          obtain ⟨bl1, a10, a11⟩ := B1.c2
          obtain ⟨bl2, a20, a21⟩ := B2.c2
          go_enter Try.func15, Try.ntmps15
          go_wp2_with (fail)
          refine (HC0.out _ R0.out).mono ?_; rintro e w1 ⟨rfl, hb⟩
          replace L := bstep L L.size hb
          replace B0 := B0.below hb
          replace B1 := B1.below hb
          replace B2 := B2.below hb
          replace R0 := Lib.hid (rdTabC_below R0.out hb)
          replace R1 := Lib.hid (rdTabC_below R1.out hb)
          replace R2 := Lib.hid (rdTabC_below R2.out hb)
          clear a00 a01 a10 a11 a20 a21 bl0 bl1 bl2
          clear HC0 hb
          obtain ⟨bl0, a00, a01⟩ := B0.c2
          obtain ⟨bl1, a10, a11⟩ := B1.c2
          obtain ⟨bl2, a20, a21⟩ := B2.c2
          go_wp2_with (fail)
          refine (sIn_yes _ _ _ _ LN1.out LN2.out).mono ?_; rintro e w' ⟨rfl, rfl⟩
          go_wp2_with (fail)
          refine (HC1.out _ R1.out).mono ?_; rintro e w2 ⟨rfl, hb⟩
          replace L := bstep L L.size hb
          replace B0 := B0.below hb
          replace B1 := B1.below hb
          replace B2 := B2.below hb
          replace R0 := Lib.hid (rdTabC_below R0.out hb)
          replace R1 := Lib.hid (rdTabC_below R1.out hb)
          replace R2 := Lib.hid (rdTabC_below R2.out hb)
          clear a00 a01 a10 a11 a20 a21 bl0 bl1 bl2
          clear HC1 hb
          obtain ⟨bl0, a00, a01⟩ := B0.c2
          obtain ⟨bl1, a10, a11⟩ := B1.c2
          obtain ⟨bl2, a20, a21⟩ := B2.c2
          go_wp2_with (fail)
          refine (HC2.out _ R2.out).mono ?_; rintro e w3 ⟨rfl, hb⟩
          replace L := bstep L L.size hb
          replace B0 := B0.below hb
          replace B1 := B1.below hb
          replace B2 := B2.below hb
          replace R0 := Lib.hid (rdTabC_below R0.out hb)
          replace R1 := Lib.hid (rdTabC_below R1.out hb)
          replace R2 := Lib.hid (rdTabC_below R2.out hb)
          clear a00 a01 a10 a11 a20 a21 bl0 bl1 bl2
          clear HC2 hb
          obtain ⟨bl0, a00, a01⟩ := B0.c2
          obtain ⟨bl1, a10, a11⟩ := B1.c2
          obtain ⟨bl2, a20, a21⟩ := B2.c2
          go_wp2_with (fail)
          go_ret
          exact ⟨ret_b HE.out.symm, L⟩
        | true =>
          have HC2 : Hid (∀ W, rdTabC W (.agg #[.int .i64 x2.C, .slice A2 x2.R.length c2]) x2 → Calls Try.prog 53 #[.agg #[.int .i64 x2.C, .slice A2 x2.R.length c2]] W (RetB true W)) := Lib.hid fun W hW => by have := sIsUnimodular_any (.agg #[.int .i64 x2.C, .slice A2 x2.R.length c2]) x2 W hW; rwa [hk2] at this
          by_cases hc4 : x1.C = (x0.R.length : Int)
          · have T4 : (x1.C != (x0.R.length : Int)) = false := bne_eq_false_iff_eq.mpr hc4
            by_cases hc5 : x2.C = x0.C
            · have T5 : (x2.C != x0.C) = false := bne_eq_false_iff_eq.mpr hc5
              by_cases hc7 : x3.length ≤ x0.R.length
              · by_cases hc8 : (x3.length : Int) ≤ x0.C
                · exact absurd ⟨hk0, hk1, hk2, hc4, hc5, hc7, hc8⟩ hmain
                · have HE := Lib.hid (smith_no8 (a := x0) (u := x1) (v := x2) hc8)
                  have l7 : ¬ ((x0.R.length : Int) < (x3.length : Int)) := by omega
                  have l8 : x0.C < (x3.length : Int) := by omega
                  clear hk0 hk1 hk2 hc4 hc5 hc8
                  obtain ⟨bl0, a00, a01⟩ := B0.c2
                  obtain ⟨bl1, a10, a11⟩ := B1.c2
                  obtain ⟨bl2, a20, a21⟩ := B2.c2
                  go_enter Try.func15, Try.ntmps15
                  go_wp2_with (fail)
                  refine (HC0.out _ R0.out).mono ?_; rintro e w1 ⟨rfl, hb⟩
                  replace L := bstep L L.size hb
                  replace B0 := B0.below hb
                  replace B1 := B1.below hb
                  replace B2 := B2.below hb
                  replace R0 := Lib.hid (rdTabC_below R0.out hb)
                  replace R1 := Lib.hid (rdTabC_below R1.out hb)
                  replace R2 := Lib.hid (rdTabC_below R2.out hb)
                  clear a00 a01 a10 a11 a20 a21 bl0 bl1 bl2
                  clear HC0 hb
                  obtain ⟨bl0, a00, a01⟩ := B0.c2
                  obtain ⟨bl1, a10, a11⟩ := B1.c2
                  obtain ⟨bl2, a20, a21⟩ := B2.c2
                  go_wp2_with (fail)
                  refine (sIn_yes _ _ _ _ LN1.out LN2.out).mono ?_; rintro e w' ⟨rfl, rfl⟩
                  go_wp2_with (fail)
                  refine (HC1.out _ R1.out).mono ?_; rintro e w2 ⟨rfl, hb⟩
                  replace L := bstep L L.size hb
                  replace B0 := B0.below hb
                  replace B1 := B1.below hb
                  replace B2 := B2.below hb
                  replace R0 := Lib.hid (rdTabC_below R0.out hb)
                  replace R1 := Lib.hid (rdTabC_below R1.out hb)
                  replace R2 := Lib.hid (rdTabC_below R2.out hb)
                  clear a00 a01 a10 a11 a20 a21 bl0 bl1 bl2
                  clear HC1 hb
                  obtain ⟨bl0, a00, a01⟩ := B0.c2
                  obtain ⟨bl1, a10, a11⟩ := B1.c2
                  obtain ⟨bl2, a20, a21⟩ := B2.c2
                  go_wp2_with (fail)
                  refine (HC2.out _ R2.out).mono ?_; rintro e w3 ⟨rfl, hb⟩
                  replace L := bstep L L.size hb
                  replace B0 := B0.below hb
                  replace B1 := B1.below hb
                  replace B2 := B2.below hb
                  replace R0 := Lib.hid (rdTabC_below R0.out hb)
                  replace R1 := Lib.hid (rdTabC_below R1.out hb)
                  replace R2 := Lib.hid (rdTabC_below R2.out hb)
                  clear a00 a01 a10 a11 a20 a21 bl0 bl1 bl2
                  clear HC2 hb
                  obtain ⟨bl0, a00, a01⟩ := B0.c2
                  obtain ⟨bl1, a10, a11⟩ := B1.c2
                  obtain ⟨bl2, a20, a21⟩ := B2.c2
                  go_wp2_with (fail)
                  go_ret
                  exact ⟨ret_b HE.out.symm, L⟩
              · have HE := Lib.hid (smith_no7 (a := x0) (u := x1) (v := x2) hc7)
                have l7 : (x0.R.length : Int) < (x3.length : Int) := by omega
                clear hk0 hk1 hk2 hc4 hc5
                obtain ⟨bl0, a00, a01⟩ := B0.c2
                obtain ⟨bl1, a10, a11⟩ := B1.c2
                obtain ⟨bl2, a20, a21⟩ := B2.c2
                go_enter Try.func15, Try.ntmps15
                go_wp2_with (fail)
                refine (HC0.out _ R0.out).mono ?_; rintro e w1 ⟨rfl, hb⟩
                replace L := bstep L L.size hb
                replace B0 := B0.below hb
                replace B1 := B1.below hb
                replace B2 := B2.below hb
                replace R0 := Lib.hid (rdTabC_below R0.out hb)
                replace R1 := Lib.hid (rdTabC_below R1.out hb)
                replace R2 := Lib.hid (rdTabC_below R2.out hb)
                clear a00 a01 a10 a11 a20 a21 bl0 bl1 bl2
                clear HC0 hb
                obtain ⟨bl0, a00, a01⟩ := B0.c2
                obtain ⟨bl1, a10, a11⟩ := B1.c2
                obtain ⟨bl2, a20, a21⟩ := B2.c2
                go_wp2_with (fail)
                refine (sIn_yes _ _ _ _ LN1.out LN2.out).mono ?_; rintro e w' ⟨rfl, rfl⟩
                go_wp2_with (fail)
                refine (HC1.out _ R1.out).mono ?_; rintro e w2 ⟨rfl, hb⟩
                replace L := bstep L L.size hb
                replace B0 := B0.below hb
                replace B1 := B1.below hb
                replace B2 := B2.below hb
                replace R0 := Lib.hid (rdTabC_below R0.out hb)
                replace R1 := Lib.hid (rdTabC_below R1.out hb)
                replace R2 := Lib.hid (rdTabC_below R2.out hb)
                clear a00 a01 a10 a11 a20 a21 bl0 bl1 bl2
                clear HC1 hb
                obtain ⟨bl0, a00, a01⟩ := B0.c2
                obtain ⟨bl1, a10, a11⟩ := B1.c2
                obtain ⟨bl2, a20, a21⟩ := B2.c2
                go_wp2_with (fail)
                refine (HC2.out _ R2.out).mono ?_; rintro e w3 ⟨rfl, hb⟩
                replace L := bstep L L.size hb
                replace B0 := B0.below hb
                replace B1 := B1.below hb
                replace B2 := B2.below hb
                replace R0 := Lib.hid (rdTabC_below R0.out hb)
                replace R1 := Lib.hid (rdTabC_below R1.out hb)
                replace R2 := Lib.hid (rdTabC_below R2.out hb)
                clear a00 a01 a10 a11 a20 a21 bl0 bl1 bl2
                clear HC2 hb
                obtain ⟨bl0, a00, a01⟩ := B0.c2
                obtain ⟨bl1, a10, a11⟩ := B1.c2
                obtain ⟨bl2, a20, a21⟩ := B2.c2
                go_wp2_with (fail)
                go_ret
                exact ⟨ret_b HE.out.symm, L⟩
            · have HE := Lib.hid (smith_no5 (u := x1) (d := x3) hc5)
              have T5 : (x2.C != x0.C) = true := bne_iff_ne.mpr hc5
              clear hk0 hk1 hk2 hc4 hc5
              obtain ⟨bl0, a00, a01⟩ := B0.c2
              obtain ⟨bl1, a10, a11⟩ := B1.c2
              obtain ⟨bl2, a20, a21⟩ := B2.c2
              go_enter Try.func15, Try.ntmps15
              go_wp2_with (fail)
              refine (HC0.out _ R0.out).mono ?_; rintro e w1 ⟨rfl, hb⟩
              replace L := bstep L L.size hb
              replace B0 := B0.below hb
              replace B1 := B1.below hb
              replace B2 := B2.below hb
              replace R0 := Lib.hid (rdTabC_below R0.out hb)
              replace R1 := Lib.hid (rdTabC_below R1.out hb)
              replace R2 := Lib.hid (rdTabC_below R2.out hb)
              clear a00 a01 a10 a11 a20 a21 bl0 bl1 bl2
              clear HC0 hb
              obtain ⟨bl0, a00, a01⟩ := B0.c2
              obtain ⟨bl1, a10, a11⟩ := B1.c2
              obtain ⟨bl2, a20, a21⟩ := B2.c2
              go_wp2_with (fail)
              refine (sIn_yes _ _ _ _ LN1.out LN2.out).mono ?_; rintro e w' ⟨rfl, rfl⟩
              go_wp2_with (fail)
              refine (HC1.out _ R1.out).mono ?_; rintro e w2 ⟨rfl, hb⟩
              replace L := bstep L L.size hb
              replace B0 := B0.below hb
              replace B1 := B1.below hb
              replace B2 := B2.below hb
              replace R0 := Lib.hid (rdTabC_below R0.out hb)
              replace R1 := Lib.hid (rdTabC_below R1.out hb)
              replace R2 := Lib.hid (rdTabC_below R2.out hb)
              clear a00 a01 a10 a11 a20 a21 bl0 bl1 bl2
              clear HC1 hb
              obtain ⟨bl0, a00, a01⟩ := B0.c2
              obtain ⟨bl1, a10, a11⟩ := B1.c2
              obtain ⟨bl2, a20, a21⟩ := B2.c2
              go_wp2_with (fail)
              refine (HC2.out _ R2.out).mono ?_; rintro e w3 ⟨rfl, hb⟩
              replace L := bstep L L.size hb
              replace B0 := B0.below hb
              replace B1 := B1.below hb
              replace B2 := B2.below hb
              replace R0 := Lib.hid (rdTabC_below R0.out hb)
              replace R1 := Lib.hid (rdTabC_below R1.out hb)
              replace R2 := Lib.hid (rdTabC_below R2.out hb)
              clear a00 a01 a10 a11 a20 a21 bl0 bl1 bl2
              clear HC2 hb
              obtain ⟨bl0, a00, a01⟩ := B0.c2
              obtain ⟨bl1, a10, a11⟩ := B1.c2
              obtain ⟨bl2, a20, a21⟩ := B2.c2
              go_wp2_with (fail)
              go_ret
              exact ⟨ret_b HE.out.symm, L⟩
          · have HE := Lib.hid (smith_no4 (v := x2) (d := x3) hc4)
            have T4 : (x1.C != (x0.R.length : Int)) = true := bne_iff_ne.mpr hc4
            clear hk0 hk1 hk2 hc4
            obtain ⟨bl0, a00, a01⟩ := B0.c2
            obtain ⟨bl1, a10, a11⟩ := B1.c2
            obtain ⟨bl2, a20, a21⟩ := B2.c2
            go_enter Try.func15, Try.ntmps15
            go_wp2_with (fail)
            refine (HC0.out _ R0.out).mono ?_; rintro e w1 ⟨rfl, hb⟩
            replace L := bstep L L.size hb
            replace B0 := B0.below hb
            replace B1 := B1.below hb
            replace B2 := B2.below hb
            replace R0 := Lib.hid (rdTabC_below R0.out hb)
            replace R1 := Lib.hid (rdTabC_below R1.out hb)
            replace R2 := Lib.hid (rdTabC_below R2.out hb)
            clear a00 a01 a10 a11 a20 a21 bl0 bl1 bl2
            clear HC0 hb
            obtain ⟨bl0, a00, a01⟩ := B0.c2
            obtain ⟨bl1, a10, a11⟩ := B1.c2
            obtain ⟨bl2, a20, a21⟩ := B2.c2
            go_wp2_with (fail)
            refine (sIn_yes _ _ _ _ LN1.out LN2.out).mono ?_; rintro e w' ⟨rfl, rfl⟩
            go_wp2_with (fail)
            refine (HC1.out _ R1.out).mono ?_; rintro e w2 ⟨rfl, hb⟩
            replace L := bstep L L.size hb
            replace B0 := B0.below hb
            replace B1 := B1.below hb
            replace B2 := B2.below hb
            replace R0 := Lib.hid (rdTabC_below R0.out hb)
            replace R1 := Lib.hid (rdTabC_below R1.out hb)
            replace R2 := Lib.hid (rdTabC_below R2.out hb)
            clear a00 a01 a10 a11 a20 a21 bl0 bl1 bl2
            clear HC1 hb
            obtain ⟨bl0, a00, a01⟩ := B0.c2
            obtain ⟨bl1, a10, a11⟩ := B1.c2
            obtain ⟨bl2, a20, a21⟩ := B2.c2
            go_wp2_with (fail)
            refine (HC2.out _ R2.out).mono ?_; rintro e w3 ⟨rfl, hb⟩
            replace L := bstep L L.size hb
            replace B0 := B0.below hb
            replace B1 := B1.below hb
            replace B2 := B2.below hb
            replace R0 := Lib.hid (rdTabC_below R0.out hb)
            replace R1 := Lib.hid (rdTabC_below R1.out hb)
            replace R2 := Lib.hid (rdTabC_below R2.out hb)
            clear a00 a01 a10 a11 a20 a21 bl0 bl1 bl2
            clear HC2 hb
            obtain ⟨bl0, a00, a01⟩ := B0.c2
            obtain ⟨bl1, a10, a11⟩ := B1.c2
            obtain ⟨bl2, a20, a21⟩ := B2.c2
            go_wp2_with (fail)
            go_ret
            exact ⟨ret_b HE.out.symm, L⟩
    · have HE := Lib.hid (smith_no9 (u := x1) (v := x2) (d := x3) hln)
      have LN : Hid ((x0.R.length : Int) < 1 ∨ 4 < (x0.R.length : Int)) := Lib.hid (by omega)
      clear hk0 hln
      obtain ⟨bl0, a00, a01⟩ := B0.c2
      obtain ⟨bl1, a10, a11⟩ := B1.c2
      obtain ⟨bl2, a20, a21⟩ := B2.c2
      go_enter Try.func15, Try.ntmps15
      go_wp2_with (fail)
      refine (HC0.out _ R0.out).mono ?_; rintro e w1 ⟨rfl, hb⟩
      replace L := bstep L L.size hb
      replace B0 := B0.below hb
      replace B1 := B1.below hb
      replace B2 := B2.below hb
      replace R0 := Lib.hid (rdTabC_below R0.out hb)
      replace R1 := Lib.hid (rdTabC_below R1.out hb)
      replace R2 := Lib.hid (rdTabC_below R2.out hb)
      clear a00 a01 a10 a11 a20 a21 bl0 bl1 bl2
      clear HC0 hb
      obtain ⟨bl0, a00, a01⟩ := B0.c2
      obtain ⟨bl1, a10, a11⟩ := B1.c2
      obtain ⟨bl2, a20, a21⟩ := B2.c2
      go_wp2_with (fail)
      refine (sIn_no _ _ _ _ LN.out).mono ?_; rintro e w' ⟨rfl, rfl⟩
      go_wp2_with (fail)
      go_ret
      exact ⟨ret_b HE.out.symm, L⟩
theorem iIsSmithProof_ok (v0 : Value) (x0 : Tab) (v1 : Value) (x1 : Tab) (v2 : Value) (x2 : Tab) (v3 : Value) (x3 : List Int) (w : World) (h0 : spTab.rd w v0 x0) (h1 : spTab.rd w v1 x1) (h2 : spTab.rd w v2 x2) (h3 : spI.rd w v3 x3) (s0 : spTab.sz x0 ≤ 1048576) (s1 : spTab.sz x1 ≤ 1048576) (s2 : spTab.sz x2 ≤ 1048576) (s3 : spI.sz x3 ≤ 1048576) : Calls Try.prog 18 #[v0, v1, v2, v3] w (RetB (rIsSmithProof x0 x1 x2 x3) w) := iIsSmithProof_any v0 v1 v2 v3 x0 x1 x2 x3 w h0 h1 h2 h3
theorem sIsSmithProof_ok (v0 : Value) (x0 : Tab) (v1 : Value) (x1 : Tab) (v2 : Value) (x2 : Tab) (v3 : Value) (x3 : List Int) (w : World) (h0 : rdTabC w v0 x0) (h1 : rdTabC w v1 x1) (h2 : rdTabC w v2 x2) (h3 : spI.rd w v3 x3) (s0 : spTab.sz x0 ≤ 1048576) (s1 : spTab.sz x1 ≤ 1048576) (s2 : spTab.sz x2 ≤ 1048576) (s3 : spI.sz x3 ≤ 1048576) : Calls Try.prog 15 #[v0, v1, v2, v3] w (RetB (rIsSmithProof x0 x1 x2 x3) w) := sIsSmithProof_any v0 v1 v2 v3 x0 x1 x2 x3 w h0 h1 h2 h3
end Go.Proofs.Ytihdidbikeaafaa
