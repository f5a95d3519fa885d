/- The walk of the exact law of SubstituteWord. -/
import Derived.Test.YthakglpgcpkpaaaL10M
import Derived.Deep.RegionHeld3
import Derived.Deep.DeepCutAuto
namespace Go.Proofs.Ythakglpgcpkpaaa
open Go.RowKit
set_option linter.unusedVariables false
set_option linter.unusedSimpArgs false

set_option maxRecDepth 100000 in
set_option maxHeartbeats 4000000 in
theorem fnExactSubstituteWord_run (x0 : Int) (v1 : Value) (x1 : List Int) (x2 : Int) (v3 : Value) (x3 : List (List Int)) (w : World) (h1 : spI.rd w v1 x1) (h3 : spII.rd w v3 x3) :
    Calls Try.prog 12 #[.int .i64 x0, v1, .int .i64 x2, v3] w fun e w' => e = .returned (.bool true) ∧ Below w.heap.size w w' := by
  have h1b := h1
  obtain ⟨A1, c1, rfl, m1, -⟩ := h1b
  have m1' := m1
  unfold maxLen at m1'
  have h3b := h3
  obtain ⟨A3, c3, rfl, m3, -⟩ := h3b
  have m3' := m3
  unfold maxLen at m3'
  have L : Below w.heap.size w w := by exact Below.refl _ _
  have RW1 := Lib.hid h1
  have RW3 := Lib.hid h3
  clear h1 h3
  by_cases s1 : (x1.length : Int) ≤ 1048576
  · have s1' : spI.sz x1 ≤ 1048576 := by show x1.length ≤ 1048576; omega
    by_cases s3 : (spII.sz x3 : Int) ≤ 1048576
    · have s3' : spII.sz x3 ≤ 1048576 := by omega
      have HC := Lib.hid (szII_ok (.slice A3 x3.length c3) x3 (1048576) w (spII.rd_below RW3.out L) (by omega) (by omega))
      rw [szLeft_yes (n := spII.sz x3) (left := 1048576) (by omega)] at HC
      have g3 : 0 ≤ 1048576 - (spII.sz x3 : Int) := by omega
      have g3' : 1048576 - (spII.sz x3 : Int) ≤ 1048576 := by omega
      go_enter Try.func12, Try.ntmps12
      go_wp2_with (fail)
      refine HC.out.mono ?_; rintro e w1 ⟨rfl, hb⟩
      clear HC
      replace L := bstep L L.size hb
      clear hb
      go_wp2_with (fail)
      refine (toI_ok (.slice A1 x1.length c1) x1 w1 (spI.rd_below RW1.out L) s1').mono ?_; rintro e w2 ⟨up1, Sp1, rfl, owp1, hSp1, hb⟩
      have Hp1 : Hid (∀ k, Sp1 k → w.heap.size ≤ k) := Lib.hid fun k g => by have := hSp1 k g; have := L.size; omega
      replace L := bstep L L.size hb
      clear hb hSp1
      have Op1 := Lib.hid owp1
      clear owp1
      go_wp2_with (fail)
      refine (toII_ok (.slice A3 x3.length c3) x3 w2 (spII.rd_below RW3.out L) s3').mono ?_; rintro e w3 ⟨up3, Sp3, rfl, owp3, hSp3, hb⟩
      have Dp1_p3 : Hid (∀ k, Sp1 k → ¬ Sp3 k) := Lib.hid fun k g1 g2 => by have := spI.own_lt Op1.out g1; have := hSp3 k g2; omega
      have Hp3 : Hid (∀ k, Sp3 k → w.heap.size ≤ k) := Lib.hid fun k g => by have := hSp3 k g; have := L.size; omega
      replace Op1 := Lib.hid (spI.own_below Op1.out hb)
      replace L := bstep L L.size hb
      clear hb hSp3
      have Op3 := Lib.hid owp3
      clear owp3
      go_wp2_with (fail)
      refine (sSubstituteWord_ok x0 up1 x1 x2 up3 x3 w3 (spI.own_rd Op1.out) (spII.own_rd Op3.out) s1' s3').mono ?_; rintro e w4 ⟨uw0, Sw0, rfl, oww0, hSw0, hcnt, hb⟩
      clear hcnt
      have Dp1_w0 : Hid (∀ k, Sp1 k → ¬ Sw0 k) := Lib.hid fun k g1 g2 => by have := spI.own_lt Op1.out g1; have := hSw0 k g2; omega
      have Dp3_w0 : Hid (∀ k, Sp3 k → ¬ Sw0 k) := Lib.hid fun k g1 g2 => by have := spII.own_lt Op3.out g1; have := hSw0 k g2; omega
      have Hw0 : Hid (∀ k, Sw0 k → w.heap.size ≤ k) := Lib.hid fun k g => by have := hSw0 k g; have := L.size; omega
      replace Op1 := Lib.hid (spI.own_below Op1.out hb)
      replace Op3 := Lib.hid (spII.own_below Op3.out hb)
      replace L := bstep L L.size hb
      clear hb hSw0
      have Ow0 := Lib.hid oww0
      clear oww0
      go_wp2_with (fail)
      refine (toI_ok (.slice A1 x1.length c1) x1 w4 (spI.rd_below RW1.out L) s1').mono ?_; rintro e w5 ⟨uq1, Sq1, rfl, owq1, hSq1, hb⟩
      have Dw0_q1 : Hid (∀ k, Sw0 k → ¬ Sq1 k) := Lib.hid fun k g1 g2 => by have := spI.own_lt Ow0.out g1; have := hSq1 k g2; omega
      have Hq1 : Hid (∀ k, Sq1 k → w.heap.size ≤ k) := Lib.hid fun k g => by have := hSq1 k g; have := L.size; omega
      replace Ow0 := Lib.hid (spI.own_below Ow0.out hb)
      replace L := bstep L L.size hb
      clear hb hSq1
      have Oq1 := Lib.hid owq1
      clear owq1
      go_wp2_with (fail)
      refine (toII_ok (.slice A3 x3.length c3) x3 w5 (spII.rd_below RW3.out L) s3').mono ?_; rintro e w6 ⟨uq3, Sq3, rfl, owq3, hSq3, hb⟩
      have Dw0_q3 : Hid (∀ k, Sw0 k → ¬ Sq3 k) := Lib.hid fun k g1 g2 => by have := spI.own_lt Ow0.out g1; have := hSq3 k g2; omega
      have Dq1_q3 : Hid (∀ k, Sq1 k → ¬ Sq3 k) := Lib.hid fun k g1 g2 => by have := spI.own_lt Oq1.out g1; have := hSq3 k g2; omega
      have Hq3 : Hid (∀ k, Sq3 k → w.heap.size ≤ k) := Lib.hid fun k g => by have := hSq3 k g; have := L.size; omega
      replace Ow0 := Lib.hid (spI.own_below Ow0.out hb)
      replace Oq1 := Lib.hid (spI.own_below Oq1.out hb)
      replace L := bstep L L.size hb
      clear hb hSq3
      have Oq3 := Lib.hid owq3
      clear owq3
      go_wp2_with (fail)
      refine (iSubstituteWord_ok x0 uq1 x1 x2 uq3 x3 w6 (spI.own_rd Oq1.out) (spII.own_rd Oq3.out) s1' s3').mono ?_; rintro e w7 ⟨ug0, Sg0, rfl, owg0, hSg0, hcnt, hb⟩
      have Dw0_g0 : Hid (∀ k, Sw0 k → ¬ Sg0 k) := Lib.hid fun k g1 g2 => by have := spI.own_lt Ow0.out g1; have := hSg0 k g2; omega
      have Dq1_g0 : Hid (∀ k, Sq1 k → ¬ Sg0 k) := Lib.hid fun k g1 g2 => by have := spI.own_lt Oq1.out g1; have := hSg0 k g2; omega
      have Dq3_g0 : Hid (∀ k, Sq3 k → ¬ Sg0 k) := Lib.hid fun k g1 g2 => by have := spII.own_lt Oq3.out g1; have := hSg0 k g2; omega
      have Hg0 : Hid (∀ k, Sg0 k → w.heap.size ≤ k) := Lib.hid fun k g => by have := hSg0 k g; have := L.size; omega
      replace Ow0 := Lib.hid (spI.own_below Ow0.out hb)
      replace Oq1 := Lib.hid (spI.own_below Oq1.out hb)
      replace Oq3 := Lib.hid (spII.own_below Oq3.out hb)
      replace L := bstep L L.size hb
      clear hb hSg0
      have Og0 := Lib.hid owg0
      clear owg0
      go_wp2_with (fail)
      refine (eqI_ok ug0 uw0 (rSubstituteWord x0 x1 x2 x3) w7 (spI.own_rd Og0.out) (spI.own_rd Ow0.out)).mono ?_; rintro e w8 ⟨rfl, hb⟩
      replace Ow0 := Lib.hid (spI.own_below Ow0.out hb)
      replace Oq1 := Lib.hid (spI.own_below Oq1.out hb)
      replace Oq3 := Lib.hid (spII.own_below Oq3.out hb)
      replace Og0 := Lib.hid (spI.own_below Og0.out hb)
      replace L := bstep L L.size hb
      clear hb
      go_wp2_with (fail)
      refine (toI_ok (.slice A1 x1.length c1) x1 w8 (spI.rd_below RW1.out L) s1').mono ?_; rintro e w9 ⟨ut1, St1, rfl, owt1, hSt1, hb⟩
      have Dw0_t1 : Hid (∀ k, Sw0 k → ¬ St1 k) := Lib.hid fun k g1 g2 => by have := spI.own_lt Ow0.out g1; have := hSt1 k g2; omega
      have Dq1_t1 : Hid (∀ k, Sq1 k → ¬ St1 k) := Lib.hid fun k g1 g2 => by have := spI.own_lt Oq1.out g1; have := hSt1 k g2; omega
      have Dq3_t1 : Hid (∀ k, Sq3 k → ¬ St1 k) := Lib.hid fun k g1 g2 => by have := spII.own_lt Oq3.out g1; have := hSt1 k g2; omega
      have Dg0_t1 : Hid (∀ k, Sg0 k → ¬ St1 k) := Lib.hid fun k g1 g2 => by have := spI.own_lt Og0.out g1; have := hSt1 k g2; omega
      have Ht1 : Hid (∀ k, St1 k → w.heap.size ≤ k) := Lib.hid fun k g => by have := hSt1 k g; have := L.size; omega
      replace Ow0 := Lib.hid (spI.own_below Ow0.out hb)
      replace Oq1 := Lib.hid (spI.own_below Oq1.out hb)
      replace Oq3 := Lib.hid (spII.own_below Oq3.out hb)
      replace Og0 := Lib.hid (spI.own_below Og0.out hb)
      replace L := bstep L L.size hb
      clear hb hSt1
      have Ot1 := Lib.hid owt1
      clear owt1
      go_wp2_with (fail)
      refine (eqI_ok uq1 ut1 x1 w9 (spI.own_rd Oq1.out) (spI.own_rd Ot1.out)).mono ?_; rintro e w10 ⟨rfl, hb⟩
      replace Ow0 := Lib.hid (spI.own_below Ow0.out hb)
      replace Oq1 := Lib.hid (spI.own_below Oq1.out hb)
      replace Oq3 := Lib.hid (spII.own_below Oq3.out hb)
      replace Og0 := Lib.hid (spI.own_below Og0.out hb)
      replace Ot1 := Lib.hid (spI.own_below Ot1.out hb)
      replace L := bstep L L.size hb
      clear hb
      go_wp2_with (fail)
      refine (toII_ok (.slice A3 x3.length c3) x3 w10 (spII.rd_below RW3.out L) s3').mono ?_; rintro e w11 ⟨ut3, St3, rfl, owt3, hSt3, hb⟩
      have Dw0_t3 : Hid (∀ k, Sw0 k → ¬ St3 k) := Lib.hid fun k g1 g2 => by have := spI.own_lt Ow0.out g1; have := hSt3 k g2; omega
      have Dq1_t3 : Hid (∀ k, Sq1 k → ¬ St3 k) := Lib.hid fun k g1 g2 => by have := spI.own_lt Oq1.out g1; have := hSt3 k g2; omega
      have Dq3_t3 : Hid (∀ k, Sq3 k → ¬ St3 k) := Lib.hid fun k g1 g2 => by have := spII.own_lt Oq3.out g1; have := hSt3 k g2; omega
      have Dg0_t3 : Hid (∀ k, Sg0 k → ¬ St3 k) := Lib.hid fun k g1 g2 => by have := spI.own_lt Og0.out g1; have := hSt3 k g2; omega
      have Ht3 : Hid (∀ k, St3 k → w.heap.size ≤ k) := Lib.hid fun k g => by have := hSt3 k g; have := L.size; omega
      replace Ow0 := Lib.hid (spI.own_below Ow0.out hb)
      replace Oq1 := Lib.hid (spI.own_below Oq1.out hb)
      replace Oq3 := Lib.hid (spII.own_below Oq3.out hb)
      replace Og0 := Lib.hid (spI.own_below Og0.out hb)
      replace L := bstep L L.size hb
      clear hb hSt3
      have Ot3 := Lib.hid owt3
      clear owt3
      go_wp2_with (fail)
      refine (eqII_ok uq3 ut3 x3 w11 (spII.own_rd Oq3.out) (spII.own_rd Ot3.out)).mono ?_; rintro e w12 ⟨rfl, hb⟩
      replace Ow0 := Lib.hid (spI.own_below Ow0.out hb)
      replace Oq1 := Lib.hid (spI.own_below Oq1.out hb)
      replace Oq3 := Lib.hid (spII.own_below Oq3.out hb)
      replace Og0 := Lib.hid (spI.own_below Og0.out hb)
      replace Ot3 := Lib.hid (spII.own_below Ot3.out hb)
      replace L := bstep L L.size hb
      clear hb
      have e1 := spI_cnt x1
      have e3 := spII_cnt x3
      go_wp2_with (fail)
      refine (markI_ok Sq1 uq1 x1 (1) w12 Oq1.out (by omega) (by omega)).mono ?_; rintro e w13 ⟨rfl, ow, ch⟩
      replace Ow0 := Lib.hid (spI.own_chg Ow0.out ch Dw0_q1.out)
      replace Oq3 := Lib.hid (spII.own_chg Oq3.out ch (fun k g1 g2 => Dq1_q3.out k g2 g1))
      replace Og0 := Lib.hid (spI.own_chg Og0.out ch (fun k g1 g2 => Dq1_g0.out k g2 g1))
      replace L := bstepS L L.size Hq1.out ch
      replace Oq1 := Lib.hid ow
      clear ow ch
      have kp1 : 0 ≤ 1 + (spI.cnt x1 : Int) := by omega
      go_wp2_with (fail)
      refine (markII_ok Sq3 uq3 x3 (1 + (spI.cnt x1 : Int)) w13 Oq3.out (by omega) (by omega)).mono ?_; rintro e w14 ⟨rfl, ow, ch⟩
      replace Ow0 := Lib.hid (spI.own_chg Ow0.out ch Dw0_q3.out)
      replace Oq1 := Lib.hid (spI.own_chg Oq1.out ch Dq1_q3.out)
      replace Og0 := Lib.hid (spI.own_chg Og0.out ch (fun k g1 g2 => Dq3_g0.out k g2 g1))
      replace L := bstepS L L.size Hq3.out ch
      replace Oq3 := Lib.hid ow
      clear ow ch
      have kp3 : 0 ≤ 1 + (spI.cnt x1 : Int) + (spII.cnt x3 : Int) := by omega
      go_wp2_with (fail)
      refine (eqI_ok ug0 uw0 (rSubstituteWord x0 x1 x2 x3) w14 (spI.own_rd Og0.out) (spI.own_rd Ow0.out)).mono ?_; rintro e w15 ⟨rfl, hb⟩
      replace Ow0 := Lib.hid (spI.own_below Ow0.out hb)
      replace Oq1 := Lib.hid (spI.own_below Oq1.out hb)
      replace Oq3 := Lib.hid (spII.own_below Oq3.out hb)
      replace Og0 := Lib.hid (spI.own_below Og0.out hb)
      replace L := bstep L L.size hb
      clear hb
      go_wp2_with (fail)
      refine (markI_ok Sg0 ug0 (rSubstituteWord x0 x1 x2 x3) (1) w15 Og0.out (by omega) (by omega)).mono ?_; rintro e w16 ⟨rfl, ow, ch⟩
      replace Ow0 := Lib.hid (spI.own_chg Ow0.out ch Dw0_g0.out)
      replace L := bstepS L L.size Hg0.out ch
      replace Og0 := Lib.hid ow
      clear ow ch
      have km : 0 ≤ 1 + (spI.cnt (rSubstituteWord x0 x1 x2 x3) : Int) := by omega
      go_wp2_with (fail)
      refine (heldI_ok ug0 (rSubstituteWord x0 x1 x2 x3) 1 w16 (spI.own_rd Og0.out) (by omega) (by omega)).mono ?_; rintro e w17 ⟨rfl, hb⟩
      replace Ow0 := Lib.hid (spI.own_below Ow0.out hb)
      replace Og0 := Lib.hid (spI.own_below Og0.out hb)
      replace L := bstep L L.size hb
      clear hb
      go_wp2_with (fail)
      refine (toI_ok (.slice A1 x1.length c1) x1 w17 (spI.rd_below RW1.out L) s1').mono ?_; rintro e w18 ⟨ur1, Sr1, rfl, owr1, hSr1, hb⟩
      have Dw0_r1 : Hid (∀ k, Sw0 k → ¬ Sr1 k) := Lib.hid fun k g1 g2 => by have := spI.own_lt Ow0.out g1; have := hSr1 k g2; omega
      have Dg0_r1 : Hid (∀ k, Sg0 k → ¬ Sr1 k) := Lib.hid fun k g1 g2 => by have := spI.own_lt Og0.out g1; have := hSr1 k g2; omega
      have Hr1 : Hid (∀ k, Sr1 k → w.heap.size ≤ k) := Lib.hid fun k g => by have := hSr1 k g; have := L.size; omega
      replace Ow0 := Lib.hid (spI.own_below Ow0.out hb)
      replace Og0 := Lib.hid (spI.own_below Og0.out hb)
      replace L := bstep L L.size hb
      clear hb hSr1
      have Or1 := Lib.hid owr1
      clear owr1
      go_wp2_with (fail)
      refine (toII_ok (.slice A3 x3.length c3) x3 w18 (spII.rd_below RW3.out L) s3').mono ?_; rintro e w19 ⟨ur3, Sr3, rfl, owr3, hSr3, hb⟩
      have Dw0_r3 : Hid (∀ k, Sw0 k → ¬ Sr3 k) := Lib.hid fun k g1 g2 => by have := spI.own_lt Ow0.out g1; have := hSr3 k g2; omega
      have Dg0_r3 : Hid (∀ k, Sg0 k → ¬ Sr3 k) := Lib.hid fun k g1 g2 => by have := spI.own_lt Og0.out g1; have := hSr3 k g2; omega
      have Dr1_r3 : Hid (∀ k, Sr1 k → ¬ Sr3 k) := Lib.hid fun k g1 g2 => by have := spI.own_lt Or1.out g1; have := hSr3 k g2; omega
      have Hr3 : Hid (∀ k, Sr3 k → w.heap.size ≤ k) := Lib.hid fun k g => by have := hSr3 k g; have := L.size; omega
      replace Ow0 := Lib.hid (spI.own_below Ow0.out hb)
      replace Og0 := Lib.hid (spI.own_below Og0.out hb)
      replace Or1 := Lib.hid (spI.own_below Or1.out hb)
      replace L := bstep L L.size hb
      clear hb hSr3
      have Or3 := Lib.hid owr3
      clear owr3
      go_wp2_with (fail)
      refine (iSubstituteWord_ok x0 ur1 x1 x2 ur3 x3 w19 (spI.own_rd Or1.out) (spII.own_rd Or3.out) s1' s3').mono ?_; rintro e w20 ⟨uh0, Sh0, rfl, owh0, hSh0, hcnt, hb⟩
      clear hcnt
      have Dw0_h0 : Hid (∀ k, Sw0 k → ¬ Sh0 k) := Lib.hid fun k g1 g2 => by have := spI.own_lt Ow0.out g1; have := hSh0 k g2; omega
      have Dg0_h0 : Hid (∀ k, Sg0 k → ¬ Sh0 k) := Lib.hid fun k g1 g2 => by have := spI.own_lt Og0.out g1; have := hSh0 k g2; omega
      have Dr1_h0 : Hid (∀ k, Sr1 k → ¬ Sh0 k) := Lib.hid fun k g1 g2 => by have := spI.own_lt Or1.out g1; have := hSh0 k g2; omega
      have Dr3_h0 : Hid (∀ k, Sr3 k → ¬ Sh0 k) := Lib.hid fun k g1 g2 => by have := spII.own_lt Or3.out g1; have := hSh0 k g2; omega
      have Hh0 : Hid (∀ k, Sh0 k → w.heap.size ≤ k) := Lib.hid fun k g => by have := hSh0 k g; have := L.size; omega
      replace Ow0 := Lib.hid (spI.own_below Ow0.out hb)
      replace Og0 := Lib.hid (spI.own_below Og0.out hb)
      replace Or1 := Lib.hid (spI.own_below Or1.out hb)
      replace Or3 := Lib.hid (spII.own_below Or3.out hb)
      replace L := bstep L L.size hb
      clear hb hSh0
      have Oh0 := Lib.hid owh0
      clear owh0
      go_wp2_with (fail)
      refine (eqI_ok uh0 uw0 (rSubstituteWord x0 x1 x2 x3) w20 (spI.own_rd Oh0.out) (spI.own_rd Ow0.out)).mono ?_; rintro e w21 ⟨rfl, hb⟩
      replace Ow0 := Lib.hid (spI.own_below Ow0.out hb)
      replace Og0 := Lib.hid (spI.own_below Og0.out hb)
      replace Oh0 := Lib.hid (spI.own_below Oh0.out hb)
      replace L := bstep L L.size hb
      clear hb
      go_wp2_with (fail)
      refine (heldI_ok ug0 (rSubstituteWord x0 x1 x2 x3) 1 w21 (spI.own_rd Og0.out) (by omega) (by omega)).mono ?_; rintro e w22 ⟨rfl, hb⟩
      replace Ow0 := Lib.hid (spI.own_below Ow0.out hb)
      replace Og0 := Lib.hid (spI.own_below Og0.out hb)
      replace Oh0 := Lib.hid (spI.own_below Oh0.out hb)
      replace L := bstep L L.size hb
      clear hb
      go_wp2_with (fail)
      go_ret
      exact ⟨rfl, L⟩
    · have HC := Lib.hid (szII_ok (.slice A3 x3.length c3) x3 (1048576) w (spII.rd_below RW3.out L) (by omega) (by omega))
      rw [szLeft_no (n := spII.sz x3) (left := 1048576) (by omega)] at HC
      go_enter Try.func12, Try.ntmps12
      go_wp2_with (fail)
      refine HC.out.mono ?_; rintro e w1 ⟨rfl, hb⟩
      clear HC
      replace L := bstep L L.size hb
      clear hb
      go_wp2_with (fail)
      go_ret
      exact ⟨rfl, L⟩
  · have s1'' : 1048576 < (x1.length : Int) := by omega
    go_enter Try.func12, Try.ntmps12
    go_wp2_with (fail)
    go_ret
    exact ⟨rfl, L⟩
theorem fnExactSubstituteWord_walk (a0 : Int) (A1 : Option Addr) (c1 : Nat) (xs1 : List Int) (a2 : Int) (A3 : Option Addr) (c3 : Nat) (xss3 : List (List Int)) (w : World) (w0 : (Lit.int .i64 a0).wf = true) (w1 : RdI w A1 xs1 ∧ xs1.length ≤ maxLen) (w2 : (Lit.int .i64 a2).wf = true) (w3 : RdII w A3 xss3 ∧ (∀ j, j < xss3.length → (xss3.getD j []).length ≤ maxLen) ∧ xss3.length ≤ maxLen) :
    Calls Try.prog 12 #[.int .i64 a0, .slice A1 xs1.length c1, .int .i64 a2, .slice A3 xss3.length c3] w fun e w' => e = .returned (.bool true) ∧ Below w.heap.size w w' :=
  fnExactSubstituteWord_run a0 (.slice A1 xs1.length c1) xs1 a2 (.slice A3 xss3.length c3) xss3 w ⟨A1, c1, rfl, w1.2, w1.1⟩ (rdLists_of w3)
end Go.Proofs.Ythakglpgcpkpaaa
