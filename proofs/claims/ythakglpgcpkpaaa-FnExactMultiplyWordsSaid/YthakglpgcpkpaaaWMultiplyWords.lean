/- The walk of the exact law of MultiplyWords. -/
import Derived.Test.YthakglpgcpkpaaaL10F
import Derived.Deep.RegionHeld3
import Derived.Deep.DeepCutAuto
namespace Go.Proofs.Ythakglpgcpkpaaa
open Go.RowKit
set_option linter.unusedVariables false
set_option linter.unusedSimpArgs false

set_option maxRecDepth 100000 in
set_option maxHeartbeats 4000000 in
theorem fnExactMultiplyWords_run (x0 : Int) (v1 : Value) (x1 : List Int) (v2 : Value) (x2 : List Int) (w : World) (h1 : spI.rd w v1 x1) (h2 : spI.rd w v2 x2) :
    Calls Try.prog 8 #[.int .i64 x0, v1, v2] w fun e w' => e = .returned (.bool true) ∧ Below w.heap.size w w' := by
  have h1b := h1
  obtain ⟨A1, c1, rfl, m1, -⟩ := h1b
  have m1' := m1
  unfold maxLen at m1'
  have h2b := h2
  obtain ⟨A2, c2, rfl, m2, -⟩ := h2b
  have m2' := m2
  unfold maxLen at m2'
  have L : Below w.heap.size w w := by exact Below.refl _ _
  have RW1 := Lib.hid h1
  have RW2 := Lib.hid h2
  clear h1 h2
  by_cases s1 : (x1.length : Int) ≤ 1048576
  · have s1' : spI.sz x1 ≤ 1048576 := by show x1.length ≤ 1048576; omega
    by_cases s2 : (x2.length : Int) ≤ 1048576
    · have s2' : spI.sz x2 ≤ 1048576 := by show x2.length ≤ 1048576; omega
      go_enter Try.func8, Try.ntmps8
      go_wp2_with (fail)
      refine (toI_ok (.slice A1 x1.length c1) x1 w (spI.rd_below RW1.out L) s1').mono ?_; rintro e w1 ⟨up1, Sp1, rfl, owp1, hSp1, hb⟩
      have Hp1 : Hid (∀ k, Sp1 k → w.heap.size ≤ k) := Lib.hid fun k g => by have := hSp1 k g; have := L.size; omega
      replace L := bstep L L.size hb
      clear hb hSp1
      have Op1 := Lib.hid owp1
      clear owp1
      go_wp2_with (fail)
      refine (toI_ok (.slice A2 x2.length c2) x2 w1 (spI.rd_below RW2.out L) s2').mono ?_; rintro e w2 ⟨up2, Sp2, rfl, owp2, hSp2, hb⟩
      have Dp1_p2 : Hid (∀ k, Sp1 k → ¬ Sp2 k) := Lib.hid fun k g1 g2 => by have := spI.own_lt Op1.out g1; have := hSp2 k g2; omega
      have Hp2 : Hid (∀ k, Sp2 k → w.heap.size ≤ k) := Lib.hid fun k g => by have := hSp2 k g; have := L.size; omega
      replace Op1 := Lib.hid (spI.own_below Op1.out hb)
      replace L := bstep L L.size hb
      clear hb hSp2
      have Op2 := Lib.hid owp2
      clear owp2
      go_wp2_with (fail)
      refine (sMultiplyWords_ok x0 up1 x1 up2 x2 w2 (spI.own_rd Op1.out) (spI.own_rd Op2.out) s1' s2').mono ?_; rintro e w3 ⟨uw0, Sw0, rfl, oww0, hSw0, hcnt, hb⟩
      clear hcnt
      have Dp1_w0 : Hid (∀ k, Sp1 k → ¬ Sw0 k) := Lib.hid fun k g1 g2 => by have := spI.own_lt Op1.out g1; have := hSw0 k g2; omega
      have Dp2_w0 : Hid (∀ k, Sp2 k → ¬ Sw0 k) := Lib.hid fun k g1 g2 => by have := spI.own_lt Op2.out g1; have := hSw0 k g2; omega
      have Hw0 : Hid (∀ k, Sw0 k → w.heap.size ≤ k) := Lib.hid fun k g => by have := hSw0 k g; have := L.size; omega
      replace Op1 := Lib.hid (spI.own_below Op1.out hb)
      replace Op2 := Lib.hid (spI.own_below Op2.out hb)
      replace L := bstep L L.size hb
      clear hb hSw0
      have Ow0 := Lib.hid oww0
      clear oww0
      go_wp2_with (fail)
      refine (toI_ok (.slice A1 x1.length c1) x1 w3 (spI.rd_below RW1.out L) s1').mono ?_; rintro e w4 ⟨uq1, Sq1, rfl, owq1, hSq1, hb⟩
      have Dw0_q1 : Hid (∀ k, Sw0 k → ¬ Sq1 k) := Lib.hid fun k g1 g2 => by have := spI.own_lt Ow0.out g1; have := hSq1 k g2; omega
      have Hq1 : Hid (∀ k, Sq1 k → w.heap.size ≤ k) := Lib.hid fun k g => by have := hSq1 k g; have := L.size; omega
      replace Ow0 := Lib.hid (spI.own_below Ow0.out hb)
      replace L := bstep L L.size hb
      clear hb hSq1
      have Oq1 := Lib.hid owq1
      clear owq1
      go_wp2_with (fail)
      refine (toI_ok (.slice A2 x2.length c2) x2 w4 (spI.rd_below RW2.out L) s2').mono ?_; rintro e w5 ⟨uq2, Sq2, rfl, owq2, hSq2, hb⟩
      have Dw0_q2 : Hid (∀ k, Sw0 k → ¬ Sq2 k) := Lib.hid fun k g1 g2 => by have := spI.own_lt Ow0.out g1; have := hSq2 k g2; omega
      have Dq1_q2 : Hid (∀ k, Sq1 k → ¬ Sq2 k) := Lib.hid fun k g1 g2 => by have := spI.own_lt Oq1.out g1; have := hSq2 k g2; omega
      have Hq2 : Hid (∀ k, Sq2 k → w.heap.size ≤ k) := Lib.hid fun k g => by have := hSq2 k g; have := L.size; omega
      replace Ow0 := Lib.hid (spI.own_below Ow0.out hb)
      replace Oq1 := Lib.hid (spI.own_below Oq1.out hb)
      replace L := bstep L L.size hb
      clear hb hSq2
      have Oq2 := Lib.hid owq2
      clear owq2
      go_wp2_with (fail)
      refine (iMultiplyWords_ok x0 uq1 x1 uq2 x2 w5 (spI.own_rd Oq1.out) (spI.own_rd Oq2.out) s1' s2').mono ?_; rintro e w6 ⟨ug0, Sg0, rfl, owg0, hSg0, hcnt, hb⟩
      have Dw0_g0 : Hid (∀ k, Sw0 k → ¬ Sg0 k) := Lib.hid fun k g1 g2 => by have := spI.own_lt Ow0.out g1; have := hSg0 k g2; omega
      have Dq1_g0 : Hid (∀ k, Sq1 k → ¬ Sg0 k) := Lib.hid fun k g1 g2 => by have := spI.own_lt Oq1.out g1; have := hSg0 k g2; omega
      have Dq2_g0 : Hid (∀ k, Sq2 k → ¬ Sg0 k) := Lib.hid fun k g1 g2 => by have := spI.own_lt Oq2.out g1; have := hSg0 k g2; omega
      have Hg0 : Hid (∀ k, Sg0 k → w.heap.size ≤ k) := Lib.hid fun k g => by have := hSg0 k g; have := L.size; omega
      replace Ow0 := Lib.hid (spI.own_below Ow0.out hb)
      replace Oq1 := Lib.hid (spI.own_below Oq1.out hb)
      replace Oq2 := Lib.hid (spI.own_below Oq2.out hb)
      replace L := bstep L L.size hb
      clear hb hSg0
      have Og0 := Lib.hid owg0
      clear owg0
      go_wp2_with (fail)
      refine (eqI_ok ug0 uw0 (rMultiplyWords x0 x1 x2) w6 (spI.own_rd Og0.out) (spI.own_rd Ow0.out)).mono ?_; rintro e w7 ⟨rfl, hb⟩
      replace Ow0 := Lib.hid (spI.own_below Ow0.out hb)
      replace Oq1 := Lib.hid (spI.own_below Oq1.out hb)
      replace Oq2 := Lib.hid (spI.own_below Oq2.out hb)
      replace Og0 := Lib.hid (spI.own_below Og0.out hb)
      replace L := bstep L L.size hb
      clear hb
      go_wp2_with (fail)
      refine (toI_ok (.slice A1 x1.length c1) x1 w7 (spI.rd_below RW1.out L) s1').mono ?_; rintro e w8 ⟨ut1, St1, rfl, owt1, hSt1, hb⟩
      have Dw0_t1 : Hid (∀ k, Sw0 k → ¬ St1 k) := Lib.hid fun k g1 g2 => by have := spI.own_lt Ow0.out g1; have := hSt1 k g2; omega
      have Dq1_t1 : Hid (∀ k, Sq1 k → ¬ St1 k) := Lib.hid fun k g1 g2 => by have := spI.own_lt Oq1.out g1; have := hSt1 k g2; omega
      have Dq2_t1 : Hid (∀ k, Sq2 k → ¬ St1 k) := Lib.hid fun k g1 g2 => by have := spI.own_lt Oq2.out g1; have := hSt1 k g2; omega
      have Dg0_t1 : Hid (∀ k, Sg0 k → ¬ St1 k) := Lib.hid fun k g1 g2 => by have := spI.own_lt Og0.out g1; have := hSt1 k g2; omega
      have Ht1 : Hid (∀ k, St1 k → w.heap.size ≤ k) := Lib.hid fun k g => by have := hSt1 k g; have := L.size; omega
      replace Ow0 := Lib.hid (spI.own_below Ow0.out hb)
      replace Oq1 := Lib.hid (spI.own_below Oq1.out hb)
      replace Oq2 := Lib.hid (spI.own_below Oq2.out hb)
      replace Og0 := Lib.hid (spI.own_below Og0.out hb)
      replace L := bstep L L.size hb
      clear hb hSt1
      have Ot1 := Lib.hid owt1
      clear owt1
      go_wp2_with (fail)
      refine (eqI_ok uq1 ut1 x1 w8 (spI.own_rd Oq1.out) (spI.own_rd Ot1.out)).mono ?_; rintro e w9 ⟨rfl, hb⟩
      replace Ow0 := Lib.hid (spI.own_below Ow0.out hb)
      replace Oq1 := Lib.hid (spI.own_below Oq1.out hb)
      replace Oq2 := Lib.hid (spI.own_below Oq2.out hb)
      replace Og0 := Lib.hid (spI.own_below Og0.out hb)
      replace Ot1 := Lib.hid (spI.own_below Ot1.out hb)
      replace L := bstep L L.size hb
      clear hb
      go_wp2_with (fail)
      refine (toI_ok (.slice A2 x2.length c2) x2 w9 (spI.rd_below RW2.out L) s2').mono ?_; rintro e w10 ⟨ut2, St2, rfl, owt2, hSt2, hb⟩
      have Dw0_t2 : Hid (∀ k, Sw0 k → ¬ St2 k) := Lib.hid fun k g1 g2 => by have := spI.own_lt Ow0.out g1; have := hSt2 k g2; omega
      have Dq1_t2 : Hid (∀ k, Sq1 k → ¬ St2 k) := Lib.hid fun k g1 g2 => by have := spI.own_lt Oq1.out g1; have := hSt2 k g2; omega
      have Dq2_t2 : Hid (∀ k, Sq2 k → ¬ St2 k) := Lib.hid fun k g1 g2 => by have := spI.own_lt Oq2.out g1; have := hSt2 k g2; omega
      have Dg0_t2 : Hid (∀ k, Sg0 k → ¬ St2 k) := Lib.hid fun k g1 g2 => by have := spI.own_lt Og0.out g1; have := hSt2 k g2; omega
      have Ht2 : Hid (∀ k, St2 k → w.heap.size ≤ k) := Lib.hid fun k g => by have := hSt2 k g; have := L.size; omega
      replace Ow0 := Lib.hid (spI.own_below Ow0.out hb)
      replace Oq1 := Lib.hid (spI.own_below Oq1.out hb)
      replace Oq2 := Lib.hid (spI.own_below Oq2.out hb)
      replace Og0 := Lib.hid (spI.own_below Og0.out hb)
      replace L := bstep L L.size hb
      clear hb hSt2
      have Ot2 := Lib.hid owt2
      clear owt2
      go_wp2_with (fail)
      refine (eqI_ok uq2 ut2 x2 w10 (spI.own_rd Oq2.out) (spI.own_rd Ot2.out)).mono ?_; rintro e w11 ⟨rfl, hb⟩
      replace Ow0 := Lib.hid (spI.own_below Ow0.out hb)
      replace Oq1 := Lib.hid (spI.own_below Oq1.out hb)
      replace Oq2 := Lib.hid (spI.own_below Oq2.out hb)
      replace Og0 := Lib.hid (spI.own_below Og0.out hb)
      replace Ot2 := Lib.hid (spI.own_below Ot2.out hb)
      replace L := bstep L L.size hb
      clear hb
      have e1 := spI_cnt x1
      have e2 := spI_cnt x2
      go_wp2_with (fail)
      refine (markI_ok Sq1 uq1 x1 (1) w11 Oq1.out (by omega) (by omega)).mono ?_; rintro e w12 ⟨rfl, ow, ch⟩
      replace Ow0 := Lib.hid (spI.own_chg Ow0.out ch Dw0_q1.out)
      replace Oq2 := Lib.hid (spI.own_chg Oq2.out ch (fun k g1 g2 => Dq1_q2.out k g2 g1))
      replace Og0 := Lib.hid (spI.own_chg Og0.out ch (fun k g1 g2 => Dq1_g0.out k g2 g1))
      replace L := bstepS L L.size Hq1.out ch
      replace Oq1 := Lib.hid ow
      clear ow ch
      have kp1 : 0 ≤ 1 + (spI.cnt x1 : Int) := by omega
      go_wp2_with (fail)
      refine (markI_ok Sq2 uq2 x2 (1 + (spI.cnt x1 : Int)) w12 Oq2.out (by omega) (by omega)).mono ?_; rintro e w13 ⟨rfl, ow, ch⟩
      replace Ow0 := Lib.hid (spI.own_chg Ow0.out ch Dw0_q2.out)
      replace Oq1 := Lib.hid (spI.own_chg Oq1.out ch Dq1_q2.out)
      replace Og0 := Lib.hid (spI.own_chg Og0.out ch (fun k g1 g2 => Dq2_g0.out k g2 g1))
      replace L := bstepS L L.size Hq2.out ch
      replace Oq2 := Lib.hid ow
      clear ow ch
      have kp2 : 0 ≤ 1 + (spI.cnt x1 : Int) + (spI.cnt x2 : Int) := by omega
      go_wp2_with (fail)
      refine (eqI_ok ug0 uw0 (rMultiplyWords x0 x1 x2) w13 (spI.own_rd Og0.out) (spI.own_rd Ow0.out)).mono ?_; rintro e w14 ⟨rfl, hb⟩
      replace Ow0 := Lib.hid (spI.own_below Ow0.out hb)
      replace Oq1 := Lib.hid (spI.own_below Oq1.out hb)
      replace Oq2 := Lib.hid (spI.own_below Oq2.out hb)
      replace Og0 := Lib.hid (spI.own_below Og0.out hb)
      replace L := bstep L L.size hb
      clear hb
      go_wp2_with (fail)
      refine (markI_ok Sg0 ug0 (rMultiplyWords x0 x1 x2) (1) w14 Og0.out (by omega) (by omega)).mono ?_; rintro e w15 ⟨rfl, ow, ch⟩
      replace Ow0 := Lib.hid (spI.own_chg Ow0.out ch Dw0_g0.out)
      replace L := bstepS L L.size Hg0.out ch
      replace Og0 := Lib.hid ow
      clear ow ch
      have km : 0 ≤ 1 + (spI.cnt (rMultiplyWords x0 x1 x2) : Int) := by omega
      go_wp2_with (fail)
      refine (heldI_ok ug0 (rMultiplyWords x0 x1 x2) 1 w15 (spI.own_rd Og0.out) (by omega) (by omega)).mono ?_; rintro e w16 ⟨rfl, hb⟩
      replace Ow0 := Lib.hid (spI.own_below Ow0.out hb)
      replace Og0 := Lib.hid (spI.own_below Og0.out hb)
      replace L := bstep L L.size hb
      clear hb
      go_wp2_with (fail)
      refine (toI_ok (.slice A1 x1.length c1) x1 w16 (spI.rd_below RW1.out L) s1').mono ?_; rintro e w17 ⟨ur1, Sr1, rfl, owr1, hSr1, hb⟩
      have Dw0_r1 : Hid (∀ k, Sw0 k → ¬ Sr1 k) := Lib.hid fun k g1 g2 => by have := spI.own_lt Ow0.out g1; have := hSr1 k g2; omega
      have Dg0_r1 : Hid (∀ k, Sg0 k → ¬ Sr1 k) := Lib.hid fun k g1 g2 => by have := spI.own_lt Og0.out g1; have := hSr1 k g2; omega
      have Hr1 : Hid (∀ k, Sr1 k → w.heap.size ≤ k) := Lib.hid fun k g => by have := hSr1 k g; have := L.size; omega
      replace Ow0 := Lib.hid (spI.own_below Ow0.out hb)
      replace Og0 := Lib.hid (spI.own_below Og0.out hb)
      replace L := bstep L L.size hb
      clear hb hSr1
      have Or1 := Lib.hid owr1
      clear owr1
      go_wp2_with (fail)
      refine (toI_ok (.slice A2 x2.length c2) x2 w17 (spI.rd_below RW2.out L) s2').mono ?_; rintro e w18 ⟨ur2, Sr2, rfl, owr2, hSr2, hb⟩
      have Dw0_r2 : Hid (∀ k, Sw0 k → ¬ Sr2 k) := Lib.hid fun k g1 g2 => by have := spI.own_lt Ow0.out g1; have := hSr2 k g2; omega
      have Dg0_r2 : Hid (∀ k, Sg0 k → ¬ Sr2 k) := Lib.hid fun k g1 g2 => by have := spI.own_lt Og0.out g1; have := hSr2 k g2; omega
      have Dr1_r2 : Hid (∀ k, Sr1 k → ¬ Sr2 k) := Lib.hid fun k g1 g2 => by have := spI.own_lt Or1.out g1; have := hSr2 k g2; omega
      have Hr2 : Hid (∀ k, Sr2 k → w.heap.size ≤ k) := Lib.hid fun k g => by have := hSr2 k g; have := L.size; omega
      replace Ow0 := Lib.hid (spI.own_below Ow0.out hb)
      replace Og0 := Lib.hid (spI.own_below Og0.out hb)
      replace Or1 := Lib.hid (spI.own_below Or1.out hb)
      replace L := bstep L L.size hb
      clear hb hSr2
      have Or2 := Lib.hid owr2
      clear owr2
      go_wp2_with (fail)
      refine (iMultiplyWords_ok x0 ur1 x1 ur2 x2 w18 (spI.own_rd Or1.out) (spI.own_rd Or2.out) s1' s2').mono ?_; rintro e w19 ⟨uh0, Sh0, rfl, owh0, hSh0, hcnt, hb⟩
      clear hcnt
      have Dw0_h0 : Hid (∀ k, Sw0 k → ¬ Sh0 k) := Lib.hid fun k g1 g2 => by have := spI.own_lt Ow0.out g1; have := hSh0 k g2; omega
      have Dg0_h0 : Hid (∀ k, Sg0 k → ¬ Sh0 k) := Lib.hid fun k g1 g2 => by have := spI.own_lt Og0.out g1; have := hSh0 k g2; omega
      have Dr1_h0 : Hid (∀ k, Sr1 k → ¬ Sh0 k) := Lib.hid fun k g1 g2 => by have := spI.own_lt Or1.out g1; have := hSh0 k g2; omega
      have Dr2_h0 : Hid (∀ k, Sr2 k → ¬ Sh0 k) := Lib.hid fun k g1 g2 => by have := spI.own_lt Or2.out g1; have := hSh0 k g2; omega
      have Hh0 : Hid (∀ k, Sh0 k → w.heap.size ≤ k) := Lib.hid fun k g => by have := hSh0 k g; have := L.size; omega
      replace Ow0 := Lib.hid (spI.own_below Ow0.out hb)
      replace Og0 := Lib.hid (spI.own_below Og0.out hb)
      replace Or1 := Lib.hid (spI.own_below Or1.out hb)
      replace Or2 := Lib.hid (spI.own_below Or2.out hb)
      replace L := bstep L L.size hb
      clear hb hSh0
      have Oh0 := Lib.hid owh0
      clear owh0
      go_wp2_with (fail)
      refine (eqI_ok uh0 uw0 (rMultiplyWords x0 x1 x2) w19 (spI.own_rd Oh0.out) (spI.own_rd Ow0.out)).mono ?_; rintro e w20 ⟨rfl, hb⟩
      replace Ow0 := Lib.hid (spI.own_below Ow0.out hb)
      replace Og0 := Lib.hid (spI.own_below Og0.out hb)
      replace Oh0 := Lib.hid (spI.own_below Oh0.out hb)
      replace L := bstep L L.size hb
      clear hb
      go_wp2_with (fail)
      refine (heldI_ok ug0 (rMultiplyWords x0 x1 x2) 1 w20 (spI.own_rd Og0.out) (by omega) (by omega)).mono ?_; rintro e w21 ⟨rfl, hb⟩
      replace Ow0 := Lib.hid (spI.own_below Ow0.out hb)
      replace Og0 := Lib.hid (spI.own_below Og0.out hb)
      replace Oh0 := Lib.hid (spI.own_below Oh0.out hb)
      replace L := bstep L L.size hb
      clear hb
      go_wp2_with (fail)
      go_ret
      exact ⟨rfl, L⟩
    · have s2'' : 1048576 < (x2.length : Int) := by omega
      go_enter Try.func8, Try.ntmps8
      go_wp2_with (fail)
      go_ret
      exact ⟨rfl, L⟩
  · have s1'' : 1048576 < (x1.length : Int) := by omega
    go_enter Try.func8, Try.ntmps8
    go_wp2_with (fail)
    go_ret
    exact ⟨rfl, L⟩
theorem fnExactMultiplyWords_walk (a0 : Int) (A1 : Option Addr) (c1 : Nat) (xs1 : List Int) (A2 : Option Addr) (c2 : Nat) (xs2 : List Int) (w : World) (w0 : (Lit.int .i64 a0).wf = true) (w1 : RdI w A1 xs1 ∧ xs1.length ≤ maxLen) (w2 : RdI w A2 xs2 ∧ xs2.length ≤ maxLen) :
    Calls Try.prog 8 #[.int .i64 a0, .slice A1 xs1.length c1, .slice A2 xs2.length c2] w fun e w' => e = .returned (.bool true) ∧ Below w.heap.size w w' :=
  fnExactMultiplyWords_run a0 (.slice A1 xs1.length c1) xs1 (.slice A2 xs2.length c2) xs2 w ⟨A1, c1, rfl, w1.2, w1.1⟩ ⟨A2, c2, rfl, w2.2, w2.1⟩
end Go.Proofs.Ythakglpgcpkpaaa
