/- The walk of the exact law of WordPower. -/
import Derived.Test.YthakglpgcpkpaaaL10P
import Derived.Deep.RegionHeld3
import Derived.Deep.DeepCutAuto
namespace Go.Proofs.Ythakglpgcpkpaaa
open Go.RowKit
set_option linter.unusedVariables false
set_option linter.unusedSimpArgs false

set_option maxRecDepth 100000 in
set_option maxHeartbeats 4000000 in
theorem fnExactWordPower_run (x0 : Int) (v1 : Value) (x1 : List Int) (x2 : Int) (w : World) (h1 : spI.rd w v1 x1) :
    Calls Try.prog 9 #[.int .i64 x0, v1, .int .i64 x2] w fun e w' => e = .returned (.bool true) ∧ Below w.heap.size w w' := by
  have h1b := h1
  obtain ⟨A1, c1, rfl, m1, -⟩ := h1b
  have m1' := m1
  unfold maxLen at m1'
  have L : Below w.heap.size w w := by exact Below.refl _ _
  have RW1 := Lib.hid h1
  clear h1
  by_cases s1 : (x1.length : Int) ≤ 1048576
  · have s1' : spI.sz x1 ≤ 1048576 := by show x1.length ≤ 1048576; omega
    go_enter Try.func9, Try.ntmps9
    go_wp2_with (fail)
    refine (toI_ok (.slice A1 x1.length c1) x1 w (spI.rd_below RW1.out L) s1').mono ?_; rintro e w1 ⟨up1, Sp1, rfl, owp1, hSp1, hb⟩
    have Hp1 : Hid (∀ k, Sp1 k → w.heap.size ≤ k) := Lib.hid fun k g => by have := hSp1 k g; have := L.size; omega
    replace L := bstep L L.size hb
    clear hb hSp1
    have Op1 := Lib.hid owp1
    clear owp1
    go_wp2_with (fail)
    refine (sWordPower_ok x0 up1 x1 x2 w1 (spI.own_rd Op1.out) s1').mono ?_; rintro e w2 ⟨uw0, Sw0, rfl, oww0, hSw0, hcnt, hb⟩
    clear hcnt
    have Dp1_w0 : Hid (∀ k, Sp1 k → ¬ Sw0 k) := Lib.hid fun k g1 g2 => by have := spI.own_lt Op1.out g1; have := hSw0 k g2; omega
    have Hw0 : Hid (∀ k, Sw0 k → w.heap.size ≤ k) := Lib.hid fun k g => by have := hSw0 k g; have := L.size; omega
    replace Op1 := Lib.hid (spI.own_below Op1.out hb)
    replace L := bstep L L.size hb
    clear hb hSw0
    have Ow0 := Lib.hid oww0
    clear oww0
    go_wp2_with (fail)
    refine (toI_ok (.slice A1 x1.length c1) x1 w2 (spI.rd_below RW1.out L) s1').mono ?_; rintro e w3 ⟨uq1, Sq1, rfl, owq1, hSq1, hb⟩
    have Dw0_q1 : Hid (∀ k, Sw0 k → ¬ Sq1 k) := Lib.hid fun k g1 g2 => by have := spI.own_lt Ow0.out g1; have := hSq1 k g2; omega
    have Hq1 : Hid (∀ k, Sq1 k → w.heap.size ≤ k) := Lib.hid fun k g => by have := hSq1 k g; have := L.size; omega
    replace Ow0 := Lib.hid (spI.own_below Ow0.out hb)
    replace L := bstep L L.size hb
    clear hb hSq1
    have Oq1 := Lib.hid owq1
    clear owq1
    go_wp2_with (fail)
    refine (iWordPower_ok x0 uq1 x1 x2 w3 (spI.own_rd Oq1.out) s1').mono ?_; rintro e w4 ⟨ug0, Sg0, rfl, owg0, hSg0, hcnt, hb⟩
    have Dw0_g0 : Hid (∀ k, Sw0 k → ¬ Sg0 k) := Lib.hid fun k g1 g2 => by have := spI.own_lt Ow0.out g1; have := hSg0 k g2; omega
    have Dq1_g0 : Hid (∀ k, Sq1 k → ¬ Sg0 k) := Lib.hid fun k g1 g2 => by have := spI.own_lt Oq1.out g1; have := hSg0 k g2; omega
    have Hg0 : Hid (∀ k, Sg0 k → w.heap.size ≤ k) := Lib.hid fun k g => by have := hSg0 k g; have := L.size; omega
    replace Ow0 := Lib.hid (spI.own_below Ow0.out hb)
    replace Oq1 := Lib.hid (spI.own_below Oq1.out hb)
    replace L := bstep L L.size hb
    clear hb hSg0
    have Og0 := Lib.hid owg0
    clear owg0
    go_wp2_with (fail)
    refine (eqI_ok ug0 uw0 (rWordPower x0 x1 x2) w4 (spI.own_rd Og0.out) (spI.own_rd Ow0.out)).mono ?_; rintro e w5 ⟨rfl, hb⟩
    replace Ow0 := Lib.hid (spI.own_below Ow0.out hb)
    replace Oq1 := Lib.hid (spI.own_below Oq1.out hb)
    replace Og0 := Lib.hid (spI.own_below Og0.out hb)
    replace L := bstep L L.size hb
    clear hb
    go_wp2_with (fail)
    refine (toI_ok (.slice A1 x1.length c1) x1 w5 (spI.rd_below RW1.out L) s1').mono ?_; rintro e w6 ⟨ut1, St1, rfl, owt1, hSt1, hb⟩
    have Dw0_t1 : Hid (∀ k, Sw0 k → ¬ St1 k) := Lib.hid fun k g1 g2 => by have := spI.own_lt Ow0.out g1; have := hSt1 k g2; omega
    have Dq1_t1 : Hid (∀ k, Sq1 k → ¬ St1 k) := Lib.hid fun k g1 g2 => by have := spI.own_lt Oq1.out g1; have := hSt1 k g2; omega
    have Dg0_t1 : Hid (∀ k, Sg0 k → ¬ St1 k) := Lib.hid fun k g1 g2 => by have := spI.own_lt Og0.out g1; have := hSt1 k g2; omega
    have Ht1 : Hid (∀ k, St1 k → w.heap.size ≤ k) := Lib.hid fun k g => by have := hSt1 k g; have := L.size; omega
    replace Ow0 := Lib.hid (spI.own_below Ow0.out hb)
    replace Oq1 := Lib.hid (spI.own_below Oq1.out hb)
    replace Og0 := Lib.hid (spI.own_below Og0.out hb)
    replace L := bstep L L.size hb
    clear hb hSt1
    have Ot1 := Lib.hid owt1
    clear owt1
    go_wp2_with (fail)
    refine (eqI_ok uq1 ut1 x1 w6 (spI.own_rd Oq1.out) (spI.own_rd Ot1.out)).mono ?_; rintro e w7 ⟨rfl, hb⟩
    replace Ow0 := Lib.hid (spI.own_below Ow0.out hb)
    replace Oq1 := Lib.hid (spI.own_below Oq1.out hb)
    replace Og0 := Lib.hid (spI.own_below Og0.out hb)
    replace Ot1 := Lib.hid (spI.own_below Ot1.out hb)
    replace L := bstep L L.size hb
    clear hb
    have e1 := spI_cnt x1
    go_wp2_with (fail)
    refine (markI_ok Sq1 uq1 x1 (1) w7 Oq1.out (by omega) (by omega)).mono ?_; rintro e w8 ⟨rfl, ow, ch⟩
    replace Ow0 := Lib.hid (spI.own_chg Ow0.out ch Dw0_q1.out)
    replace Og0 := Lib.hid (spI.own_chg Og0.out ch (fun k g1 g2 => Dq1_g0.out k g2 g1))
    replace L := bstepS L L.size Hq1.out ch
    replace Oq1 := Lib.hid ow
    clear ow ch
    have kp1 : 0 ≤ 1 + (spI.cnt x1 : Int) := by omega
    go_wp2_with (fail)
    refine (eqI_ok ug0 uw0 (rWordPower x0 x1 x2) w8 (spI.own_rd Og0.out) (spI.own_rd Ow0.out)).mono ?_; rintro e w9 ⟨rfl, hb⟩
    replace Ow0 := Lib.hid (spI.own_below Ow0.out hb)
    replace Oq1 := Lib.hid (spI.own_below Oq1.out hb)
    replace Og0 := Lib.hid (spI.own_below Og0.out hb)
    replace L := bstep L L.size hb
    clear hb
    go_wp2_with (fail)
    refine (markI_ok Sg0 ug0 (rWordPower x0 x1 x2) (1) w9 Og0.out (by omega) (by omega)).mono ?_; rintro e w10 ⟨rfl, ow, ch⟩
    replace Ow0 := Lib.hid (spI.own_chg Ow0.out ch Dw0_g0.out)
    replace L := bstepS L L.size Hg0.out ch
    replace Og0 := Lib.hid ow
    clear ow ch
    have km : 0 ≤ 1 + (spI.cnt (rWordPower x0 x1 x2) : Int) := by omega
    go_wp2_with (fail)
    refine (heldI_ok ug0 (rWordPower x0 x1 x2) 1 w10 (spI.own_rd Og0.out) (by omega) (by omega)).mono ?_; rintro e w11 ⟨rfl, hb⟩
    replace Ow0 := Lib.hid (spI.own_below Ow0.out hb)
    replace Og0 := Lib.hid (spI.own_below Og0.out hb)
    replace L := bstep L L.size hb
    clear hb
    go_wp2_with (fail)
    refine (toI_ok (.slice A1 x1.length c1) x1 w11 (spI.rd_below RW1.out L) s1').mono ?_; rintro e w12 ⟨ur1, Sr1, rfl, owr1, hSr1, hb⟩
    have Dw0_r1 : Hid (∀ k, Sw0 k → ¬ Sr1 k) := Lib.hid fun k g1 g2 => by have := spI.own_lt Ow0.out g1; have := hSr1 k g2; omega
    have Dg0_r1 : Hid (∀ k, Sg0 k → ¬ Sr1 k) := Lib.hid fun k g1 g2 => by have := spI.own_lt Og0.out g1; have := hSr1 k g2; omega
    have Hr1 : Hid (∀ k, Sr1 k → w.heap.size ≤ k) := Lib.hid fun k g => by have := hSr1 k g; have := L.size; omega
    replace Ow0 := Lib.hid (spI.own_below Ow0.out hb)
    replace Og0 := Lib.hid (spI.own_below Og0.out hb)
    replace L := bstep L L.size hb
    clear hb hSr1
    have Or1 := Lib.hid owr1
    clear owr1
    go_wp2_with (fail)
    refine (iWordPower_ok x0 ur1 x1 x2 w12 (spI.own_rd Or1.out) s1').mono ?_; rintro e w13 ⟨uh0, Sh0, rfl, owh0, hSh0, hcnt, hb⟩
    clear hcnt
    have Dw0_h0 : Hid (∀ k, Sw0 k → ¬ Sh0 k) := Lib.hid fun k g1 g2 => by have := spI.own_lt Ow0.out g1; have := hSh0 k g2; omega
    have Dg0_h0 : Hid (∀ k, Sg0 k → ¬ Sh0 k) := Lib.hid fun k g1 g2 => by have := spI.own_lt Og0.out g1; have := hSh0 k g2; omega
    have Dr1_h0 : Hid (∀ k, Sr1 k → ¬ Sh0 k) := Lib.hid fun k g1 g2 => by have := spI.own_lt Or1.out g1; have := hSh0 k g2; omega
    have Hh0 : Hid (∀ k, Sh0 k → w.heap.size ≤ k) := Lib.hid fun k g => by have := hSh0 k g; have := L.size; omega
    replace Ow0 := Lib.hid (spI.own_below Ow0.out hb)
    replace Og0 := Lib.hid (spI.own_below Og0.out hb)
    replace Or1 := Lib.hid (spI.own_below Or1.out hb)
    replace L := bstep L L.size hb
    clear hb hSh0
    have Oh0 := Lib.hid owh0
    clear owh0
    go_wp2_with (fail)
    refine (eqI_ok uh0 uw0 (rWordPower x0 x1 x2) w13 (spI.own_rd Oh0.out) (spI.own_rd Ow0.out)).mono ?_; rintro e w14 ⟨rfl, hb⟩
    replace Ow0 := Lib.hid (spI.own_below Ow0.out hb)
    replace Og0 := Lib.hid (spI.own_below Og0.out hb)
    replace Oh0 := Lib.hid (spI.own_below Oh0.out hb)
    replace L := bstep L L.size hb
    clear hb
    go_wp2_with (fail)
    refine (heldI_ok ug0 (rWordPower x0 x1 x2) 1 w14 (spI.own_rd Og0.out) (by omega) (by omega)).mono ?_; rintro e w15 ⟨rfl, hb⟩
    replace Ow0 := Lib.hid (spI.own_below Ow0.out hb)
    replace Og0 := Lib.hid (spI.own_below Og0.out hb)
    replace Oh0 := Lib.hid (spI.own_below Oh0.out hb)
    replace L := bstep L L.size hb
    clear hb
    go_wp2_with (fail)
    go_ret
    exact ⟨rfl, L⟩
  · have s1'' : 1048576 < (x1.length : Int) := by omega
    go_enter Try.func9, Try.ntmps9
    go_wp2_with (fail)
    go_ret
    exact ⟨rfl, L⟩
theorem fnExactWordPower_walk (a0 : Int) (A1 : Option Addr) (c1 : Nat) (xs1 : List Int) (a2 : Int) (w : World) (w0 : (Lit.int .i64 a0).wf = true) (w1 : RdI w A1 xs1 ∧ xs1.length ≤ maxLen) (w2 : (Lit.int .i64 a2).wf = true) :
    Calls Try.prog 9 #[.int .i64 a0, .slice A1 xs1.length c1, .int .i64 a2] w fun e w' => e = .returned (.bool true) ∧ Below w.heap.size w w' :=
  fnExactWordPower_run a0 (.slice A1 xs1.length c1) xs1 a2 w ⟨A1, c1, rfl, w1.2, w1.1⟩
end Go.Proofs.Ythakglpgcpkpaaa
