/- The walk of the exact law of WordText. -/
import Derived.Test.YthakglpgcpkpaaaL10U
import Derived.Deep.RegionHeld3
import Derived.Deep.DeepCutAuto
namespace Go.Proofs.Ythakglpgcpkpaaa
open Go.RowKit
set_option linter.unusedVariables false
set_option linter.unusedSimpArgs false

set_option maxRecDepth 100000 in
set_option maxHeartbeats 4000000 in
theorem fnExactWordText_run (x0 : Int) (v1 : Value) (x1 : List Int) (w : World) (h1 : spI.rd w v1 x1) :
    Calls Try.prog 13 #[.int .i64 x0, v1] w fun e w' => e = .returned (.bool true) ∧ Below w.heap.size w w' := by
  have h1b := h1
  obtain ⟨A1, c1, rfl, m1, -⟩ := h1b
  have m1' := m1
  unfold maxLen at m1'
  have L : Below w.heap.size w w := by exact Below.refl _ _
  have RW1 := Lib.hid h1
  clear h1
  by_cases s1 : (x1.length : Int) ≤ 1048576
  · have s1' : spI.sz x1 ≤ 1048576 := by show x1.length ≤ 1048576; omega
    go_enter Try.func13, Try.ntmps13
    go_wp2_with (fail)
    refine (toI_ok (.slice A1 x1.length c1) x1 w (spI.rd_below RW1.out L) s1').mono ?_; rintro e w1 ⟨up1, Sp1, rfl, owp1, hSp1, hb⟩
    have Hp1 : Hid (∀ k, Sp1 k → w.heap.size ≤ k) := Lib.hid fun k g => by have := hSp1 k g; have := L.size; omega
    replace L := bstep L L.size hb
    clear hb hSp1
    have Op1 := Lib.hid owp1
    clear owp1
    go_wp2_with (fail)
    refine (sWordText_ok x0 up1 x1 w1 (spI.own_rd Op1.out) s1').mono ?_; rintro e w2 ⟨rfl, hb⟩
    replace Op1 := Lib.hid (spI.own_below Op1.out hb)
    replace L := bstep L L.size hb
    clear hb
    go_wp2_with (fail)
    refine (toI_ok (.slice A1 x1.length c1) x1 w2 (spI.rd_below RW1.out L) s1').mono ?_; rintro e w3 ⟨uq1, Sq1, rfl, owq1, hSq1, hb⟩
    have Hq1 : Hid (∀ k, Sq1 k → w.heap.size ≤ k) := Lib.hid fun k g => by have := hSq1 k g; have := L.size; omega
    replace L := bstep L L.size hb
    clear hb hSq1
    have Oq1 := Lib.hid owq1
    clear owq1
    go_wp2_with (fail)
    refine (iWordText_ok x0 uq1 x1 w3 (spI.own_rd Oq1.out) s1').mono ?_; rintro e w4 ⟨rfl, hb⟩
    replace Oq1 := Lib.hid (spI.own_below Oq1.out hb)
    replace L := bstep L L.size hb
    clear hb
    go_wp2_with (fail)
    refine (toI_ok (.slice A1 x1.length c1) x1 w4 (spI.rd_below RW1.out L) s1').mono ?_; rintro e w5 ⟨ut1, St1, rfl, owt1, hSt1, hb⟩
    have Dq1_t1 : Hid (∀ k, Sq1 k → ¬ St1 k) := Lib.hid fun k g1 g2 => by have := spI.own_lt Oq1.out g1; have := hSt1 k g2; omega
    have Ht1 : Hid (∀ k, St1 k → w.heap.size ≤ k) := Lib.hid fun k g => by have := hSt1 k g; have := L.size; omega
    replace Oq1 := Lib.hid (spI.own_below Oq1.out hb)
    replace L := bstep L L.size hb
    clear hb hSt1
    have Ot1 := Lib.hid owt1
    clear owt1
    go_wp2_with (fail)
    refine (eqI_ok uq1 ut1 x1 w5 (spI.own_rd Oq1.out) (spI.own_rd Ot1.out)).mono ?_; rintro e w6 ⟨rfl, hb⟩
    replace Oq1 := Lib.hid (spI.own_below Oq1.out hb)
    replace Ot1 := Lib.hid (spI.own_below Ot1.out hb)
    replace L := bstep L L.size hb
    clear hb
    go_wp2_with (fail)
    go_ret
    exact ⟨rfl, L⟩
  · have s1'' : 1048576 < (x1.length : Int) := by omega
    go_enter Try.func13, Try.ntmps13
    go_wp2_with (fail)
    go_ret
    exact ⟨rfl, L⟩
theorem fnExactWordText_walk (a0 : Int) (A1 : Option Addr) (c1 : Nat) (xs1 : List Int) (w : World) (w0 : (Lit.int .i64 a0).wf = true) (w1 : RdI w A1 xs1 ∧ xs1.length ≤ maxLen) :
    Calls Try.prog 13 #[.int .i64 a0, .slice A1 xs1.length c1] w fun e w' => e = .returned (.bool true) ∧ Below w.heap.size w w' :=
  fnExactWordText_run a0 (.slice A1 xs1.length c1) xs1 w ⟨A1, c1, rfl, w1.2, w1.1⟩
end Go.Proofs.Ythakglpgcpkpaaa
