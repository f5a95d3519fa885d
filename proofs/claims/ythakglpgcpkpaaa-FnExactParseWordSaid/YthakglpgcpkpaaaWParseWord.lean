/- The walk of the exact law of ParseWord. -/
import Derived.Test.YthakglpgcpkpaaaL10R
import Derived.Deep.RegionHeld3
import Derived.Deep.DeepCutAuto
namespace Go.Proofs.Ythakglpgcpkpaaa
open Go.RowKit
set_option linter.unusedVariables false
set_option linter.unusedSimpArgs false

set_option maxRecDepth 100000 in
set_option maxHeartbeats 4000000 in
theorem fnExactParseWord_run (x0 : Int) (x1 : ByteArray) (w : World)  :
    Calls Try.prog 14 #[.int .i64 x0, .string x1] w fun e w' => e = .returned (.bool true) ∧ Below w.heap.size w w' := by
  have L : Below w.heap.size w w := by exact Below.refl _ _
  skip
  by_cases s1 : (x1.size : Int) ≤ 1048576
  · have s1' : x1.size ≤ 1048576 := by omega
    go_enter Try.func14, Try.ntmps14
    go_wp2_with (fail)
    refine (sParseWord_ok x0 x1 w  s1').mono ?_; rintro e w1 ⟨uw0, Sw0, rfl, oww0, hSw0, hcnt, hb⟩
    clear hcnt
    have Hw0 : Hid (∀ k, Sw0 k → w.heap.size ≤ k) := Lib.hid fun k g => by have := hSw0 k g; have := L.size; omega
    replace L := bstep L L.size hb
    clear hb hSw0
    have Ow0 := Lib.hid oww0
    clear oww0
    go_wp2_with (fail)
    refine (iParseWord_ok x0 x1 w1  s1').mono ?_; rintro e w2 ⟨ug0, Sg0, rfl, owg0, hSg0, hcnt, hb⟩
    have Dw0_g0 : Hid (∀ k, Sw0 k → ¬ Sg0 k) := Lib.hid fun k g1 g2 => by have := spI.own_lt Ow0.out g1; have := hSg0 k g2; omega
    have Hg0 : Hid (∀ k, Sg0 k → w.heap.size ≤ k) := Lib.hid fun k g => by have := hSg0 k g; have := L.size; omega
    replace Ow0 := Lib.hid (spI.own_below Ow0.out hb)
    replace L := bstep L L.size hb
    clear hb hSg0
    have Og0 := Lib.hid owg0
    clear owg0
    go_wp2_with (fail)
    refine (eqI_ok ug0 uw0 (rParseWord x0 (bytesOf x1)) w2 (spI.own_rd Og0.out) (spI.own_rd Ow0.out)).mono ?_; rintro e w3 ⟨rfl, hb⟩
    replace Ow0 := Lib.hid (spI.own_below Ow0.out hb)
    replace Og0 := Lib.hid (spI.own_below Og0.out hb)
    replace L := bstep L L.size hb
    clear hb
    go_wp2_with (fail)
    refine (markI_ok Sg0 ug0 (rParseWord x0 (bytesOf x1)) (1) w3 Og0.out (by omega) (by omega)).mono ?_; rintro e w4 ⟨rfl, ow, ch⟩
    replace Ow0 := Lib.hid (spI.own_chg Ow0.out ch Dw0_g0.out)
    replace L := bstepS L L.size Hg0.out ch
    replace Og0 := Lib.hid ow
    clear ow ch
    have km : 0 ≤ 1 + (spI.cnt (rParseWord x0 (bytesOf x1)) : Int) := by omega
    go_wp2_with (fail)
    refine (heldI_ok ug0 (rParseWord x0 (bytesOf x1)) 1 w4 (spI.own_rd Og0.out) (by omega) (by omega)).mono ?_; rintro e w5 ⟨rfl, hb⟩
    replace Ow0 := Lib.hid (spI.own_below Ow0.out hb)
    replace Og0 := Lib.hid (spI.own_below Og0.out hb)
    replace L := bstep L L.size hb
    clear hb
    go_wp2_with (fail)
    refine (iParseWord_ok x0 x1 w5  s1').mono ?_; rintro e w6 ⟨uh0, Sh0, rfl, owh0, hSh0, hcnt, hb⟩
    clear hcnt
    have Dw0_h0 : Hid (∀ k, Sw0 k → ¬ Sh0 k) := Lib.hid fun k g1 g2 => by have := spI.own_lt Ow0.out g1; have := hSh0 k g2; omega
    have Dg0_h0 : Hid (∀ k, Sg0 k → ¬ Sh0 k) := Lib.hid fun k g1 g2 => by have := spI.own_lt Og0.out g1; have := hSh0 k g2; omega
    have Hh0 : Hid (∀ k, Sh0 k → w.heap.size ≤ k) := Lib.hid fun k g => by have := hSh0 k g; have := L.size; omega
    replace Ow0 := Lib.hid (spI.own_below Ow0.out hb)
    replace Og0 := Lib.hid (spI.own_below Og0.out hb)
    replace L := bstep L L.size hb
    clear hb hSh0
    have Oh0 := Lib.hid owh0
    clear owh0
    go_wp2_with (fail)
    refine (eqI_ok uh0 uw0 (rParseWord x0 (bytesOf x1)) w6 (spI.own_rd Oh0.out) (spI.own_rd Ow0.out)).mono ?_; rintro e w7 ⟨rfl, hb⟩
    replace Ow0 := Lib.hid (spI.own_below Ow0.out hb)
    replace Og0 := Lib.hid (spI.own_below Og0.out hb)
    replace Oh0 := Lib.hid (spI.own_below Oh0.out hb)
    replace L := bstep L L.size hb
    clear hb
    go_wp2_with (fail)
    refine (heldI_ok ug0 (rParseWord x0 (bytesOf x1)) 1 w7 (spI.own_rd Og0.out) (by omega) (by omega)).mono ?_; rintro e w8 ⟨rfl, hb⟩
    replace Ow0 := Lib.hid (spI.own_below Ow0.out hb)
    replace Og0 := Lib.hid (spI.own_below Og0.out hb)
    replace Oh0 := Lib.hid (spI.own_below Oh0.out hb)
    replace L := bstep L L.size hb
    clear hb
    go_wp2_with (fail)
    go_ret
    exact ⟨rfl, L⟩
  · have s1'' : 1048576 < (x1.size : Int) := by omega
    go_enter Try.func14, Try.ntmps14
    go_wp2_with (fail)
    go_ret
    exact ⟨rfl, L⟩
theorem fnExactParseWord_walk (a0 : Int) (a1 : ByteArray) (w : World) (w0 : (Lit.int .i64 a0).wf = true) (w1 : a1.size ≤ maxLen) :
    Calls Try.prog 14 #[.int .i64 a0, .string a1] w fun e w' => e = .returned (.bool true) ∧ Below w.heap.size w w' :=
  fnExactParseWord_run a0 a1 w 
end Go.Proofs.Ythakglpgcpkpaaa
