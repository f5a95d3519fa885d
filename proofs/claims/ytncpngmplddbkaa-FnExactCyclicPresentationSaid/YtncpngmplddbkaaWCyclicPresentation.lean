/- The walk of the exact law of CyclicPresentation. -/
import Derived.Test.YtncpngmplddbkaaL11T
import Derived.Test.YtncpngmplddbkaaOpP
import Derived.Deep.RegionHeld3
import Derived.Deep.DeepCutAuto
namespace Go.Proofs.Ytncpngmplddbkaa
open Go.RowKit
set_option linter.unusedVariables false
set_option linter.unusedSimpArgs false

set_option maxRecDepth 100000 in
set_option maxHeartbeats 4000000 in
theorem fnExactCyclicPresentation_run (x0 : Int) (w : World)  :
    Calls Try.prog 9 #[.int .i64 x0] w fun e w' => e = .returned (.bool true) ∧ Below w.heap.size w w' := by
  have L : Below w.heap.size w w := by exact Below.refl _ _
  skip
  go_enter Try.func9, Try.ntmps9
  go_wp2_with (fail)
  refine (sCyclicPresentation_ok x0 w  ).mono ?_; rintro e w1 ⟨uw0, Sw0, rfl, oww0, hSw0, hcnt, hb⟩
  clear hcnt
  have Hw0 : Hid (∀ k, Sw0 k → w.heap.size ≤ k) := Lib.hid fun k g => by have := hSw0 k g; have := L.size; omega
  replace L := bstep L L.size hb
  clear hb hSw0
  obtain ⟨Aw0_0, nw0_0, cw0_0, Aw0_1, nw0_1, cw0_1, Aw0_2, nw0_2, cw0_2, rfl, -, -, -⟩ := spPres_form (spPres.own_rd oww0)
  have Ow0 := Lib.hid oww0
  clear oww0
  have Bw0 := Blk.new w1 [.slice Aw0_0 nw0_0 cw0_0, .slice Aw0_1 nw0_1 cw0_1, .slice Aw0_2 nw0_2 cw0_2] 29
  have Nw0_w0 : ¬ Sw0 w1.heap.size := fun g => by have := spPres.own_lt Ow0.out g; omega
  have hbx : Below w1.heap.size w1 (w1.alloc (.cells [.slice Aw0_0 nw0_0 cw0_0, .slice Aw0_1 nw0_1 cw0_1, .slice Aw0_2 nw0_2 cw0_2].toArray 29)) := (Below.refl _ _).alloc (Nat.le_refl _) _
  replace Ow0 := Lib.hid (spPres.own_below Ow0.out hbx)
  replace L := bstep L L.size hbx
  clear hbx
  obtain ⟨bw0l, bw00, bw01, bw02⟩ := Bw0.c3
  go_wp2_with (fail)
  refine (iCyclicPresentation_ok x0 (w1.alloc (.cells [.slice Aw0_0 nw0_0 cw0_0, .slice Aw0_1 nw0_1 cw0_1, .slice Aw0_2 nw0_2 cw0_2].toArray 29))  ).mono ?_; rintro e w2 ⟨ug0, Sg0, rfl, owg0, hSg0, hcnt, hb⟩
  clear bw0l bw00 bw01 bw02
  have Dw0_g0 : Hid (∀ k, Sw0 k → ¬ Sg0 k) := Lib.hid fun k g1 g2 => by have := spPres.own_lt Ow0.out g1; have := hSg0 k g2; omega
  have Nw0_g0 : ¬ Sg0 w1.heap.size := fun g => by have := hSg0 _ g; have := Bw0.lt; omega
  have Hg0 : Hid (∀ k, Sg0 k → w.heap.size ≤ k) := Lib.hid fun k g => by have := hSg0 k g; have := L.size; omega
  replace Ow0 := Lib.hid (spPres.own_below Ow0.out hb)
  replace Bw0 := Bw0.below hb
  replace L := bstep L L.size hb
  clear hb hSg0
  obtain ⟨Ag0_0, ng0_0, cg0_0, Ag0_1, ng0_1, cg0_1, Ag0_2, ng0_2, cg0_2, rfl, -, -, -⟩ := spPres_form (spPres.own_rd owg0)
  have Og0 := Lib.hid owg0
  clear owg0
  have Bg0 := Blk.new w2 [.slice Ag0_0 ng0_0 cg0_0, .slice Ag0_1 ng0_1 cg0_1, .slice Ag0_2 ng0_2 cg0_2] 29
  have Ng0_w0 : ¬ Sw0 w2.heap.size := fun g => by have := spPres.own_lt Ow0.out g; omega
  have Ng0_g0 : ¬ Sg0 w2.heap.size := fun g => by have := spPres.own_lt Og0.out g; omega
  have hbx : Below w2.heap.size w2 (w2.alloc (.cells [.slice Ag0_0 ng0_0 cg0_0, .slice Ag0_1 ng0_1 cg0_1, .slice Ag0_2 ng0_2 cg0_2].toArray 29)) := (Below.refl _ _).alloc (Nat.le_refl _) _
  replace Ow0 := Lib.hid (spPres.own_below Ow0.out hbx)
  replace Og0 := Lib.hid (spPres.own_below Og0.out hbx)
  replace Bw0 := Bw0.below hbx
  replace L := bstep L L.size hbx
  clear hbx
  obtain ⟨bw0l, bw00, bw01, bw02⟩ := Bw0.c3
  obtain ⟨bg0l, bg00, bg01, bg02⟩ := Bg0.c3
  go_wp2_with (fail)
  refine (eqPres_ok (.agg #[.slice Ag0_0 ng0_0 cg0_0, .slice Ag0_1 ng0_1 cg0_1, .slice Ag0_2 ng0_2 cg0_2]) (.agg #[.slice Aw0_0 nw0_0 cw0_0, .slice Aw0_1 nw0_1 cw0_1, .slice Aw0_2 nw0_2 cw0_2]) (rCyclicPresentation x0) (w2.alloc (.cells [.slice Ag0_0 ng0_0 cg0_0, .slice Ag0_1 ng0_1 cg0_1, .slice Ag0_2 ng0_2 cg0_2].toArray 29)) (spPres.own_rd Og0.out) (spPres.own_rd Ow0.out)).mono ?_; rintro e w3 ⟨rfl, hb⟩
  clear bw0l bw00 bw01 bw02 bg0l bg00 bg01 bg02
  replace Ow0 := Lib.hid (spPres.own_below Ow0.out hb)
  replace Og0 := Lib.hid (spPres.own_below Og0.out hb)
  replace Bw0 := Bw0.below hb
  replace Bg0 := Bg0.below hb
  replace L := bstep L L.size hb
  clear hb
  obtain ⟨bw0l, bw00, bw01, bw02⟩ := Bw0.c3
  obtain ⟨bg0l, bg00, bg01, bg02⟩ := Bg0.c3
  go_wp2_with (fail)
  refine (markPres_ok Sg0 (.agg #[.slice Ag0_0 ng0_0 cg0_0, .slice Ag0_1 ng0_1 cg0_1, .slice Ag0_2 ng0_2 cg0_2]) (rCyclicPresentation x0) (1) w3 Og0.out (by omega) (by omega)).mono ?_; rintro e w4 ⟨rfl, ow, ch⟩
  clear bw0l bw00 bw01 bw02 bg0l bg00 bg01 bg02
  replace Ow0 := Lib.hid (spPres.own_chg Ow0.out ch Dw0_g0.out)
  replace Bw0 := Bw0.chg ch Nw0_g0
  replace Bg0 := Bg0.chg ch Ng0_g0
  replace L := bstepS L L.size Hg0.out ch
  replace Og0 := Lib.hid ow
  clear ow ch
  have km : 0 ≤ 1 + (spPres.cnt (rCyclicPresentation x0) : Int) := by omega
  obtain ⟨bw0l, bw00, bw01, bw02⟩ := Bw0.c3
  obtain ⟨bg0l, bg00, bg01, bg02⟩ := Bg0.c3
  go_wp2_with (fail)
  refine (heldPres_ok (.agg #[.slice Ag0_0 ng0_0 cg0_0, .slice Ag0_1 ng0_1 cg0_1, .slice Ag0_2 ng0_2 cg0_2]) (rCyclicPresentation x0) 1 w4 (spPres.own_rd Og0.out) (by omega) (by omega)).mono ?_; rintro e w5 ⟨rfl, hb⟩
  clear bw0l bw00 bw01 bw02 bg0l bg00 bg01 bg02
  replace Ow0 := Lib.hid (spPres.own_below Ow0.out hb)
  replace Og0 := Lib.hid (spPres.own_below Og0.out hb)
  replace Bw0 := Bw0.below hb
  replace Bg0 := Bg0.below hb
  replace L := bstep L L.size hb
  clear hb
  obtain ⟨bw0l, bw00, bw01, bw02⟩ := Bw0.c3
  obtain ⟨bg0l, bg00, bg01, bg02⟩ := Bg0.c3
  go_wp2_with (fail)
  refine (iCyclicPresentation_ok x0 w5  ).mono ?_; rintro e w6 ⟨uh0, Sh0, rfl, owh0, hSh0, hcnt, hb⟩
  clear bw0l bw00 bw01 bw02 bg0l bg00 bg01 bg02
  clear hcnt
  have Dw0_h0 : Hid (∀ k, Sw0 k → ¬ Sh0 k) := Lib.hid fun k g1 g2 => by have := spPres.own_lt Ow0.out g1; have := hSh0 k g2; omega
  have Dg0_h0 : Hid (∀ k, Sg0 k → ¬ Sh0 k) := Lib.hid fun k g1 g2 => by have := spPres.own_lt Og0.out g1; have := hSh0 k g2; omega
  have Nw0_h0 : ¬ Sh0 w1.heap.size := fun g => by have := hSh0 _ g; have := Bw0.lt; omega
  have Ng0_h0 : ¬ Sh0 w2.heap.size := fun g => by have := hSh0 _ g; have := Bg0.lt; omega
  have Hh0 : Hid (∀ k, Sh0 k → w.heap.size ≤ k) := Lib.hid fun k g => by have := hSh0 k g; have := L.size; omega
  replace Ow0 := Lib.hid (spPres.own_below Ow0.out hb)
  replace Og0 := Lib.hid (spPres.own_below Og0.out hb)
  replace Bw0 := Bw0.below hb
  replace Bg0 := Bg0.below hb
  replace L := bstep L L.size hb
  clear hb hSh0
  obtain ⟨Ah0_0, nh0_0, ch0_0, Ah0_1, nh0_1, ch0_1, Ah0_2, nh0_2, ch0_2, rfl, -, -, -⟩ := spPres_form (spPres.own_rd owh0)
  have Oh0 := Lib.hid owh0
  clear owh0
  have Bh0 := Blk.new w6 [.slice Ah0_0 nh0_0 ch0_0, .slice Ah0_1 nh0_1 ch0_1, .slice Ah0_2 nh0_2 ch0_2] 29
  have Nh0_w0 : ¬ Sw0 w6.heap.size := fun g => by have := spPres.own_lt Ow0.out g; omega
  have Nh0_g0 : ¬ Sg0 w6.heap.size := fun g => by have := spPres.own_lt Og0.out g; omega
  have Nh0_h0 : ¬ Sh0 w6.heap.size := fun g => by have := spPres.own_lt Oh0.out g; omega
  have hbx : Below w6.heap.size w6 (w6.alloc (.cells [.slice Ah0_0 nh0_0 ch0_0, .slice Ah0_1 nh0_1 ch0_1, .slice Ah0_2 nh0_2 ch0_2].toArray 29)) := (Below.refl _ _).alloc (Nat.le_refl _) _
  replace Ow0 := Lib.hid (spPres.own_below Ow0.out hbx)
  replace Og0 := Lib.hid (spPres.own_below Og0.out hbx)
  replace Oh0 := Lib.hid (spPres.own_below Oh0.out hbx)
  replace Bw0 := Bw0.below hbx
  replace Bg0 := Bg0.below hbx
  replace L := bstep L L.size hbx
  clear hbx
  obtain ⟨bw0l, bw00, bw01, bw02⟩ := Bw0.c3
  obtain ⟨bg0l, bg00, bg01, bg02⟩ := Bg0.c3
  obtain ⟨bh0l, bh00, bh01, bh02⟩ := Bh0.c3
  go_wp2_with (fail)
  refine (eqPres_ok (.agg #[.slice Ah0_0 nh0_0 ch0_0, .slice Ah0_1 nh0_1 ch0_1, .slice Ah0_2 nh0_2 ch0_2]) (.agg #[.slice Aw0_0 nw0_0 cw0_0, .slice Aw0_1 nw0_1 cw0_1, .slice Aw0_2 nw0_2 cw0_2]) (rCyclicPresentation x0) (w6.alloc (.cells [.slice Ah0_0 nh0_0 ch0_0, .slice Ah0_1 nh0_1 ch0_1, .slice Ah0_2 nh0_2 ch0_2].toArray 29)) (spPres.own_rd Oh0.out) (spPres.own_rd Ow0.out)).mono ?_; rintro e w7 ⟨rfl, hb⟩
  clear bw0l bw00 bw01 bw02 bg0l bg00 bg01 bg02 bh0l bh00 bh01 bh02
  replace Ow0 := Lib.hid (spPres.own_below Ow0.out hb)
  replace Og0 := Lib.hid (spPres.own_below Og0.out hb)
  replace Oh0 := Lib.hid (spPres.own_below Oh0.out hb)
  replace Bw0 := Bw0.below hb
  replace Bg0 := Bg0.below hb
  replace Bh0 := Bh0.below hb
  replace L := bstep L L.size hb
  clear hb
  obtain ⟨bw0l, bw00, bw01, bw02⟩ := Bw0.c3
  obtain ⟨bg0l, bg00, bg01, bg02⟩ := Bg0.c3
  obtain ⟨bh0l, bh00, bh01, bh02⟩ := Bh0.c3
  go_wp2_with (fail)
  refine (heldPres_ok (.agg #[.slice Ag0_0 ng0_0 cg0_0, .slice Ag0_1 ng0_1 cg0_1, .slice Ag0_2 ng0_2 cg0_2]) (rCyclicPresentation x0) 1 w7 (spPres.own_rd Og0.out) (by omega) (by omega)).mono ?_; rintro e w8 ⟨rfl, hb⟩
  clear bw0l bw00 bw01 bw02 bg0l bg00 bg01 bg02 bh0l bh00 bh01 bh02
  replace Ow0 := Lib.hid (spPres.own_below Ow0.out hb)
  replace Og0 := Lib.hid (spPres.own_below Og0.out hb)
  replace Oh0 := Lib.hid (spPres.own_below Oh0.out hb)
  replace Bw0 := Bw0.below hb
  replace Bg0 := Bg0.below hb
  replace Bh0 := Bh0.below hb
  replace L := bstep L L.size hb
  clear hb
  obtain ⟨bw0l, bw00, bw01, bw02⟩ := Bw0.c3
  obtain ⟨bg0l, bg00, bg01, bg02⟩ := Bg0.c3
  obtain ⟨bh0l, bh00, bh01, bh02⟩ := Bh0.c3
  go_wp2_with (fail)
  go_ret
  exact ⟨rfl, L⟩
theorem fnExactCyclicPresentation_walk (a0 : Int) (w : World) (w0 : (Lit.int .i64 a0).wf = true) :
    Calls Try.prog 9 #[.int .i64 a0] w fun e w' => e = .returned (.bool true) ∧ Below w.heap.size w w' :=
  fnExactCyclicPresentation_run a0 w 
end Go.Proofs.Ytncpngmplddbkaa
