/- The walk of the exact law of AbelianPresentation. -/
import Derived.Test.YtncpngmplddbkaaL11P
import Derived.Test.YtncpngmplddbkaaOpP
import Derived.Deep.RegionHeld3
import Derived.Deep.DeepCutAuto
namespace Go.Proofs.Ytncpngmplddbkaa
open Go.RowKit
set_option linter.unusedVariables false
set_option linter.unusedSimpArgs false

set_option maxRecDepth 100000 in
set_option maxHeartbeats 4000000 in
theorem fnExactAbelianPresentation_run (v0 : Value) (x0 : List Int) (w : World) (h0 : spI.rd w v0 x0) :
    Calls Try.prog 8 #[v0] w fun e w' => e = .returned (.bool true) ∧ Below w.heap.size w w' := by
  have h0b := h0
  obtain ⟨A0, c0, rfl, m0, -⟩ := h0b
  have m0' := m0
  unfold maxLen at m0'
  have L : Below w.heap.size w w := by exact Below.refl _ _
  have RW0 := Lib.hid h0
  clear h0
  by_cases s0 : (x0.length : Int) ≤ 1048576
  · have s0' : spI.sz x0 ≤ 1048576 := by show x0.length ≤ 1048576; omega
    go_enter Try.func8, Try.ntmps8
    go_wp2_with (fail)
    refine (toI_ok (.slice A0 x0.length c0) x0 w (spI.rd_below RW0.out L) s0').mono ?_; rintro e w1 ⟨up0, Sp0, rfl, owp0, hSp0, hb⟩
    have Hp0 : Hid (∀ k, Sp0 k → w.heap.size ≤ k) := Lib.hid fun k g => by have := hSp0 k g; have := L.size; omega
    replace L := bstep L L.size hb
    clear hb hSp0
    have Op0 := Lib.hid owp0
    clear owp0
    go_wp2_with (fail)
    refine (sAbelianPresentation_ok up0 x0 w1 (spI.own_rd Op0.out) s0').mono ?_; rintro e w2 ⟨uw0, Sw0, rfl, oww0, hSw0, hcnt, hb⟩
    clear hcnt
    have Dp0_w0 : Hid (∀ k, Sp0 k → ¬ Sw0 k) := Lib.hid fun k g1 g2 => by have := spI.own_lt Op0.out g1; have := hSw0 k g2; omega
    have Hw0 : Hid (∀ k, Sw0 k → w.heap.size ≤ k) := Lib.hid fun k g => by have := hSw0 k g; have := L.size; omega
    replace Op0 := Lib.hid (spI.own_below Op0.out hb)
    replace L := bstep L L.size hb
    clear hb hSw0
    obtain ⟨Aw0_0, nw0_0, cw0_0, Aw0_1, nw0_1, cw0_1, Aw0_2, nw0_2, cw0_2, rfl, -, -, -⟩ := spPres_form (spPres.own_rd oww0)
    have Ow0 := Lib.hid oww0
    clear oww0
    have Bw0 := Blk.new w2 [.slice Aw0_0 nw0_0 cw0_0, .slice Aw0_1 nw0_1 cw0_1, .slice Aw0_2 nw0_2 cw0_2] 29
    have Nw0_p0 : ¬ Sp0 w2.heap.size := fun g => by have := spI.own_lt Op0.out g; omega
    have Nw0_w0 : ¬ Sw0 w2.heap.size := fun g => by have := spPres.own_lt Ow0.out g; omega
    have hbx : Below w2.heap.size w2 (w2.alloc (.cells [.slice Aw0_0 nw0_0 cw0_0, .slice Aw0_1 nw0_1 cw0_1, .slice Aw0_2 nw0_2 cw0_2].toArray 29)) := (Below.refl _ _).alloc (Nat.le_refl _) _
    replace Op0 := Lib.hid (spI.own_below Op0.out hbx)
    replace Ow0 := Lib.hid (spPres.own_below Ow0.out hbx)
    replace L := bstep L L.size hbx
    clear hbx
    obtain ⟨bw0l, bw00, bw01, bw02⟩ := Bw0.c3
    go_wp2_with (fail)
    refine (toI_ok (.slice A0 x0.length c0) x0 (w2.alloc (.cells [.slice Aw0_0 nw0_0 cw0_0, .slice Aw0_1 nw0_1 cw0_1, .slice Aw0_2 nw0_2 cw0_2].toArray 29)) (spI.rd_below RW0.out L) s0').mono ?_; rintro e w3 ⟨uq0, Sq0, rfl, owq0, hSq0, hb⟩
    clear bw0l bw00 bw01 bw02
    have Dw0_q0 : Hid (∀ k, Sw0 k → ¬ Sq0 k) := Lib.hid fun k g1 g2 => by have := spPres.own_lt Ow0.out g1; have := hSq0 k g2; omega
    have Nw0_q0 : ¬ Sq0 w2.heap.size := fun g => by have := hSq0 _ g; have := Bw0.lt; omega
    have Hq0 : Hid (∀ k, Sq0 k → w.heap.size ≤ k) := Lib.hid fun k g => by have := hSq0 k g; have := L.size; omega
    replace Ow0 := Lib.hid (spPres.own_below Ow0.out hb)
    replace Bw0 := Bw0.below hb
    replace L := bstep L L.size hb
    clear hb hSq0
    have Oq0 := Lib.hid owq0
    clear owq0
    obtain ⟨bw0l, bw00, bw01, bw02⟩ := Bw0.c3
    go_wp2_with (fail)
    refine (iAbelianPresentation_ok uq0 x0 w3 (spI.own_rd Oq0.out) s0').mono ?_; rintro e w4 ⟨ug0, Sg0, rfl, owg0, hSg0, hcnt, hb⟩
    clear bw0l bw00 bw01 bw02
    have Dw0_g0 : Hid (∀ k, Sw0 k → ¬ Sg0 k) := Lib.hid fun k g1 g2 => by have := spPres.own_lt Ow0.out g1; have := hSg0 k g2; omega
    have Dq0_g0 : Hid (∀ k, Sq0 k → ¬ Sg0 k) := Lib.hid fun k g1 g2 => by have := spI.own_lt Oq0.out g1; have := hSg0 k g2; omega
    have Nw0_g0 : ¬ Sg0 w2.heap.size := fun g => by have := hSg0 _ g; have := Bw0.lt; omega
    have Hg0 : Hid (∀ k, Sg0 k → w.heap.size ≤ k) := Lib.hid fun k g => by have := hSg0 k g; have := L.size; omega
    replace Ow0 := Lib.hid (spPres.own_below Ow0.out hb)
    replace Oq0 := Lib.hid (spI.own_below Oq0.out hb)
    replace Bw0 := Bw0.below hb
    replace L := bstep L L.size hb
    clear hb hSg0
    obtain ⟨Ag0_0, ng0_0, cg0_0, Ag0_1, ng0_1, cg0_1, Ag0_2, ng0_2, cg0_2, rfl, -, -, -⟩ := spPres_form (spPres.own_rd owg0)
    have Og0 := Lib.hid owg0
    clear owg0
    have Bg0 := Blk.new w4 [.slice Ag0_0 ng0_0 cg0_0, .slice Ag0_1 ng0_1 cg0_1, .slice Ag0_2 ng0_2 cg0_2] 29
    have Ng0_w0 : ¬ Sw0 w4.heap.size := fun g => by have := spPres.own_lt Ow0.out g; omega
    have Ng0_q0 : ¬ Sq0 w4.heap.size := fun g => by have := spI.own_lt Oq0.out g; omega
    have Ng0_g0 : ¬ Sg0 w4.heap.size := fun g => by have := spPres.own_lt Og0.out g; omega
    have hbx : Below w4.heap.size w4 (w4.alloc (.cells [.slice Ag0_0 ng0_0 cg0_0, .slice Ag0_1 ng0_1 cg0_1, .slice Ag0_2 ng0_2 cg0_2].toArray 29)) := (Below.refl _ _).alloc (Nat.le_refl _) _
    replace Ow0 := Lib.hid (spPres.own_below Ow0.out hbx)
    replace Oq0 := Lib.hid (spI.own_below Oq0.out hbx)
    replace Og0 := Lib.hid (spPres.own_below Og0.out hbx)
    replace Bw0 := Bw0.below hbx
    replace L := bstep L L.size hbx
    clear hbx
    obtain ⟨bw0l, bw00, bw01, bw02⟩ := Bw0.c3
    obtain ⟨bg0l, bg00, bg01, bg02⟩ := Bg0.c3
    go_wp2_with (fail)
    refine (eqPres_ok (.agg #[.slice Ag0_0 ng0_0 cg0_0, .slice Ag0_1 ng0_1 cg0_1, .slice Ag0_2 ng0_2 cg0_2]) (.agg #[.slice Aw0_0 nw0_0 cw0_0, .slice Aw0_1 nw0_1 cw0_1, .slice Aw0_2 nw0_2 cw0_2]) (rAbelianPresentation x0) (w4.alloc (.cells [.slice Ag0_0 ng0_0 cg0_0, .slice Ag0_1 ng0_1 cg0_1, .slice Ag0_2 ng0_2 cg0_2].toArray 29)) (spPres.own_rd Og0.out) (spPres.own_rd Ow0.out)).mono ?_; rintro e w5 ⟨rfl, hb⟩
    clear bw0l bw00 bw01 bw02 bg0l bg00 bg01 bg02
    replace Ow0 := Lib.hid (spPres.own_below Ow0.out hb)
    replace Oq0 := Lib.hid (spI.own_below Oq0.out hb)
    replace Og0 := Lib.hid (spPres.own_below Og0.out hb)
    replace Bw0 := Bw0.below hb
    replace Bg0 := Bg0.below hb
    replace L := bstep L L.size hb
    clear hb
    obtain ⟨bw0l, bw00, bw01, bw02⟩ := Bw0.c3
    obtain ⟨bg0l, bg00, bg01, bg02⟩ := Bg0.c3
    go_wp2_with (fail)
    refine (toI_ok (.slice A0 x0.length c0) x0 w5 (spI.rd_below RW0.out L) s0').mono ?_; rintro e w6 ⟨ut0, St0, rfl, owt0, hSt0, hb⟩
    clear bw0l bw00 bw01 bw02 bg0l bg00 bg01 bg02
    have Dw0_t0 : Hid (∀ k, Sw0 k → ¬ St0 k) := Lib.hid fun k g1 g2 => by have := spPres.own_lt Ow0.out g1; have := hSt0 k g2; omega
    have Dq0_t0 : Hid (∀ k, Sq0 k → ¬ St0 k) := Lib.hid fun k g1 g2 => by have := spI.own_lt Oq0.out g1; have := hSt0 k g2; omega
    have Dg0_t0 : Hid (∀ k, Sg0 k → ¬ St0 k) := Lib.hid fun k g1 g2 => by have := spPres.own_lt Og0.out g1; have := hSt0 k g2; omega
    have Nw0_t0 : ¬ St0 w2.heap.size := fun g => by have := hSt0 _ g; have := Bw0.lt; omega
    have Ng0_t0 : ¬ St0 w4.heap.size := fun g => by have := hSt0 _ g; have := Bg0.lt; omega
    have Ht0 : Hid (∀ k, St0 k → w.heap.size ≤ k) := Lib.hid fun k g => by have := hSt0 k g; have := L.size; omega
    replace Ow0 := Lib.hid (spPres.own_below Ow0.out hb)
    replace Oq0 := Lib.hid (spI.own_below Oq0.out hb)
    replace Og0 := Lib.hid (spPres.own_below Og0.out hb)
    replace Bw0 := Bw0.below hb
    replace Bg0 := Bg0.below hb
    replace L := bstep L L.size hb
    clear hb hSt0
    have Ot0 := Lib.hid owt0
    clear owt0
    obtain ⟨bw0l, bw00, bw01, bw02⟩ := Bw0.c3
    obtain ⟨bg0l, bg00, bg01, bg02⟩ := Bg0.c3
    go_wp2_with (fail)
    refine (eqI_ok uq0 ut0 x0 w6 (spI.own_rd Oq0.out) (spI.own_rd Ot0.out)).mono ?_; rintro e w7 ⟨rfl, hb⟩
    clear bw0l bw00 bw01 bw02 bg0l bg00 bg01 bg02
    replace Ow0 := Lib.hid (spPres.own_below Ow0.out hb)
    replace Oq0 := Lib.hid (spI.own_below Oq0.out hb)
    replace Og0 := Lib.hid (spPres.own_below Og0.out hb)
    replace Ot0 := Lib.hid (spI.own_below Ot0.out hb)
    replace Bw0 := Bw0.below hb
    replace Bg0 := Bg0.below hb
    replace L := bstep L L.size hb
    clear hb
    have e0 := spI_cnt x0
    obtain ⟨bw0l, bw00, bw01, bw02⟩ := Bw0.c3
    obtain ⟨bg0l, bg00, bg01, bg02⟩ := Bg0.c3
    go_wp2_with (fail)
    refine (markI_ok Sq0 uq0 x0 (1) w7 Oq0.out (by omega) (by omega)).mono ?_; rintro e w8 ⟨rfl, ow, ch⟩
    clear bw0l bw00 bw01 bw02 bg0l bg00 bg01 bg02
    replace Ow0 := Lib.hid (spPres.own_chg Ow0.out ch Dw0_q0.out)
    replace Og0 := Lib.hid (spPres.own_chg Og0.out ch (fun k g1 g2 => Dq0_g0.out k g2 g1))
    replace Bw0 := Bw0.chg ch Nw0_q0
    replace Bg0 := Bg0.chg ch Ng0_q0
    replace L := bstepS L L.size Hq0.out ch
    replace Oq0 := Lib.hid ow
    clear ow ch
    have kp0 : 0 ≤ 1 + (spI.cnt x0 : Int) := by omega
    obtain ⟨bw0l, bw00, bw01, bw02⟩ := Bw0.c3
    obtain ⟨bg0l, bg00, bg01, bg02⟩ := Bg0.c3
    go_wp2_with (fail)
    refine (eqPres_ok (.agg #[.slice Ag0_0 ng0_0 cg0_0, .slice Ag0_1 ng0_1 cg0_1, .slice Ag0_2 ng0_2 cg0_2]) (.agg #[.slice Aw0_0 nw0_0 cw0_0, .slice Aw0_1 nw0_1 cw0_1, .slice Aw0_2 nw0_2 cw0_2]) (rAbelianPresentation x0) w8 (spPres.own_rd Og0.out) (spPres.own_rd Ow0.out)).mono ?_; rintro e w9 ⟨rfl, hb⟩
    clear bw0l bw00 bw01 bw02 bg0l bg00 bg01 bg02
    replace Ow0 := Lib.hid (spPres.own_below Ow0.out hb)
    replace Oq0 := Lib.hid (spI.own_below Oq0.out hb)
    replace Og0 := Lib.hid (spPres.own_below Og0.out hb)
    replace Bw0 := Bw0.below hb
    replace Bg0 := Bg0.below hb
    replace L := bstep L L.size hb
    clear hb
    obtain ⟨bw0l, bw00, bw01, bw02⟩ := Bw0.c3
    obtain ⟨bg0l, bg00, bg01, bg02⟩ := Bg0.c3
    go_wp2_with (fail)
    refine (markPres_ok Sg0 (.agg #[.slice Ag0_0 ng0_0 cg0_0, .slice Ag0_1 ng0_1 cg0_1, .slice Ag0_2 ng0_2 cg0_2]) (rAbelianPresentation x0) (1) w9 Og0.out (by omega) (by omega)).mono ?_; rintro e w10 ⟨rfl, ow, ch⟩
    clear bw0l bw00 bw01 bw02 bg0l bg00 bg01 bg02
    replace Ow0 := Lib.hid (spPres.own_chg Ow0.out ch Dw0_g0.out)
    replace Bw0 := Bw0.chg ch Nw0_g0
    replace Bg0 := Bg0.chg ch Ng0_g0
    replace L := bstepS L L.size Hg0.out ch
    replace Og0 := Lib.hid ow
    clear ow ch
    have km : 0 ≤ 1 + (spPres.cnt (rAbelianPresentation x0) : Int) := by omega
    obtain ⟨bw0l, bw00, bw01, bw02⟩ := Bw0.c3
    obtain ⟨bg0l, bg00, bg01, bg02⟩ := Bg0.c3
    go_wp2_with (fail)
    refine (heldPres_ok (.agg #[.slice Ag0_0 ng0_0 cg0_0, .slice Ag0_1 ng0_1 cg0_1, .slice Ag0_2 ng0_2 cg0_2]) (rAbelianPresentation x0) 1 w10 (spPres.own_rd Og0.out) (by omega) (by omega)).mono ?_; rintro e w11 ⟨rfl, hb⟩
    clear bw0l bw00 bw01 bw02 bg0l bg00 bg01 bg02
    replace Ow0 := Lib.hid (spPres.own_below Ow0.out hb)
    replace Og0 := Lib.hid (spPres.own_below Og0.out hb)
    replace Bw0 := Bw0.below hb
    replace Bg0 := Bg0.below hb
    replace L := bstep L L.size hb
    clear hb
    obtain ⟨bw0l, bw00, bw01, bw02⟩ := Bw0.c3
    obtain ⟨bg0l, bg00, bg01, bg02⟩ := Bg0.c3
    go_wp2_with (fail)
    refine (toI_ok (.slice A0 x0.length c0) x0 w11 (spI.rd_below RW0.out L) s0').mono ?_; rintro e w12 ⟨ur0, Sr0, rfl, owr0, hSr0, hb⟩
    clear bw0l bw00 bw01 bw02 bg0l bg00 bg01 bg02
    have Dw0_r0 : Hid (∀ k, Sw0 k → ¬ Sr0 k) := Lib.hid fun k g1 g2 => by have := spPres.own_lt Ow0.out g1; have := hSr0 k g2; omega
    have Dg0_r0 : Hid (∀ k, Sg0 k → ¬ Sr0 k) := Lib.hid fun k g1 g2 => by have := spPres.own_lt Og0.out g1; have := hSr0 k g2; omega
    have Nw0_r0 : ¬ Sr0 w2.heap.size := fun g => by have := hSr0 _ g; have := Bw0.lt; omega
    have Ng0_r0 : ¬ Sr0 w4.heap.size := fun g => by have := hSr0 _ g; have := Bg0.lt; omega
    have Hr0 : Hid (∀ k, Sr0 k → w.heap.size ≤ k) := Lib.hid fun k g => by have := hSr0 k g; have := L.size; omega
    replace Ow0 := Lib.hid (spPres.own_below Ow0.out hb)
    replace Og0 := Lib.hid (spPres.own_below Og0.out hb)
    replace Bw0 := Bw0.below hb
    replace Bg0 := Bg0.below hb
    replace L := bstep L L.size hb
    clear hb hSr0
    have Or0 := Lib.hid owr0
    clear owr0
    obtain ⟨bw0l, bw00, bw01, bw02⟩ := Bw0.c3
    obtain ⟨bg0l, bg00, bg01, bg02⟩ := Bg0.c3
    go_wp2_with (fail)
    refine (iAbelianPresentation_ok ur0 x0 w12 (spI.own_rd Or0.out) s0').mono ?_; rintro e w13 ⟨uh0, Sh0, rfl, owh0, hSh0, hcnt, hb⟩
    clear bw0l bw00 bw01 bw02 bg0l bg00 bg01 bg02
    clear hcnt
    have Dw0_h0 : Hid (∀ k, Sw0 k → ¬ Sh0 k) := Lib.hid fun k g1 g2 => by have := spPres.own_lt Ow0.out g1; have := hSh0 k g2; omega
    have Dg0_h0 : Hid (∀ k, Sg0 k → ¬ Sh0 k) := Lib.hid fun k g1 g2 => by have := spPres.own_lt Og0.out g1; have := hSh0 k g2; omega
    have Dr0_h0 : Hid (∀ k, Sr0 k → ¬ Sh0 k) := Lib.hid fun k g1 g2 => by have := spI.own_lt Or0.out g1; have := hSh0 k g2; omega
    have Nw0_h0 : ¬ Sh0 w2.heap.size := fun g => by have := hSh0 _ g; have := Bw0.lt; omega
    have Ng0_h0 : ¬ Sh0 w4.heap.size := fun g => by have := hSh0 _ g; have := Bg0.lt; omega
    have Hh0 : Hid (∀ k, Sh0 k → w.heap.size ≤ k) := Lib.hid fun k g => by have := hSh0 k g; have := L.size; omega
    replace Ow0 := Lib.hid (spPres.own_below Ow0.out hb)
    replace Og0 := Lib.hid (spPres.own_below Og0.out hb)
    replace Or0 := Lib.hid (spI.own_below Or0.out hb)
    replace Bw0 := Bw0.below hb
    replace Bg0 := Bg0.below hb
    replace L := bstep L L.size hb
    clear hb hSh0
    obtain ⟨Ah0_0, nh0_0, ch0_0, Ah0_1, nh0_1, ch0_1, Ah0_2, nh0_2, ch0_2, rfl, -, -, -⟩ := spPres_form (spPres.own_rd owh0)
    have Oh0 := Lib.hid owh0
    clear owh0
    have Bh0 := Blk.new w13 [.slice Ah0_0 nh0_0 ch0_0, .slice Ah0_1 nh0_1 ch0_1, .slice Ah0_2 nh0_2 ch0_2] 29
    have Nh0_w0 : ¬ Sw0 w13.heap.size := fun g => by have := spPres.own_lt Ow0.out g; omega
    have Nh0_g0 : ¬ Sg0 w13.heap.size := fun g => by have := spPres.own_lt Og0.out g; omega
    have Nh0_r0 : ¬ Sr0 w13.heap.size := fun g => by have := spI.own_lt Or0.out g; omega
    have Nh0_h0 : ¬ Sh0 w13.heap.size := fun g => by have := spPres.own_lt Oh0.out g; omega
    have hbx : Below w13.heap.size w13 (w13.alloc (.cells [.slice Ah0_0 nh0_0 ch0_0, .slice Ah0_1 nh0_1 ch0_1, .slice Ah0_2 nh0_2 ch0_2].toArray 29)) := (Below.refl _ _).alloc (Nat.le_refl _) _
    replace Ow0 := Lib.hid (spPres.own_below Ow0.out hbx)
    replace Og0 := Lib.hid (spPres.own_below Og0.out hbx)
    replace Or0 := Lib.hid (spI.own_below Or0.out hbx)
    replace Oh0 := Lib.hid (spPres.own_below Oh0.out hbx)
    replace Bw0 := Bw0.below hbx
    replace Bg0 := Bg0.below hbx
    replace L := bstep L L.size hbx
    clear hbx
    obtain ⟨bw0l, bw00, bw01, bw02⟩ := Bw0.c3
    obtain ⟨bg0l, bg00, bg01, bg02⟩ := Bg0.c3
    obtain ⟨bh0l, bh00, bh01, bh02⟩ := Bh0.c3
    go_wp2_with (fail)
    refine (eqPres_ok (.agg #[.slice Ah0_0 nh0_0 ch0_0, .slice Ah0_1 nh0_1 ch0_1, .slice Ah0_2 nh0_2 ch0_2]) (.agg #[.slice Aw0_0 nw0_0 cw0_0, .slice Aw0_1 nw0_1 cw0_1, .slice Aw0_2 nw0_2 cw0_2]) (rAbelianPresentation x0) (w13.alloc (.cells [.slice Ah0_0 nh0_0 ch0_0, .slice Ah0_1 nh0_1 ch0_1, .slice Ah0_2 nh0_2 ch0_2].toArray 29)) (spPres.own_rd Oh0.out) (spPres.own_rd Ow0.out)).mono ?_; rintro e w14 ⟨rfl, hb⟩
    clear bw0l bw00 bw01 bw02 bg0l bg00 bg01 bg02 bh0l bh00 bh01 bh02
    replace Ow0 := Lib.hid (spPres.own_below Ow0.out hb)
    replace Og0 := Lib.hid (spPres.own_below Og0.out hb)
    replace Oh0 := Lib.hid (spPres.own_below Oh0.out hb)
    replace Bw0 := Bw0.below hb
    replace Bg0 := Bg0.below hb
    replace Bh0 := Bh0.below hb
    replace L := bstep L L.size hb
    clear hb
    obtain ⟨bw0l, bw00, bw01, bw02⟩ := Bw0.c3
    obtain ⟨bg0l, bg00, bg01, bg02⟩ := Bg0.c3
    obtain ⟨bh0l, bh00, bh01, bh02⟩ := Bh0.c3
    go_wp2_with (fail)
    refine (heldPres_ok (.agg #[.slice Ag0_0 ng0_0 cg0_0, .slice Ag0_1 ng0_1 cg0_1, .slice Ag0_2 ng0_2 cg0_2]) (rAbelianPresentation x0) 1 w14 (spPres.own_rd Og0.out) (by omega) (by omega)).mono ?_; rintro e w15 ⟨rfl, hb⟩
    clear bw0l bw00 bw01 bw02 bg0l bg00 bg01 bg02 bh0l bh00 bh01 bh02
    replace Ow0 := Lib.hid (spPres.own_below Ow0.out hb)
    replace Og0 := Lib.hid (spPres.own_below Og0.out hb)
    replace Oh0 := Lib.hid (spPres.own_below Oh0.out hb)
    replace Bw0 := Bw0.below hb
    replace Bg0 := Bg0.below hb
    replace Bh0 := Bh0.below hb
    replace L := bstep L L.size hb
    clear hb
    obtain ⟨bw0l, bw00, bw01, bw02⟩ := Bw0.c3
    obtain ⟨bg0l, bg00, bg01, bg02⟩ := Bg0.c3
    obtain ⟨bh0l, bh00, bh01, bh02⟩ := Bh0.c3
    go_wp2_with (fail)
    go_ret
    exact ⟨rfl, L⟩
  · have s0'' : 1048576 < (x0.length : Int) := by omega
    go_enter Try.func8, Try.ntmps8
    go_wp2_with (fail)
    go_ret
    exact ⟨rfl, L⟩
theorem fnExactAbelianPresentation_walk (A0 : Option Addr) (c0 : Nat) (xs0 : List Int) (w : World) (w0 : RdI w A0 xs0 ∧ xs0.length ≤ maxLen) :
    Calls Try.prog 8 #[.slice A0 xs0.length c0] w fun e w' => e = .returned (.bool true) ∧ Below w.heap.size w w' :=
  fnExactAbelianPresentation_run (.slice A0 xs0.length c0) xs0 w ⟨A0, c0, rfl, w0.2, w0.1⟩
end Go.Proofs.Ytncpngmplddbkaa
