/- The walk of the exact law of CollectStep. -/
import Derived.Test.YtahmhdpgdhfjnaaL13L
import Derived.Test.YtahmhdpgdhfjnaaOpP
import Derived.Deep.RegionHeld3
import Derived.Deep.DeepCutAuto
namespace Go.Proofs.Ytahmhdpgdhfjnaa
open Go.RowKit
set_option linter.unusedVariables false
set_option linter.unusedSimpArgs false

set_option maxRecDepth 100000 in
set_option maxHeartbeats 4000000 in
theorem fnExactCollectStep_run (v0 : Value) (x0 : Pres) (v1 : Value) (x1 : List Int) (w : World) (h0 : spPres.rd w v0 x0) (h1 : spI.rd w v1 x1) :
    Calls Try.prog 9 #[v0, v1] w fun e w' => e = .returned (.bool true) ∧ Below w.heap.size w w' := by
  have h1b := h1
  obtain ⟨A1, c1, rfl, m1, -⟩ := h1b
  have m1' := m1
  unfold maxLen at m1'
  obtain ⟨Aa0_0, na0_0, ca0_0, Aa0_1, na0_1, ca0_1, Aa0_2, na0_2, ca0_2, rfl, -, -, -⟩ := spPres_form h0
  have L : Below w.heap.size w (w.alloc (.cells [.slice Aa0_0 na0_0 ca0_0, .slice Aa0_1 na0_1 ca0_1, .slice Aa0_2 na0_2 ca0_2].toArray 47)) := by go_grown
  have Ba0 : Blk (w.alloc (.cells [.slice Aa0_0 na0_0 ca0_0, .slice Aa0_1 na0_1 ca0_1, .slice Aa0_2 na0_2 ca0_2].toArray 47)) (w.heap.size) [.slice Aa0_0 na0_0 ca0_0, .slice Aa0_1 na0_1 ca0_1, .slice Aa0_2 na0_2 ca0_2] 47 := by have := Blk.new w [.slice Aa0_0 na0_0 ca0_0, .slice Aa0_1 na0_1 ca0_1, .slice Aa0_2 na0_2 ca0_2] 47; simpa only [World.size_alloc] using this
  have RW0 := Lib.hid h0
  have RW1 := Lib.hid h1
  clear h0 h1
  by_cases s1 : (x1.length : Int) ≤ 1048576
  · have s1' : spI.sz x1 ≤ 1048576 := by show x1.length ≤ 1048576; omega
    by_cases s0 : (spPres.sz x0 : Int) ≤ 1048576
    · have s0' : spPres.sz x0 ≤ 1048576 := by omega
      obtain ⟨ba0l, ba00, ba01, ba02⟩ := Ba0.c3
      have HC := Lib.hid (szPres_ok (.agg #[.slice Aa0_0 na0_0 ca0_0, .slice Aa0_1 na0_1 ca0_1, .slice Aa0_2 na0_2 ca0_2]) x0 (1048576) (w.alloc (.cells [.slice Aa0_0 na0_0 ca0_0, .slice Aa0_1 na0_1 ca0_1, .slice Aa0_2 na0_2 ca0_2].toArray 47)) (spPres.rd_below RW0.out L) (by omega) (by omega))
      rw [szLeft_yes (n := spPres.sz x0) (left := 1048576) (by omega)] at HC
      have g0 : 0 ≤ 1048576 - (spPres.sz x0 : Int) := by omega
      have g0' : 1048576 - (spPres.sz x0 : Int) ≤ 1048576 := by omega
      go_enter Try.func9, Try.ntmps9
      go_wp2_with (fail)
      refine HC.out.mono ?_; rintro e w1 ⟨rfl, hb⟩
      clear ba0l ba00 ba01 ba02
      clear HC
      replace Ba0 := Ba0.below hb
      replace L := bstep L L.size hb
      clear hb
      obtain ⟨ba0l, ba00, ba01, ba02⟩ := Ba0.c3
      go_wp2_with (fail)
      refine (toPres_ok (.agg #[.slice Aa0_0 na0_0 ca0_0, .slice Aa0_1 na0_1 ca0_1, .slice Aa0_2 na0_2 ca0_2]) x0 w1 (spPres.rd_below RW0.out L) s0').mono ?_; rintro e w2 ⟨up0, Sp0, rfl, owp0, hSp0, hb⟩
      clear ba0l ba00 ba01 ba02
      have Na0_p0 : ¬ Sp0 (w.heap.size) := fun g => by have := hSp0 _ g; have := Ba0.lt; omega
      have Hp0 : Hid (∀ k, Sp0 k → w.heap.size ≤ k) := Lib.hid fun k g => by have := hSp0 k g; have := L.size; omega
      replace Ba0 := Ba0.below hb
      replace L := bstep L L.size hb
      clear hb hSp0
      obtain ⟨Ap0_0, np0_0, cp0_0, Ap0_1, np0_1, cp0_1, Ap0_2, np0_2, cp0_2, rfl, -, -, -⟩ := spPres_form (spPres.own_rd owp0)
      have Op0 := Lib.hid owp0
      clear owp0
      obtain ⟨ba0l, ba00, ba01, ba02⟩ := Ba0.c3
      go_wp2_with (fail)
      refine (toI_ok (.slice A1 x1.length c1) x1 w2 (spI.rd_below RW1.out L) s1').mono ?_; rintro e w3 ⟨up1, Sp1, rfl, owp1, hSp1, hb⟩
      clear ba0l ba00 ba01 ba02
      have Dp0_p1 : Hid (∀ k, Sp0 k → ¬ Sp1 k) := Lib.hid fun k g1 g2 => by have := spPres.own_lt Op0.out g1; have := hSp1 k g2; omega
      have Na0_p1 : ¬ Sp1 (w.heap.size) := fun g => by have := hSp1 _ g; have := Ba0.lt; omega
      have Hp1 : Hid (∀ k, Sp1 k → w.heap.size ≤ k) := Lib.hid fun k g => by have := hSp1 k g; have := L.size; omega
      replace Op0 := Lib.hid (spPres.own_below Op0.out hb)
      replace Ba0 := Ba0.below hb
      replace L := bstep L L.size hb
      clear hb hSp1
      have Op1 := Lib.hid owp1
      clear owp1
      obtain ⟨ba0l, ba00, ba01, ba02⟩ := Ba0.c3
      go_wp2_with (fail)
      refine (sCollectStep_ok (.agg #[.slice Ap0_0 np0_0 cp0_0, .slice Ap0_1 np0_1 cp0_1, .slice Ap0_2 np0_2 cp0_2]) x0 up1 x1 w3 (spPres.own_rd Op0.out) (capI_of Op1.out) s0' s1').mono ?_; rintro e w4 ⟨uw0, Sw0, rfl, oww0, hSw0, hcnt, hb⟩
      clear ba0l ba00 ba01 ba02
      clear hcnt
      have Dp0_w0 : Hid (∀ k, Sp0 k → ¬ Sw0 k) := Lib.hid fun k g1 g2 => by have := spPres.own_lt Op0.out g1; have := hSw0 k g2; omega
      have Dp1_w0 : Hid (∀ k, Sp1 k → ¬ Sw0 k) := Lib.hid fun k g1 g2 => by have := spI.own_lt Op1.out g1; have := hSw0 k g2; omega
      have Na0_w0 : ¬ Sw0 (w.heap.size) := fun g => by have := hSw0 _ g; have := Ba0.lt; omega
      have Hw0 : Hid (∀ k, Sw0 k → w.heap.size ≤ k) := Lib.hid fun k g => by have := hSw0 k g; have := L.size; omega
      replace Op0 := Lib.hid (spPres.own_below Op0.out hb)
      replace Op1 := Lib.hid (spI.own_below Op1.out hb)
      replace Ba0 := Ba0.below hb
      replace L := bstep L L.size hb
      clear hb hSw0
      have Ow0 := Lib.hid oww0
      clear oww0
      obtain ⟨ba0l, ba00, ba01, ba02⟩ := Ba0.c3
      go_wp2_with (fail)
      refine (toPres_ok (.agg #[.slice Aa0_0 na0_0 ca0_0, .slice Aa0_1 na0_1 ca0_1, .slice Aa0_2 na0_2 ca0_2]) x0 w4 (spPres.rd_below RW0.out L) s0').mono ?_; rintro e w5 ⟨uq0, Sq0, rfl, owq0, hSq0, hb⟩
      clear ba0l ba00 ba01 ba02
      have Dw0_q0 : Hid (∀ k, Sw0 k → ¬ Sq0 k) := Lib.hid fun k g1 g2 => by have := spI.own_lt Ow0.out g1; have := hSq0 k g2; omega
      have Na0_q0 : ¬ Sq0 (w.heap.size) := fun g => by have := hSq0 _ g; have := Ba0.lt; omega
      have Hq0 : Hid (∀ k, Sq0 k → w.heap.size ≤ k) := Lib.hid fun k g => by have := hSq0 k g; have := L.size; omega
      replace Ow0 := Lib.hid (spI.own_below Ow0.out hb)
      replace Ba0 := Ba0.below hb
      replace L := bstep L L.size hb
      clear hb hSq0
      obtain ⟨Aq0_0, nq0_0, cq0_0, Aq0_1, nq0_1, cq0_1, Aq0_2, nq0_2, cq0_2, rfl, -, -, -⟩ := spPres_form (spPres.own_rd owq0)
      have Oq0 := Lib.hid owq0
      clear owq0
      have Bq0 := Blk.new w5 [.slice Aq0_0 nq0_0 cq0_0, .slice Aq0_1 nq0_1 cq0_1, .slice Aq0_2 nq0_2 cq0_2] 28
      have Nq0_w0 : ¬ Sw0 w5.heap.size := fun g => by have := spI.own_lt Ow0.out g; omega
      have Nq0_q0 : ¬ Sq0 w5.heap.size := fun g => by have := spPres.own_lt Oq0.out g; omega
      have hbx : Below w5.heap.size w5 (w5.alloc (.cells [.slice Aq0_0 nq0_0 cq0_0, .slice Aq0_1 nq0_1 cq0_1, .slice Aq0_2 nq0_2 cq0_2].toArray 28)) := (Below.refl _ _).alloc (Nat.le_refl _) _
      replace Ow0 := Lib.hid (spI.own_below Ow0.out hbx)
      replace Oq0 := Lib.hid (spPres.own_below Oq0.out hbx)
      replace Ba0 := Ba0.below hbx
      replace L := bstep L L.size hbx
      clear hbx
      obtain ⟨ba0l, ba00, ba01, ba02⟩ := Ba0.c3
      obtain ⟨bq0l, bq00, bq01, bq02⟩ := Bq0.c3
      go_wp2_with (fail)
      refine (toI_ok (.slice A1 x1.length c1) x1 (w5.alloc (.cells [.slice Aq0_0 nq0_0 cq0_0, .slice Aq0_1 nq0_1 cq0_1, .slice Aq0_2 nq0_2 cq0_2].toArray 28)) (spI.rd_below RW1.out L) s1').mono ?_; rintro e w6 ⟨uq1, Sq1, rfl, owq1, hSq1, hb⟩
      clear ba0l ba00 ba01 ba02 bq0l bq00 bq01 bq02
      have Dw0_q1 : Hid (∀ k, Sw0 k → ¬ Sq1 k) := Lib.hid fun k g1 g2 => by have := spI.own_lt Ow0.out g1; have := hSq1 k g2; omega
      have Dq0_q1 : Hid (∀ k, Sq0 k → ¬ Sq1 k) := Lib.hid fun k g1 g2 => by have := spPres.own_lt Oq0.out g1; have := hSq1 k g2; omega
      have Na0_q1 : ¬ Sq1 (w.heap.size) := fun g => by have := hSq1 _ g; have := Ba0.lt; omega
      have Nq0_q1 : ¬ Sq1 w5.heap.size := fun g => by have := hSq1 _ g; have := Bq0.lt; omega
      have Hq1 : Hid (∀ k, Sq1 k → w.heap.size ≤ k) := Lib.hid fun k g => by have := hSq1 k g; have := L.size; omega
      replace Ow0 := Lib.hid (spI.own_below Ow0.out hb)
      replace Oq0 := Lib.hid (spPres.own_below Oq0.out hb)
      replace Ba0 := Ba0.below hb
      replace Bq0 := Bq0.below hb
      replace L := bstep L L.size hb
      clear hb hSq1
      have Oq1 := Lib.hid owq1
      clear owq1
      obtain ⟨ba0l, ba00, ba01, ba02⟩ := Ba0.c3
      obtain ⟨bq0l, bq00, bq01, bq02⟩ := Bq0.c3
      go_wp2_with (fail)
      refine (iCollectStep_ok (.agg #[.slice Aq0_0 nq0_0 cq0_0, .slice Aq0_1 nq0_1 cq0_1, .slice Aq0_2 nq0_2 cq0_2]) x0 uq1 x1 w6 (presC_of Oq0.out) (spI.own_rd Oq1.out) s0' s1').mono ?_; rintro e w7 ⟨ug0, Sg0, rfl, owg0, hSg0, hcnt, hb⟩
      clear ba0l ba00 ba01 ba02 bq0l bq00 bq01 bq02
      have Dw0_g0 : Hid (∀ k, Sw0 k → ¬ Sg0 k) := Lib.hid fun k g1 g2 => by have := spI.own_lt Ow0.out g1; have := hSg0 k g2; omega
      have Dq0_g0 : Hid (∀ k, Sq0 k → ¬ Sg0 k) := Lib.hid fun k g1 g2 => by have := spPres.own_lt Oq0.out g1; have := hSg0 k g2; omega
      have Dq1_g0 : Hid (∀ k, Sq1 k → ¬ Sg0 k) := Lib.hid fun k g1 g2 => by have := spI.own_lt Oq1.out g1; have := hSg0 k g2; omega
      have Na0_g0 : ¬ Sg0 (w.heap.size) := fun g => by have := hSg0 _ g; have := Ba0.lt; omega
      have Nq0_g0 : ¬ Sg0 w5.heap.size := fun g => by have := hSg0 _ g; have := Bq0.lt; omega
      have Hg0 : Hid (∀ k, Sg0 k → w.heap.size ≤ k) := Lib.hid fun k g => by have := hSg0 k g; have := L.size; omega
      replace Ow0 := Lib.hid (spI.own_below Ow0.out hb)
      replace Oq0 := Lib.hid (spPres.own_below Oq0.out hb)
      replace Oq1 := Lib.hid (spI.own_below Oq1.out hb)
      replace Ba0 := Ba0.below hb
      replace Bq0 := Bq0.below hb
      replace L := bstep L L.size hb
      clear hb hSg0
      have Og0 := Lib.hid owg0
      clear owg0
      obtain ⟨ba0l, ba00, ba01, ba02⟩ := Ba0.c3
      obtain ⟨bq0l, bq00, bq01, bq02⟩ := Bq0.c3
      go_wp2_with (fail)
      refine (eqI_ok ug0 uw0 (rCollectStep x0 x1) w7 (spI.own_rd Og0.out) (spI.own_rd Ow0.out)).mono ?_; rintro e w8 ⟨rfl, hb⟩
      clear ba0l ba00 ba01 ba02 bq0l bq00 bq01 bq02
      replace Ow0 := Lib.hid (spI.own_below Ow0.out hb)
      replace Oq0 := Lib.hid (spPres.own_below Oq0.out hb)
      replace Oq1 := Lib.hid (spI.own_below Oq1.out hb)
      replace Og0 := Lib.hid (spI.own_below Og0.out hb)
      replace Ba0 := Ba0.below hb
      replace Bq0 := Bq0.below hb
      replace L := bstep L L.size hb
      clear hb
      obtain ⟨ba0l, ba00, ba01, ba02⟩ := Ba0.c3
      obtain ⟨bq0l, bq00, bq01, bq02⟩ := Bq0.c3
      have HT := Lib.hid (toPres_ok (.agg #[.slice Aa0_0 na0_0 ca0_0, .slice Aa0_1 na0_1 ca0_1, .slice Aa0_2 na0_2 ca0_2]) x0 w8.drew (spPres.rd_drew (spPres.rd_below RW0.out L)) s0')
      go_wp2_with (fail)
      go_region_held3 (fun wx => wx.cell? ⟨w5.heap.size, 0, none⟩ = some (.slice Aq0_0 nq0_0 cq0_0) ∧ wx.cell? ⟨w5.heap.size, 1, none⟩ = some (.slice Aq0_1 nq0_1 cq0_1) ∧ wx.cell? ⟨w5.heap.size, 2, none⟩ = some (.slice Aq0_2 nq0_2 cq0_2) ∧ wx.cell? ⟨(w.heap.size), 0, none⟩ = some (.slice Aa0_0 na0_0 ca0_0) ∧ wx.cell? ⟨(w.heap.size), 1, none⟩ = some (.slice Aa0_1 na0_1 ca0_1) ∧ wx.cell? ⟨(w.heap.size), 2, none⟩ = some (.slice Aa0_2 na0_2 ca0_2)) (first | go_keep | assumption) (first | (go_at_call 29; refine HT.out.mono ?_; rintro e w9 ⟨ut0, St0, rfl, owt0, hSt0, hb⟩; have SM : w9.cell? ⟨w5.heap.size, 0, none⟩ = some (.slice Aq0_0 nq0_0 cq0_0) ∧ w9.cell? ⟨w5.heap.size, 1, none⟩ = some (.slice Aq0_1 nq0_1 cq0_1) ∧ w9.cell? ⟨w5.heap.size, 2, none⟩ = some (.slice Aq0_2 nq0_2 cq0_2) ∧ w9.cell? ⟨(w.heap.size), 0, none⟩ = some (.slice Aa0_0 na0_0 ca0_0) ∧ w9.cell? ⟨(w.heap.size), 1, none⟩ = some (.slice Aa0_1 na0_1 ca0_1) ∧ w9.cell? ⟨(w.heap.size), 2, none⟩ = some (.slice Aa0_2 na0_2 ca0_2) := ⟨(Blk.cell (Bq0.drew.below hb) 0 (by simp)), (Blk.cell (Bq0.drew.below hb) 1 (by simp)), (Blk.cell (Bq0.drew.below hb) 2 (by simp)), (Blk.cell (Ba0.drew.below hb) 0 (by simp)), (Blk.cell (Ba0.drew.below hb) 1 (by simp)), (Blk.cell (Ba0.drew.below hb) 2 (by simp))⟩) | (go_at_call 30; refine (eqPres_ok (.agg #[.slice Aq0_0 nq0_0 cq0_0, .slice Aq0_1 nq0_1 cq0_1, .slice Aq0_2 nq0_2 cq0_2]) _ x0 _ (spPres.rd_below (spPres.rd_drew (spPres.own_rd Oq0.out)) hb) (spPres.own_rd owt0)).mono ?_; rintro e w10 ⟨rfl, hb2⟩; have SM2 : w10.cell? ⟨w5.heap.size, 0, none⟩ = some (.slice Aq0_0 nq0_0 cq0_0) ∧ w10.cell? ⟨w5.heap.size, 1, none⟩ = some (.slice Aq0_1 nq0_1 cq0_1) ∧ w10.cell? ⟨w5.heap.size, 2, none⟩ = some (.slice Aq0_2 nq0_2 cq0_2) ∧ w10.cell? ⟨(w.heap.size), 0, none⟩ = some (.slice Aa0_0 na0_0 ca0_0) ∧ w10.cell? ⟨(w.heap.size), 1, none⟩ = some (.slice Aa0_1 na0_1 ca0_1) ∧ w10.cell? ⟨(w.heap.size), 2, none⟩ = some (.slice Aa0_2 na0_2 ca0_2) := ⟨(Blk.cell ((Bq0.drew.below hb).below hb2) 0 (by simp)), (Blk.cell ((Bq0.drew.below hb).below hb2) 1 (by simp)), (Blk.cell ((Bq0.drew.below hb).below hb2) 2 (by simp)), (Blk.cell ((Ba0.drew.below hb).below hb2) 0 (by simp)), (Blk.cell ((Ba0.drew.below hb).below hb2) 1 (by simp)), (Blk.cell ((Ba0.drew.below hb).below hb2) 2 (by simp))⟩))
      clear ba0l ba00 ba01 ba02 bq0l bq00 bq01 bq02
      have hd : Below w8.heap.size w8 w8.drew := (Below.refl _ _).drew
      replace Ow0 := Lib.hid (spI.own_below Ow0.out hd)
      replace Oq0 := Lib.hid (spPres.own_below Oq0.out hd)
      replace Oq1 := Lib.hid (spI.own_below Oq1.out hd)
      replace Og0 := Lib.hid (spI.own_below Og0.out hd)
      replace Ba0 := Ba0.below hd
      replace Bq0 := Bq0.below hd
      replace L := bstep L L.size hd
      replace Ow0 := Lib.hid (spI.own_below Ow0.out hb)
      replace Oq0 := Lib.hid (spPres.own_below Oq0.out hb)
      replace Oq1 := Lib.hid (spI.own_below Oq1.out hb)
      replace Og0 := Lib.hid (spI.own_below Og0.out hb)
      replace Ba0 := Ba0.below hb
      replace Bq0 := Bq0.below hb
      replace L := bstep L L.size hb
      replace Ow0 := Lib.hid (spI.own_below Ow0.out hb2)
      replace Oq0 := Lib.hid (spPres.own_below Oq0.out hb2)
      replace Oq1 := Lib.hid (spI.own_below Oq1.out hb2)
      replace Og0 := Lib.hid (spI.own_below Og0.out hb2)
      replace Ba0 := Ba0.below hb2
      replace Bq0 := Bq0.below hb2
      replace L := bstep L L.size hb2
      clear hd hb hb2 HT SM SM2 owt0 hSt0
      obtain ⟨ba0l, ba00, ba01, ba02⟩ := Ba0.c3
      obtain ⟨bq0l, bq00, bq01, bq02⟩ := Bq0.c3
      go_wp2_with (fail)
      refine (toI_ok (.slice A1 x1.length c1) x1 w10 (spI.rd_below RW1.out L) s1').mono ?_; rintro e w11 ⟨ut1, St1, rfl, owt1, hSt1, hb⟩
      clear ba0l ba00 ba01 ba02 bq0l bq00 bq01 bq02
      have Dw0_t1 : Hid (∀ k, Sw0 k → ¬ St1 k) := Lib.hid fun k g1 g2 => by have := spI.own_lt Ow0.out g1; have := hSt1 k g2; omega
      have Dq0_t1 : Hid (∀ k, Sq0 k → ¬ St1 k) := Lib.hid fun k g1 g2 => by have := spPres.own_lt Oq0.out g1; have := hSt1 k g2; omega
      have Dq1_t1 : Hid (∀ k, Sq1 k → ¬ St1 k) := Lib.hid fun k g1 g2 => by have := spI.own_lt Oq1.out g1; have := hSt1 k g2; omega
      have Dg0_t1 : Hid (∀ k, Sg0 k → ¬ St1 k) := Lib.hid fun k g1 g2 => by have := spI.own_lt Og0.out g1; have := hSt1 k g2; omega
      have Na0_t1 : ¬ St1 (w.heap.size) := fun g => by have := hSt1 _ g; have := Ba0.lt; omega
      have Nq0_t1 : ¬ St1 w5.heap.size := fun g => by have := hSt1 _ g; have := Bq0.lt; omega
      have Ht1 : Hid (∀ k, St1 k → w.heap.size ≤ k) := Lib.hid fun k g => by have := hSt1 k g; have := L.size; omega
      replace Ow0 := Lib.hid (spI.own_below Ow0.out hb)
      replace Oq0 := Lib.hid (spPres.own_below Oq0.out hb)
      replace Oq1 := Lib.hid (spI.own_below Oq1.out hb)
      replace Og0 := Lib.hid (spI.own_below Og0.out hb)
      replace Ba0 := Ba0.below hb
      replace Bq0 := Bq0.below hb
      replace L := bstep L L.size hb
      clear hb hSt1
      have Ot1 := Lib.hid owt1
      clear owt1
      obtain ⟨ba0l, ba00, ba01, ba02⟩ := Ba0.c3
      obtain ⟨bq0l, bq00, bq01, bq02⟩ := Bq0.c3
      go_wp2_with (fail)
      refine (eqI_ok uq1 ut1 x1 w11 (spI.own_rd Oq1.out) (spI.own_rd Ot1.out)).mono ?_; rintro e w12 ⟨rfl, hb⟩
      clear ba0l ba00 ba01 ba02 bq0l bq00 bq01 bq02
      replace Ow0 := Lib.hid (spI.own_below Ow0.out hb)
      replace Oq0 := Lib.hid (spPres.own_below Oq0.out hb)
      replace Oq1 := Lib.hid (spI.own_below Oq1.out hb)
      replace Og0 := Lib.hid (spI.own_below Og0.out hb)
      replace Ot1 := Lib.hid (spI.own_below Ot1.out hb)
      replace Ba0 := Ba0.below hb
      replace Bq0 := Bq0.below hb
      replace L := bstep L L.size hb
      clear hb
      have e0 := spPres_cnt x0
      have e1 := spI_cnt x1
      obtain ⟨ba0l, ba00, ba01, ba02⟩ := Ba0.c3
      obtain ⟨bq0l, bq00, bq01, bq02⟩ := Bq0.c3
      go_wp2_with (fail)
      refine (markPres_ok Sq0 (.agg #[.slice Aq0_0 nq0_0 cq0_0, .slice Aq0_1 nq0_1 cq0_1, .slice Aq0_2 nq0_2 cq0_2]) x0 (1) w12 Oq0.out (by omega) (by omega)).mono ?_; rintro e w13 ⟨rfl, ow, ch⟩
      clear ba0l ba00 ba01 ba02 bq0l bq00 bq01 bq02
      replace Ow0 := Lib.hid (spI.own_chg Ow0.out ch Dw0_q0.out)
      replace Oq1 := Lib.hid (spI.own_chg Oq1.out ch (fun k g1 g2 => Dq0_q1.out k g2 g1))
      replace Og0 := Lib.hid (spI.own_chg Og0.out ch (fun k g1 g2 => Dq0_g0.out k g2 g1))
      replace Ba0 := Ba0.chg ch Na0_q0
      replace Bq0 := Bq0.chg ch Nq0_q0
      replace L := bstepS L L.size Hq0.out ch
      replace Oq0 := Lib.hid ow
      clear ow ch
      have kp0 : 0 ≤ 1 + (spPres.cnt x0 : Int) := by omega
      obtain ⟨ba0l, ba00, ba01, ba02⟩ := Ba0.c3
      obtain ⟨bq0l, bq00, bq01, bq02⟩ := Bq0.c3
      go_wp2_with (fail)
      refine (markI_ok Sq1 uq1 x1 (1 + (spPres.cnt x0 : Int)) w13 Oq1.out (by omega) (by omega)).mono ?_; rintro e w14 ⟨rfl, ow, ch⟩
      clear ba0l ba00 ba01 ba02 bq0l bq00 bq01 bq02
      replace Ow0 := Lib.hid (spI.own_chg Ow0.out ch Dw0_q1.out)
      replace Oq0 := Lib.hid (spPres.own_chg Oq0.out ch Dq0_q1.out)
      replace Og0 := Lib.hid (spI.own_chg Og0.out ch (fun k g1 g2 => Dq1_g0.out k g2 g1))
      replace Ba0 := Ba0.chg ch Na0_q1
      replace Bq0 := Bq0.chg ch Nq0_q1
      replace L := bstepS L L.size Hq1.out ch
      replace Oq1 := Lib.hid ow
      clear ow ch
      have kp1 : 0 ≤ 1 + (spPres.cnt x0 : Int) + (spI.cnt x1 : Int) := by omega
      obtain ⟨ba0l, ba00, ba01, ba02⟩ := Ba0.c3
      obtain ⟨bq0l, bq00, bq01, bq02⟩ := Bq0.c3
      go_wp2_with (fail)
      refine (eqI_ok ug0 uw0 (rCollectStep x0 x1) w14 (spI.own_rd Og0.out) (spI.own_rd Ow0.out)).mono ?_; rintro e w15 ⟨rfl, hb⟩
      clear ba0l ba00 ba01 ba02 bq0l bq00 bq01 bq02
      replace Ow0 := Lib.hid (spI.own_below Ow0.out hb)
      replace Oq0 := Lib.hid (spPres.own_below Oq0.out hb)
      replace Oq1 := Lib.hid (spI.own_below Oq1.out hb)
      replace Og0 := Lib.hid (spI.own_below Og0.out hb)
      replace Ba0 := Ba0.below hb
      replace Bq0 := Bq0.below hb
      replace L := bstep L L.size hb
      clear hb
      obtain ⟨ba0l, ba00, ba01, ba02⟩ := Ba0.c3
      go_wp2_with (fail)
      refine (markI_ok Sg0 ug0 (rCollectStep x0 x1) (1) w15 Og0.out (by omega) (by omega)).mono ?_; rintro e w16 ⟨rfl, ow, ch⟩
      clear ba0l ba00 ba01 ba02
      replace Ow0 := Lib.hid (spI.own_chg Ow0.out ch Dw0_g0.out)
      replace Ba0 := Ba0.chg ch Na0_g0
      replace L := bstepS L L.size Hg0.out ch
      replace Og0 := Lib.hid ow
      clear ow ch
      have km : 0 ≤ 1 + (spI.cnt (rCollectStep x0 x1) : Int) := by omega
      obtain ⟨ba0l, ba00, ba01, ba02⟩ := Ba0.c3
      go_wp2_with (fail)
      refine (heldI_ok ug0 (rCollectStep x0 x1) 1 w16 (spI.own_rd Og0.out) (by omega) (by omega)).mono ?_; rintro e w17 ⟨rfl, hb⟩
      clear ba0l ba00 ba01 ba02
      replace Ow0 := Lib.hid (spI.own_below Ow0.out hb)
      replace Og0 := Lib.hid (spI.own_below Og0.out hb)
      replace Ba0 := Ba0.below hb
      replace L := bstep L L.size hb
      clear hb
      obtain ⟨ba0l, ba00, ba01, ba02⟩ := Ba0.c3
      go_wp2_with (fail)
      refine (toPres_ok (.agg #[.slice Aa0_0 na0_0 ca0_0, .slice Aa0_1 na0_1 ca0_1, .slice Aa0_2 na0_2 ca0_2]) x0 w17 (spPres.rd_below RW0.out L) s0').mono ?_; rintro e w18 ⟨ur0, Sr0, rfl, owr0, hSr0, hb⟩
      clear ba0l ba00 ba01 ba02
      have Dw0_r0 : Hid (∀ k, Sw0 k → ¬ Sr0 k) := Lib.hid fun k g1 g2 => by have := spI.own_lt Ow0.out g1; have := hSr0 k g2; omega
      have Dg0_r0 : Hid (∀ k, Sg0 k → ¬ Sr0 k) := Lib.hid fun k g1 g2 => by have := spI.own_lt Og0.out g1; have := hSr0 k g2; omega
      have Na0_r0 : ¬ Sr0 (w.heap.size) := fun g => by have := hSr0 _ g; have := Ba0.lt; omega
      have Hr0 : Hid (∀ k, Sr0 k → w.heap.size ≤ k) := Lib.hid fun k g => by have := hSr0 k g; have := L.size; omega
      replace Ow0 := Lib.hid (spI.own_below Ow0.out hb)
      replace Og0 := Lib.hid (spI.own_below Og0.out hb)
      replace Ba0 := Ba0.below hb
      replace L := bstep L L.size hb
      clear hb hSr0
      obtain ⟨Ar0_0, nr0_0, cr0_0, Ar0_1, nr0_1, cr0_1, Ar0_2, nr0_2, cr0_2, rfl, -, -, -⟩ := spPres_form (spPres.own_rd owr0)
      have Or0 := Lib.hid owr0
      clear owr0
      obtain ⟨ba0l, ba00, ba01, ba02⟩ := Ba0.c3
      go_wp2_with (fail)
      refine (toI_ok (.slice A1 x1.length c1) x1 w18 (spI.rd_below RW1.out L) s1').mono ?_; rintro e w19 ⟨ur1, Sr1, rfl, owr1, hSr1, hb⟩
      clear ba0l ba00 ba01 ba02
      have Dw0_r1 : Hid (∀ k, Sw0 k → ¬ Sr1 k) := Lib.hid fun k g1 g2 => by have := spI.own_lt Ow0.out g1; have := hSr1 k g2; omega
      have Dg0_r1 : Hid (∀ k, Sg0 k → ¬ Sr1 k) := Lib.hid fun k g1 g2 => by have := spI.own_lt Og0.out g1; have := hSr1 k g2; omega
      have Dr0_r1 : Hid (∀ k, Sr0 k → ¬ Sr1 k) := Lib.hid fun k g1 g2 => by have := spPres.own_lt Or0.out g1; have := hSr1 k g2; omega
      have Na0_r1 : ¬ Sr1 (w.heap.size) := fun g => by have := hSr1 _ g; have := Ba0.lt; omega
      have Hr1 : Hid (∀ k, Sr1 k → w.heap.size ≤ k) := Lib.hid fun k g => by have := hSr1 k g; have := L.size; omega
      replace Ow0 := Lib.hid (spI.own_below Ow0.out hb)
      replace Og0 := Lib.hid (spI.own_below Og0.out hb)
      replace Or0 := Lib.hid (spPres.own_below Or0.out hb)
      replace Ba0 := Ba0.below hb
      replace L := bstep L L.size hb
      clear hb hSr1
      have Or1 := Lib.hid owr1
      clear owr1
      obtain ⟨ba0l, ba00, ba01, ba02⟩ := Ba0.c3
      go_wp2_with (fail)
      refine (iCollectStep_ok (.agg #[.slice Ar0_0 nr0_0 cr0_0, .slice Ar0_1 nr0_1 cr0_1, .slice Ar0_2 nr0_2 cr0_2]) x0 ur1 x1 w19 (presC_of Or0.out) (spI.own_rd Or1.out) s0' s1').mono ?_; rintro e w20 ⟨uh0, Sh0, rfl, owh0, hSh0, hcnt, hb⟩
      clear ba0l ba00 ba01 ba02
      clear hcnt
      have Dw0_h0 : Hid (∀ k, Sw0 k → ¬ Sh0 k) := Lib.hid fun k g1 g2 => by have := spI.own_lt Ow0.out g1; have := hSh0 k g2; omega
      have Dg0_h0 : Hid (∀ k, Sg0 k → ¬ Sh0 k) := Lib.hid fun k g1 g2 => by have := spI.own_lt Og0.out g1; have := hSh0 k g2; omega
      have Dr0_h0 : Hid (∀ k, Sr0 k → ¬ Sh0 k) := Lib.hid fun k g1 g2 => by have := spPres.own_lt Or0.out g1; have := hSh0 k g2; omega
      have Dr1_h0 : Hid (∀ k, Sr1 k → ¬ Sh0 k) := Lib.hid fun k g1 g2 => by have := spI.own_lt Or1.out g1; have := hSh0 k g2; omega
      have Na0_h0 : ¬ Sh0 (w.heap.size) := fun g => by have := hSh0 _ g; have := Ba0.lt; omega
      have Hh0 : Hid (∀ k, Sh0 k → w.heap.size ≤ k) := Lib.hid fun k g => by have := hSh0 k g; have := L.size; omega
      replace Ow0 := Lib.hid (spI.own_below Ow0.out hb)
      replace Og0 := Lib.hid (spI.own_below Og0.out hb)
      replace Or0 := Lib.hid (spPres.own_below Or0.out hb)
      replace Or1 := Lib.hid (spI.own_below Or1.out hb)
      replace Ba0 := Ba0.below hb
      replace L := bstep L L.size hb
      clear hb hSh0
      have Oh0 := Lib.hid owh0
      clear owh0
      obtain ⟨ba0l, ba00, ba01, ba02⟩ := Ba0.c3
      go_wp2_with (fail)
      refine (eqI_ok uh0 uw0 (rCollectStep x0 x1) w20 (spI.own_rd Oh0.out) (spI.own_rd Ow0.out)).mono ?_; rintro e w21 ⟨rfl, hb⟩
      clear ba0l ba00 ba01 ba02
      replace Ow0 := Lib.hid (spI.own_below Ow0.out hb)
      replace Og0 := Lib.hid (spI.own_below Og0.out hb)
      replace Oh0 := Lib.hid (spI.own_below Oh0.out hb)
      replace Ba0 := Ba0.below hb
      replace L := bstep L L.size hb
      clear hb
      obtain ⟨ba0l, ba00, ba01, ba02⟩ := Ba0.c3
      go_wp2_with (fail)
      refine (heldI_ok ug0 (rCollectStep x0 x1) 1 w21 (spI.own_rd Og0.out) (by omega) (by omega)).mono ?_; rintro e w22 ⟨rfl, hb⟩
      clear ba0l ba00 ba01 ba02
      replace Ow0 := Lib.hid (spI.own_below Ow0.out hb)
      replace Og0 := Lib.hid (spI.own_below Og0.out hb)
      replace Oh0 := Lib.hid (spI.own_below Oh0.out hb)
      replace Ba0 := Ba0.below hb
      replace L := bstep L L.size hb
      clear hb
      obtain ⟨ba0l, ba00, ba01, ba02⟩ := Ba0.c3
      go_wp2_with (fail)
      go_ret
      exact ⟨rfl, L⟩
    · obtain ⟨ba0l, ba00, ba01, ba02⟩ := Ba0.c3
      have HC := Lib.hid (szPres_ok (.agg #[.slice Aa0_0 na0_0 ca0_0, .slice Aa0_1 na0_1 ca0_1, .slice Aa0_2 na0_2 ca0_2]) x0 (1048576) (w.alloc (.cells [.slice Aa0_0 na0_0 ca0_0, .slice Aa0_1 na0_1 ca0_1, .slice Aa0_2 na0_2 ca0_2].toArray 47)) (spPres.rd_below RW0.out L) (by omega) (by omega))
      rw [szLeft_no (n := spPres.sz x0) (left := 1048576) (by omega)] at HC
      go_enter Try.func9, Try.ntmps9
      go_wp2_with (fail)
      refine HC.out.mono ?_; rintro e w1 ⟨rfl, hb⟩
      clear ba0l ba00 ba01 ba02
      clear HC
      replace Ba0 := Ba0.below hb
      replace L := bstep L L.size hb
      clear hb
      obtain ⟨ba0l, ba00, ba01, ba02⟩ := Ba0.c3
      go_wp2_with (fail)
      go_ret
      exact ⟨rfl, L⟩
  · have s1'' : 1048576 < (x1.length : Int) := by omega
    go_enter Try.func9, Try.ntmps9
    go_wp2_with (fail)
    go_ret
    exact ⟨rfl, L⟩
theorem fnExactCollectStep_walk (v0 : Value) (x0 : Pres) (A1 : Option Addr) (c1 : Nat) (xs1 : List Int) (w : World) (w0 : spPres.rd w v0 x0) (w1 : RdI w A1 xs1 ∧ xs1.length ≤ maxLen) :
    Calls Try.prog 9 #[v0, .slice A1 xs1.length c1] w fun e w' => e = .returned (.bool true) ∧ Below w.heap.size w w' :=
  fnExactCollectStep_run v0 x0 (.slice A1 xs1.length c1) xs1 w w0 ⟨A1, c1, rfl, w1.2, w1.1⟩
end Go.Proofs.Ytahmhdpgdhfjnaa
