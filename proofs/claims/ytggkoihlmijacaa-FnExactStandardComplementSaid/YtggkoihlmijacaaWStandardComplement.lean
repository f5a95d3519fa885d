/- The walk of the exact law of StandardComplement. -/
import Derived.Test.YtggkoihlmijacaaL05C
import Derived.Test.YtggkoihlmijacaaL05D
import Derived.Deep.RegionHeld3
import Derived.Deep.DeepCutAuto
namespace Go.Proofs.Ytggkoihlmijacaa
open Go.RowKit
set_option linter.unusedVariables false
set_option linter.unusedSimpArgs false

set_option maxRecDepth 100000 in
set_option maxHeartbeats 4000000 in
theorem fnExactStandardComplement_run (v0 : Value) (x0 : Mat) (w : World) (h0 : spMat.rd w v0 x0) :
    Calls Try.prog 8 #[v0] w fun e w' => e = .returned (.bool true) ∧ Below w.heap.size w w' := by
  obtain ⟨Aa0_2, na0_2, ca0_2, rfl, -⟩ := spMat_form h0
  have L : Below w.heap.size w (w.alloc (.cells [.int .i64 x0.P, .int .i64 x0.C, .slice Aa0_2 na0_2 ca0_2].toArray 24)) := by go_grown
  have Ba0 : Blk (w.alloc (.cells [.int .i64 x0.P, .int .i64 x0.C, .slice Aa0_2 na0_2 ca0_2].toArray 24)) (w.heap.size) [.int .i64 x0.P, .int .i64 x0.C, .slice Aa0_2 na0_2 ca0_2] 24 := by have := Blk.new w [.int .i64 x0.P, .int .i64 x0.C, .slice Aa0_2 na0_2 ca0_2] 24; simpa only [World.size_alloc] using this
  have RW0 := Lib.hid h0
  clear h0
  by_cases s0 : (spMat.sz x0 : Int) ≤ 1048576
  · have s0' : spMat.sz x0 ≤ 1048576 := by omega
    obtain ⟨ba0l, ba00, ba01, ba02⟩ := Ba0.c3
    have HC := Lib.hid (szMat_ok (.agg #[.int .i64 x0.P, .int .i64 x0.C, .slice Aa0_2 na0_2 ca0_2]) x0 (1048576) (w.alloc (.cells [.int .i64 x0.P, .int .i64 x0.C, .slice Aa0_2 na0_2 ca0_2].toArray 24)) (spMat.rd_below RW0.out L) (by omega) (by omega))
    rw [szLeft_yes (n := spMat.sz x0) (left := 1048576) (by omega)] at HC
    have g0 : 0 ≤ 1048576 - (spMat.sz x0 : Int) := by omega
    have g0' : 1048576 - (spMat.sz x0 : Int) ≤ 1048576 := by omega
    go_enter Try.func8, Try.ntmps8
    go_wp2_with (fail)
    refine HC.out.mono ?_; rintro e w1 ⟨rfl, hb⟩
    clear ba0l ba00 ba01 ba02
    clear HC
    replace Ba0 := Ba0.below hb
    replace L := bstep L L.size hb
    clear hb
    obtain ⟨ba0l, ba00, ba01, ba02⟩ := Ba0.c3
    go_wp2_with (fail)
    refine (toMat_ok (.agg #[.int .i64 x0.P, .int .i64 x0.C, .slice Aa0_2 na0_2 ca0_2]) x0 w1 (spMat.rd_below RW0.out L) s0').mono ?_; rintro e w2 ⟨up0, Sp0, rfl, owp0, hSp0, hb⟩
    clear ba0l ba00 ba01 ba02
    have Na0_p0 : ¬ Sp0 (w.heap.size) := fun g => by have := hSp0 _ g; have := Ba0.lt; omega
    have Hp0 : Hid (∀ k, Sp0 k → w.heap.size ≤ k) := Lib.hid fun k g => by have := hSp0 k g; have := L.size; omega
    replace Ba0 := Ba0.below hb
    replace L := bstep L L.size hb
    clear hb hSp0
    obtain ⟨Ap0_2, np0_2, cp0_2, rfl, -⟩ := spMat_form (spMat.own_rd owp0)
    have Op0 := Lib.hid owp0
    clear owp0
    obtain ⟨ba0l, ba00, ba01, ba02⟩ := Ba0.c3
    go_wp2_with (fail)
    refine (sStandardComplement_ok (.agg #[.int .i64 x0.P, .int .i64 x0.C, .slice Ap0_2 np0_2 cp0_2]) x0 w2 (spMat.own_rd Op0.out) s0').mono ?_; rintro e w3 ⟨uw0, Sw0, rfl, oww0, hSw0, hcnt, hb⟩
    clear ba0l ba00 ba01 ba02
    clear hcnt
    have Dp0_w0 : Hid (∀ k, Sp0 k → ¬ Sw0 k) := Lib.hid fun k g1 g2 => by have := spMat.own_lt Op0.out g1; have := hSw0 k g2; omega
    have Na0_w0 : ¬ Sw0 (w.heap.size) := fun g => by have := hSw0 _ g; have := Ba0.lt; omega
    have Hw0 : Hid (∀ k, Sw0 k → w.heap.size ≤ k) := Lib.hid fun k g => by have := hSw0 k g; have := L.size; omega
    replace Op0 := Lib.hid (spMat.own_below Op0.out hb)
    replace Ba0 := Ba0.below hb
    replace L := bstep L L.size hb
    clear hb hSw0
    obtain ⟨Aw0_2, nw0_2, cw0_2, rfl, -⟩ := spMat_form (spMat.own_rd oww0)
    have Ow0 := Lib.hid oww0
    clear oww0
    have Bw0 := Blk.new w3 [.int .i64 ((rStandardComplement x0)).P, .int .i64 ((rStandardComplement x0)).C, .slice Aw0_2 nw0_2 cw0_2] 27
    have Nw0_p0 : ¬ Sp0 w3.heap.size := fun g => by have := spMat.own_lt Op0.out g; omega
    have Nw0_w0 : ¬ Sw0 w3.heap.size := fun g => by have := spMat.own_lt Ow0.out g; omega
    have hbx : Below w3.heap.size w3 (w3.alloc (.cells [.int .i64 ((rStandardComplement x0)).P, .int .i64 ((rStandardComplement x0)).C, .slice Aw0_2 nw0_2 cw0_2].toArray 27)) := (Below.refl _ _).alloc (Nat.le_refl _) _
    replace Op0 := Lib.hid (spMat.own_below Op0.out hbx)
    replace Ow0 := Lib.hid (spMat.own_below Ow0.out hbx)
    replace Ba0 := Ba0.below hbx
    replace L := bstep L L.size hbx
    clear hbx
    obtain ⟨ba0l, ba00, ba01, ba02⟩ := Ba0.c3
    obtain ⟨bw0l, bw00, bw01, bw02⟩ := Bw0.c3
    go_wp2_with (fail)
    refine (toMat_ok (.agg #[.int .i64 x0.P, .int .i64 x0.C, .slice Aa0_2 na0_2 ca0_2]) x0 (w3.alloc (.cells [.int .i64 ((rStandardComplement x0)).P, .int .i64 ((rStandardComplement x0)).C, .slice Aw0_2 nw0_2 cw0_2].toArray 27)) (spMat.rd_below RW0.out L) s0').mono ?_; rintro e w4 ⟨uq0, Sq0, rfl, owq0, hSq0, hb⟩
    clear ba0l ba00 ba01 ba02 bw0l bw00 bw01 bw02
    have Dw0_q0 : Hid (∀ k, Sw0 k → ¬ Sq0 k) := Lib.hid fun k g1 g2 => by have := spMat.own_lt Ow0.out g1; have := hSq0 k g2; omega
    have Na0_q0 : ¬ Sq0 (w.heap.size) := fun g => by have := hSq0 _ g; have := Ba0.lt; omega
    have Nw0_q0 : ¬ Sq0 w3.heap.size := fun g => by have := hSq0 _ g; have := Bw0.lt; omega
    have Hq0 : Hid (∀ k, Sq0 k → w.heap.size ≤ k) := Lib.hid fun k g => by have := hSq0 k g; have := L.size; omega
    replace Ow0 := Lib.hid (spMat.own_below Ow0.out hb)
    replace Ba0 := Ba0.below hb
    replace Bw0 := Bw0.below hb
    replace L := bstep L L.size hb
    clear hb hSq0
    obtain ⟨Aq0_2, nq0_2, cq0_2, rfl, -⟩ := spMat_form (spMat.own_rd owq0)
    have Oq0 := Lib.hid owq0
    clear owq0
    have Bq0 := Blk.new w4 [.int .i64 x0.P, .int .i64 x0.C, .slice Aq0_2 nq0_2 cq0_2] 27
    have Nq0_w0 : ¬ Sw0 w4.heap.size := fun g => by have := spMat.own_lt Ow0.out g; omega
    have Nq0_q0 : ¬ Sq0 w4.heap.size := fun g => by have := spMat.own_lt Oq0.out g; omega
    have hbx : Below w4.heap.size w4 (w4.alloc (.cells [.int .i64 x0.P, .int .i64 x0.C, .slice Aq0_2 nq0_2 cq0_2].toArray 27)) := (Below.refl _ _).alloc (Nat.le_refl _) _
    replace Ow0 := Lib.hid (spMat.own_below Ow0.out hbx)
    replace Oq0 := Lib.hid (spMat.own_below Oq0.out hbx)
    replace Ba0 := Ba0.below hbx
    replace Bw0 := Bw0.below hbx
    replace L := bstep L L.size hbx
    clear hbx
    obtain ⟨ba0l, ba00, ba01, ba02⟩ := Ba0.c3
    obtain ⟨bw0l, bw00, bw01, bw02⟩ := Bw0.c3
    obtain ⟨bq0l, bq00, bq01, bq02⟩ := Bq0.c3
    go_wp2_with (fail)
    refine (iStandardComplement_ok (.agg #[.int .i64 x0.P, .int .i64 x0.C, .slice Aq0_2 nq0_2 cq0_2]) x0 (w4.alloc (.cells [.int .i64 x0.P, .int .i64 x0.C, .slice Aq0_2 nq0_2 cq0_2].toArray 27)) (spMat.own_rd Oq0.out) s0').mono ?_; rintro e w5 ⟨ug0, Sg0, rfl, owg0, hSg0, hcnt, hb⟩
    clear ba0l ba00 ba01 ba02 bw0l bw00 bw01 bw02 bq0l bq00 bq01 bq02
    have Dw0_g0 : Hid (∀ k, Sw0 k → ¬ Sg0 k) := Lib.hid fun k g1 g2 => by have := spMat.own_lt Ow0.out g1; have := hSg0 k g2; omega
    have Dq0_g0 : Hid (∀ k, Sq0 k → ¬ Sg0 k) := Lib.hid fun k g1 g2 => by have := spMat.own_lt Oq0.out g1; have := hSg0 k g2; omega
    have Na0_g0 : ¬ Sg0 (w.heap.size) := fun g => by have := hSg0 _ g; have := Ba0.lt; omega
    have Nw0_g0 : ¬ Sg0 w3.heap.size := fun g => by have := hSg0 _ g; have := Bw0.lt; omega
    have Nq0_g0 : ¬ Sg0 w4.heap.size := fun g => by have := hSg0 _ g; have := Bq0.lt; omega
    have Hg0 : Hid (∀ k, Sg0 k → w.heap.size ≤ k) := Lib.hid fun k g => by have := hSg0 k g; have := L.size; omega
    replace Ow0 := Lib.hid (spMat.own_below Ow0.out hb)
    replace Oq0 := Lib.hid (spMat.own_below Oq0.out hb)
    replace Ba0 := Ba0.below hb
    replace Bw0 := Bw0.below hb
    replace Bq0 := Bq0.below hb
    replace L := bstep L L.size hb
    clear hb hSg0
    obtain ⟨Ag0_2, ng0_2, cg0_2, rfl, -⟩ := spMat_form (spMat.own_rd owg0)
    have Og0 := Lib.hid owg0
    clear owg0
    have Bg0 := Blk.new w5 [.int .i64 ((rStandardComplement x0)).P, .int .i64 ((rStandardComplement x0)).C, .slice Ag0_2 ng0_2 cg0_2] 27
    have Ng0_w0 : ¬ Sw0 w5.heap.size := fun g => by have := spMat.own_lt Ow0.out g; omega
    have Ng0_q0 : ¬ Sq0 w5.heap.size := fun g => by have := spMat.own_lt Oq0.out g; omega
    have Ng0_g0 : ¬ Sg0 w5.heap.size := fun g => by have := spMat.own_lt Og0.out g; omega
    have hbx : Below w5.heap.size w5 (w5.alloc (.cells [.int .i64 ((rStandardComplement x0)).P, .int .i64 ((rStandardComplement x0)).C, .slice Ag0_2 ng0_2 cg0_2].toArray 27)) := (Below.refl _ _).alloc (Nat.le_refl _) _
    replace Ow0 := Lib.hid (spMat.own_below Ow0.out hbx)
    replace Oq0 := Lib.hid (spMat.own_below Oq0.out hbx)
    replace Og0 := Lib.hid (spMat.own_below Og0.out hbx)
    replace Ba0 := Ba0.below hbx
    replace Bw0 := Bw0.below hbx
    replace Bq0 := Bq0.below hbx
    replace L := bstep L L.size hbx
    clear hbx
    obtain ⟨ba0l, ba00, ba01, ba02⟩ := Ba0.c3
    obtain ⟨bw0l, bw00, bw01, bw02⟩ := Bw0.c3
    obtain ⟨bq0l, bq00, bq01, bq02⟩ := Bq0.c3
    obtain ⟨bg0l, bg00, bg01, bg02⟩ := Bg0.c3
    go_wp2_with (fail)
    refine (eqMat_ok (.agg #[.int .i64 ((rStandardComplement x0)).P, .int .i64 ((rStandardComplement x0)).C, .slice Ag0_2 ng0_2 cg0_2]) (.agg #[.int .i64 ((rStandardComplement x0)).P, .int .i64 ((rStandardComplement x0)).C, .slice Aw0_2 nw0_2 cw0_2]) (rStandardComplement x0) (w5.alloc (.cells [.int .i64 ((rStandardComplement x0)).P, .int .i64 ((rStandardComplement x0)).C, .slice Ag0_2 ng0_2 cg0_2].toArray 27)) (spMat.own_rd Og0.out) (spMat.own_rd Ow0.out)).mono ?_; rintro e w6 ⟨rfl, hb⟩
    clear ba0l ba00 ba01 ba02 bw0l bw00 bw01 bw02 bq0l bq00 bq01 bq02 bg0l bg00 bg01 bg02
    replace Ow0 := Lib.hid (spMat.own_below Ow0.out hb)
    replace Oq0 := Lib.hid (spMat.own_below Oq0.out hb)
    replace Og0 := Lib.hid (spMat.own_below Og0.out hb)
    replace Ba0 := Ba0.below hb
    replace Bw0 := Bw0.below hb
    replace Bq0 := Bq0.below hb
    replace Bg0 := Bg0.below hb
    replace L := bstep L L.size hb
    clear hb
    obtain ⟨ba0l, ba00, ba01, ba02⟩ := Ba0.c3
    obtain ⟨bw0l, bw00, bw01, bw02⟩ := Bw0.c3
    obtain ⟨bq0l, bq00, bq01, bq02⟩ := Bq0.c3
    obtain ⟨bg0l, bg00, bg01, bg02⟩ := Bg0.c3
    have HT := Lib.hid (toMat_ok (.agg #[.int .i64 x0.P, .int .i64 x0.C, .slice Aa0_2 na0_2 ca0_2]) x0 w6.drew (spMat.rd_drew (spMat.rd_below RW0.out L)) s0')
    go_wp2_with (fail)
    go_region_held3 (fun wx => wx.cell? ⟨w4.heap.size, 0, none⟩ = some (.int .i64 x0.P) ∧ wx.cell? ⟨w4.heap.size, 1, none⟩ = some (.int .i64 x0.C) ∧ wx.cell? ⟨w4.heap.size, 2, none⟩ = some (.slice Aq0_2 nq0_2 cq0_2) ∧ wx.cell? ⟨(w.heap.size), 0, none⟩ = some (.int .i64 x0.P) ∧ wx.cell? ⟨(w.heap.size), 1, none⟩ = some (.int .i64 x0.C) ∧ wx.cell? ⟨(w.heap.size), 2, none⟩ = some (.slice Aa0_2 na0_2 ca0_2)) (first | go_keep | assumption) (first | (go_at_call 15; refine HT.out.mono ?_; rintro e w7 ⟨ut0, St0, rfl, owt0, hSt0, hb⟩; have SM : w7.cell? ⟨w4.heap.size, 0, none⟩ = some (.int .i64 x0.P) ∧ w7.cell? ⟨w4.heap.size, 1, none⟩ = some (.int .i64 x0.C) ∧ w7.cell? ⟨w4.heap.size, 2, none⟩ = some (.slice Aq0_2 nq0_2 cq0_2) ∧ w7.cell? ⟨(w.heap.size), 0, none⟩ = some (.int .i64 x0.P) ∧ w7.cell? ⟨(w.heap.size), 1, none⟩ = some (.int .i64 x0.C) ∧ w7.cell? ⟨(w.heap.size), 2, none⟩ = some (.slice Aa0_2 na0_2 ca0_2) := ⟨(Blk.cell (Bq0.drew.below hb) 0 (by simp)), (Blk.cell (Bq0.drew.below hb) 1 (by simp)), (Blk.cell (Bq0.drew.below hb) 2 (by simp)), (Blk.cell (Ba0.drew.below hb) 0 (by simp)), (Blk.cell (Ba0.drew.below hb) 1 (by simp)), (Blk.cell (Ba0.drew.below hb) 2 (by simp))⟩) | (go_at_call 17; refine (eqMat_ok (.agg #[.int .i64 x0.P, .int .i64 x0.C, .slice Aq0_2 nq0_2 cq0_2]) _ x0 _ (spMat.rd_below (spMat.rd_drew (spMat.own_rd Oq0.out)) hb) (spMat.own_rd owt0)).mono ?_; rintro e w8 ⟨rfl, hb2⟩; have SM2 : w8.cell? ⟨w4.heap.size, 0, none⟩ = some (.int .i64 x0.P) ∧ w8.cell? ⟨w4.heap.size, 1, none⟩ = some (.int .i64 x0.C) ∧ w8.cell? ⟨w4.heap.size, 2, none⟩ = some (.slice Aq0_2 nq0_2 cq0_2) ∧ w8.cell? ⟨(w.heap.size), 0, none⟩ = some (.int .i64 x0.P) ∧ w8.cell? ⟨(w.heap.size), 1, none⟩ = some (.int .i64 x0.C) ∧ w8.cell? ⟨(w.heap.size), 2, none⟩ = some (.slice Aa0_2 na0_2 ca0_2) := ⟨(Blk.cell ((Bq0.drew.below hb).below hb2) 0 (by simp)), (Blk.cell ((Bq0.drew.below hb).below hb2) 1 (by simp)), (Blk.cell ((Bq0.drew.below hb).below hb2) 2 (by simp)), (Blk.cell ((Ba0.drew.below hb).below hb2) 0 (by simp)), (Blk.cell ((Ba0.drew.below hb).below hb2) 1 (by simp)), (Blk.cell ((Ba0.drew.below hb).below hb2) 2 (by simp))⟩))
    clear ba0l ba00 ba01 ba02 bw0l bw00 bw01 bw02 bq0l bq00 bq01 bq02 bg0l bg00 bg01 bg02
    have hd : Below w6.heap.size w6 w6.drew := (Below.refl _ _).drew
    replace Ow0 := Lib.hid (spMat.own_below Ow0.out hd)
    replace Oq0 := Lib.hid (spMat.own_below Oq0.out hd)
    replace Og0 := Lib.hid (spMat.own_below Og0.out hd)
    replace Ba0 := Ba0.below hd
    replace Bw0 := Bw0.below hd
    replace Bq0 := Bq0.below hd
    replace Bg0 := Bg0.below hd
    replace L := bstep L L.size hd
    replace Ow0 := Lib.hid (spMat.own_below Ow0.out hb)
    replace Oq0 := Lib.hid (spMat.own_below Oq0.out hb)
    replace Og0 := Lib.hid (spMat.own_below Og0.out hb)
    replace Ba0 := Ba0.below hb
    replace Bw0 := Bw0.below hb
    replace Bq0 := Bq0.below hb
    replace Bg0 := Bg0.below hb
    replace L := bstep L L.size hb
    replace Ow0 := Lib.hid (spMat.own_below Ow0.out hb2)
    replace Oq0 := Lib.hid (spMat.own_below Oq0.out hb2)
    replace Og0 := Lib.hid (spMat.own_below Og0.out hb2)
    replace Ba0 := Ba0.below hb2
    replace Bw0 := Bw0.below hb2
    replace Bq0 := Bq0.below hb2
    replace Bg0 := Bg0.below hb2
    replace L := bstep L L.size hb2
    clear hd hb hb2 HT SM SM2 owt0 hSt0
    have e0 := spMat_cnt x0
    obtain ⟨ba0l, ba00, ba01, ba02⟩ := Ba0.c3
    obtain ⟨bw0l, bw00, bw01, bw02⟩ := Bw0.c3
    obtain ⟨bq0l, bq00, bq01, bq02⟩ := Bq0.c3
    obtain ⟨bg0l, bg00, bg01, bg02⟩ := Bg0.c3
    go_wp2_with (fail)
    refine (markMat_ok Sq0 (.agg #[.int .i64 x0.P, .int .i64 x0.C, .slice Aq0_2 nq0_2 cq0_2]) x0 (1) w8 Oq0.out (by omega) (by omega)).mono ?_; rintro e w9 ⟨rfl, ow, ch⟩
    clear ba0l ba00 ba01 ba02 bw0l bw00 bw01 bw02 bq0l bq00 bq01 bq02 bg0l bg00 bg01 bg02
    replace Ow0 := Lib.hid (spMat.own_chg Ow0.out ch Dw0_q0.out)
    replace Og0 := Lib.hid (spMat.own_chg Og0.out ch (fun k g1 g2 => Dq0_g0.out k g2 g1))
    replace Ba0 := Ba0.chg ch Na0_q0
    replace Bw0 := Bw0.chg ch Nw0_q0
    replace Bq0 := Bq0.chg ch Nq0_q0
    replace Bg0 := Bg0.chg ch Ng0_q0
    replace L := bstepS L L.size Hq0.out ch
    replace Oq0 := Lib.hid ow
    clear ow ch
    have kp0 : 0 ≤ 1 + (spMat.cnt x0 : Int) := by omega
    obtain ⟨ba0l, ba00, ba01, ba02⟩ := Ba0.c3
    obtain ⟨bw0l, bw00, bw01, bw02⟩ := Bw0.c3
    obtain ⟨bq0l, bq00, bq01, bq02⟩ := Bq0.c3
    obtain ⟨bg0l, bg00, bg01, bg02⟩ := Bg0.c3
    go_wp2_with (fail)
    refine (eqMat_ok (.agg #[.int .i64 ((rStandardComplement x0)).P, .int .i64 ((rStandardComplement x0)).C, .slice Ag0_2 ng0_2 cg0_2]) (.agg #[.int .i64 ((rStandardComplement x0)).P, .int .i64 ((rStandardComplement x0)).C, .slice Aw0_2 nw0_2 cw0_2]) (rStandardComplement x0) w9 (spMat.own_rd Og0.out) (spMat.own_rd Ow0.out)).mono ?_; rintro e w10 ⟨rfl, hb⟩
    clear ba0l ba00 ba01 ba02 bw0l bw00 bw01 bw02 bq0l bq00 bq01 bq02 bg0l bg00 bg01 bg02
    replace Ow0 := Lib.hid (spMat.own_below Ow0.out hb)
    replace Oq0 := Lib.hid (spMat.own_below Oq0.out hb)
    replace Og0 := Lib.hid (spMat.own_below Og0.out hb)
    replace Ba0 := Ba0.below hb
    replace Bw0 := Bw0.below hb
    replace Bq0 := Bq0.below hb
    replace Bg0 := Bg0.below hb
    replace L := bstep L L.size hb
    clear hb
    obtain ⟨ba0l, ba00, ba01, ba02⟩ := Ba0.c3
    obtain ⟨bw0l, bw00, bw01, bw02⟩ := Bw0.c3
    obtain ⟨bg0l, bg00, bg01, bg02⟩ := Bg0.c3
    go_wp2_with (fail)
    refine (markMat_ok Sg0 (.agg #[.int .i64 ((rStandardComplement x0)).P, .int .i64 ((rStandardComplement x0)).C, .slice Ag0_2 ng0_2 cg0_2]) (rStandardComplement x0) (1) w10 Og0.out (by omega) (by omega)).mono ?_; rintro e w11 ⟨rfl, ow, ch⟩
    clear ba0l ba00 ba01 ba02 bw0l bw00 bw01 bw02 bg0l bg00 bg01 bg02
    replace Ow0 := Lib.hid (spMat.own_chg Ow0.out ch Dw0_g0.out)
    replace Ba0 := Ba0.chg ch Na0_g0
    replace Bw0 := Bw0.chg ch Nw0_g0
    replace Bg0 := Bg0.chg ch Ng0_g0
    replace L := bstepS L L.size Hg0.out ch
    replace Og0 := Lib.hid ow
    clear ow ch
    have km : 0 ≤ 1 + (spMat.cnt (rStandardComplement x0) : Int) := by omega
    obtain ⟨ba0l, ba00, ba01, ba02⟩ := Ba0.c3
    obtain ⟨bw0l, bw00, bw01, bw02⟩ := Bw0.c3
    obtain ⟨bg0l, bg00, bg01, bg02⟩ := Bg0.c3
    go_wp2_with (fail)
    refine (heldMat_ok (.agg #[.int .i64 ((rStandardComplement x0)).P, .int .i64 ((rStandardComplement x0)).C, .slice Ag0_2 ng0_2 cg0_2]) (rStandardComplement x0) 1 w11 (spMat.own_rd Og0.out) (by omega) (by omega)).mono ?_; rintro e w12 ⟨rfl, hb⟩
    clear ba0l ba00 ba01 ba02 bw0l bw00 bw01 bw02 bg0l bg00 bg01 bg02
    replace Ow0 := Lib.hid (spMat.own_below Ow0.out hb)
    replace Og0 := Lib.hid (spMat.own_below Og0.out hb)
    replace Ba0 := Ba0.below hb
    replace Bw0 := Bw0.below hb
    replace Bg0 := Bg0.below hb
    replace L := bstep L L.size hb
    clear hb
    obtain ⟨ba0l, ba00, ba01, ba02⟩ := Ba0.c3
    obtain ⟨bw0l, bw00, bw01, bw02⟩ := Bw0.c3
    obtain ⟨bg0l, bg00, bg01, bg02⟩ := Bg0.c3
    go_wp2_with (fail)
    refine (toMat_ok (.agg #[.int .i64 x0.P, .int .i64 x0.C, .slice Aa0_2 na0_2 ca0_2]) x0 w12 (spMat.rd_below RW0.out L) s0').mono ?_; rintro e w13 ⟨ur0, Sr0, rfl, owr0, hSr0, hb⟩
    clear ba0l ba00 ba01 ba02 bw0l bw00 bw01 bw02 bg0l bg00 bg01 bg02
    have Dw0_r0 : Hid (∀ k, Sw0 k → ¬ Sr0 k) := Lib.hid fun k g1 g2 => by have := spMat.own_lt Ow0.out g1; have := hSr0 k g2; omega
    have Dg0_r0 : Hid (∀ k, Sg0 k → ¬ Sr0 k) := Lib.hid fun k g1 g2 => by have := spMat.own_lt Og0.out g1; have := hSr0 k g2; omega
    have Na0_r0 : ¬ Sr0 (w.heap.size) := fun g => by have := hSr0 _ g; have := Ba0.lt; omega
    have Nw0_r0 : ¬ Sr0 w3.heap.size := fun g => by have := hSr0 _ g; have := Bw0.lt; omega
    have Ng0_r0 : ¬ Sr0 w5.heap.size := fun g => by have := hSr0 _ g; have := Bg0.lt; omega
    have Hr0 : Hid (∀ k, Sr0 k → w.heap.size ≤ k) := Lib.hid fun k g => by have := hSr0 k g; have := L.size; omega
    replace Ow0 := Lib.hid (spMat.own_below Ow0.out hb)
    replace Og0 := Lib.hid (spMat.own_below Og0.out hb)
    replace Ba0 := Ba0.below hb
    replace Bw0 := Bw0.below hb
    replace Bg0 := Bg0.below hb
    replace L := bstep L L.size hb
    clear hb hSr0
    obtain ⟨Ar0_2, nr0_2, cr0_2, rfl, -⟩ := spMat_form (spMat.own_rd owr0)
    have Or0 := Lib.hid owr0
    clear owr0
    obtain ⟨ba0l, ba00, ba01, ba02⟩ := Ba0.c3
    obtain ⟨bw0l, bw00, bw01, bw02⟩ := Bw0.c3
    obtain ⟨bg0l, bg00, bg01, bg02⟩ := Bg0.c3
    go_wp2_with (fail)
    refine (iStandardComplement_ok (.agg #[.int .i64 x0.P, .int .i64 x0.C, .slice Ar0_2 nr0_2 cr0_2]) x0 w13 (spMat.own_rd Or0.out) s0').mono ?_; rintro e w14 ⟨uh0, Sh0, rfl, owh0, hSh0, hcnt, hb⟩
    clear ba0l ba00 ba01 ba02 bw0l bw00 bw01 bw02 bg0l bg00 bg01 bg02
    clear hcnt
    have Dw0_h0 : Hid (∀ k, Sw0 k → ¬ Sh0 k) := Lib.hid fun k g1 g2 => by have := spMat.own_lt Ow0.out g1; have := hSh0 k g2; omega
    have Dg0_h0 : Hid (∀ k, Sg0 k → ¬ Sh0 k) := Lib.hid fun k g1 g2 => by have := spMat.own_lt Og0.out g1; have := hSh0 k g2; omega
    have Dr0_h0 : Hid (∀ k, Sr0 k → ¬ Sh0 k) := Lib.hid fun k g1 g2 => by have := spMat.own_lt Or0.out g1; have := hSh0 k g2; omega
    have Na0_h0 : ¬ Sh0 (w.heap.size) := fun g => by have := hSh0 _ g; have := Ba0.lt; omega
    have Nw0_h0 : ¬ Sh0 w3.heap.size := fun g => by have := hSh0 _ g; have := Bw0.lt; omega
    have Ng0_h0 : ¬ Sh0 w5.heap.size := fun g => by have := hSh0 _ g; have := Bg0.lt; omega
    have Hh0 : Hid (∀ k, Sh0 k → w.heap.size ≤ k) := Lib.hid fun k g => by have := hSh0 k g; have := L.size; omega
    replace Ow0 := Lib.hid (spMat.own_below Ow0.out hb)
    replace Og0 := Lib.hid (spMat.own_below Og0.out hb)
    replace Or0 := Lib.hid (spMat.own_below Or0.out hb)
    replace Ba0 := Ba0.below hb
    replace Bw0 := Bw0.below hb
    replace Bg0 := Bg0.below hb
    replace L := bstep L L.size hb
    clear hb hSh0
    obtain ⟨Ah0_2, nh0_2, ch0_2, rfl, -⟩ := spMat_form (spMat.own_rd owh0)
    have Oh0 := Lib.hid owh0
    clear owh0
    have Bh0 := Blk.new w14 [.int .i64 ((rStandardComplement x0)).P, .int .i64 ((rStandardComplement x0)).C, .slice Ah0_2 nh0_2 ch0_2] 27
    have Nh0_w0 : ¬ Sw0 w14.heap.size := fun g => by have := spMat.own_lt Ow0.out g; omega
    have Nh0_g0 : ¬ Sg0 w14.heap.size := fun g => by have := spMat.own_lt Og0.out g; omega
    have Nh0_r0 : ¬ Sr0 w14.heap.size := fun g => by have := spMat.own_lt Or0.out g; omega
    have Nh0_h0 : ¬ Sh0 w14.heap.size := fun g => by have := spMat.own_lt Oh0.out g; omega
    have hbx : Below w14.heap.size w14 (w14.alloc (.cells [.int .i64 ((rStandardComplement x0)).P, .int .i64 ((rStandardComplement x0)).C, .slice Ah0_2 nh0_2 ch0_2].toArray 27)) := (Below.refl _ _).alloc (Nat.le_refl _) _
    replace Ow0 := Lib.hid (spMat.own_below Ow0.out hbx)
    replace Og0 := Lib.hid (spMat.own_below Og0.out hbx)
    replace Or0 := Lib.hid (spMat.own_below Or0.out hbx)
    replace Oh0 := Lib.hid (spMat.own_below Oh0.out hbx)
    replace Ba0 := Ba0.below hbx
    replace Bw0 := Bw0.below hbx
    replace Bg0 := Bg0.below hbx
    replace L := bstep L L.size hbx
    clear hbx
    obtain ⟨ba0l, ba00, ba01, ba02⟩ := Ba0.c3
    obtain ⟨bw0l, bw00, bw01, bw02⟩ := Bw0.c3
    obtain ⟨bg0l, bg00, bg01, bg02⟩ := Bg0.c3
    obtain ⟨bh0l, bh00, bh01, bh02⟩ := Bh0.c3
    go_wp2_with (fail)
    refine (eqMat_ok (.agg #[.int .i64 ((rStandardComplement x0)).P, .int .i64 ((rStandardComplement x0)).C, .slice Ah0_2 nh0_2 ch0_2]) (.agg #[.int .i64 ((rStandardComplement x0)).P, .int .i64 ((rStandardComplement x0)).C, .slice Aw0_2 nw0_2 cw0_2]) (rStandardComplement x0) (w14.alloc (.cells [.int .i64 ((rStandardComplement x0)).P, .int .i64 ((rStandardComplement x0)).C, .slice Ah0_2 nh0_2 ch0_2].toArray 27)) (spMat.own_rd Oh0.out) (spMat.own_rd Ow0.out)).mono ?_; rintro e w15 ⟨rfl, hb⟩
    clear ba0l ba00 ba01 ba02 bw0l bw00 bw01 bw02 bg0l bg00 bg01 bg02 bh0l bh00 bh01 bh02
    replace Ow0 := Lib.hid (spMat.own_below Ow0.out hb)
    replace Og0 := Lib.hid (spMat.own_below Og0.out hb)
    replace Oh0 := Lib.hid (spMat.own_below Oh0.out hb)
    replace Ba0 := Ba0.below hb
    replace Bw0 := Bw0.below hb
    replace Bg0 := Bg0.below hb
    replace Bh0 := Bh0.below hb
    replace L := bstep L L.size hb
    clear hb
    obtain ⟨ba0l, ba00, ba01, ba02⟩ := Ba0.c3
    obtain ⟨bw0l, bw00, bw01, bw02⟩ := Bw0.c3
    obtain ⟨bg0l, bg00, bg01, bg02⟩ := Bg0.c3
    obtain ⟨bh0l, bh00, bh01, bh02⟩ := Bh0.c3
    go_wp2_with (fail)
    refine (heldMat_ok (.agg #[.int .i64 ((rStandardComplement x0)).P, .int .i64 ((rStandardComplement x0)).C, .slice Ag0_2 ng0_2 cg0_2]) (rStandardComplement x0) 1 w15 (spMat.own_rd Og0.out) (by omega) (by omega)).mono ?_; rintro e w16 ⟨rfl, hb⟩
    clear ba0l ba00 ba01 ba02 bw0l bw00 bw01 bw02 bg0l bg00 bg01 bg02 bh0l bh00 bh01 bh02
    replace Ow0 := Lib.hid (spMat.own_below Ow0.out hb)
    replace Og0 := Lib.hid (spMat.own_below Og0.out hb)
    replace Oh0 := Lib.hid (spMat.own_below Oh0.out hb)
    replace Ba0 := Ba0.below hb
    replace Bw0 := Bw0.below hb
    replace Bg0 := Bg0.below hb
    replace Bh0 := Bh0.below hb
    replace L := bstep L L.size hb
    clear hb
    obtain ⟨ba0l, ba00, ba01, ba02⟩ := Ba0.c3
    obtain ⟨bw0l, bw00, bw01, bw02⟩ := Bw0.c3
    obtain ⟨bg0l, bg00, bg01, bg02⟩ := Bg0.c3
    obtain ⟨bh0l, bh00, bh01, bh02⟩ := Bh0.c3
    go_wp2_with (fail)
    go_ret
    exact ⟨rfl, L⟩
  · obtain ⟨ba0l, ba00, ba01, ba02⟩ := Ba0.c3
    have HC := Lib.hid (szMat_ok (.agg #[.int .i64 x0.P, .int .i64 x0.C, .slice Aa0_2 na0_2 ca0_2]) x0 (1048576) (w.alloc (.cells [.int .i64 x0.P, .int .i64 x0.C, .slice Aa0_2 na0_2 ca0_2].toArray 24)) (spMat.rd_below RW0.out L) (by omega) (by omega))
    rw [szLeft_no (n := spMat.sz x0) (left := 1048576) (by omega)] at HC
    go_enter Try.func8, Try.ntmps8
    go_wp2_with (fail)
    refine HC.out.mono ?_; rintro e w1 ⟨rfl, hb⟩
    clear ba0l ba00 ba01 ba02
    clear HC
    replace Ba0 := Ba0.below hb
    replace L := bstep L L.size hb
    clear hb
    obtain ⟨ba0l, ba00, ba01, ba02⟩ := Ba0.c3
    go_wp2_with (fail)
    go_ret
    exact ⟨rfl, L⟩
theorem fnExactStandardComplement_walk (P0 C0 : Int) (A0 : Option Addr) (c0 : Nat) (xss0 : List (List Int)) (w : World) (w0 : RdII w A0 xss0 ∧ (∀ j, j < xss0.length → (xss0.getD j []).length ≤ maxLen) ∧ xss0.length ≤ maxLen) :
    Calls Try.prog 8 #[.agg #[.int .i64 P0, .int .i64 C0, .slice A0 xss0.length c0]] w fun e w' => e = .returned (.bool true) ∧ Below w.heap.size w w' :=
  fnExactStandardComplement_run (.agg #[.int .i64 P0, .int .i64 C0, .slice A0 xss0.length c0]) ⟨P0, C0, xss0⟩ w (rdMat_of w0)
end Go.Proofs.Ytggkoihlmijacaa
