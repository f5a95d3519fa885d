/- The walk of the exact law of SumAbelian. -/
import Derived.Test.YtndldgmejmephaaL09I
import Derived.Test.YtndldgmejmephaaL09H
import Derived.Deep.RegionHeld3
import Derived.Deep.DeepCutAuto
namespace Go.Proofs.Ytndldgmejmephaa
open Go.RowKit
set_option linter.unusedVariables false
set_option linter.unusedSimpArgs false

set_option maxRecDepth 100000 in
set_option maxHeartbeats 4000000 in
theorem fnExactSumAbelian_run (v0 : Value) (x0 : Ab) (v1 : Value) (x1 : Ab) (w : World) (h0 : spAb.rd w v0 x0) (h1 : spAb.rd w v1 x1) :
    Calls Try.prog 3 #[v0, v1] w fun e w' => e = .returned (.bool true) ∧ Below w.heap.size w w' := by
  obtain ⟨Aa0_0, na0_0, ca0_0, rfl, -⟩ := spAb_form h0
  obtain ⟨Aa1_0, na1_0, ca1_0, rfl, -⟩ := spAb_form h1
  have L : Below w.heap.size w ((w.alloc (.cells [.slice Aa0_0 na0_0 ca0_0, .int .i64 x0.K].toArray 24)).alloc (.cells [.slice Aa1_0 na1_0 ca1_0, .int .i64 x1.K].toArray 24)) := by go_grown
  have Ba0 : Blk ((w.alloc (.cells [.slice Aa0_0 na0_0 ca0_0, .int .i64 x0.K].toArray 24)).alloc (.cells [.slice Aa1_0 na1_0 ca1_0, .int .i64 x1.K].toArray 24)) (w.heap.size) [.slice Aa0_0 na0_0 ca0_0, .int .i64 x0.K] 24 := by have := (Blk.new w [.slice Aa0_0 na0_0 ca0_0, .int .i64 x0.K] 24).alloc (.cells [.slice Aa1_0 na1_0 ca1_0, .int .i64 x1.K].toArray 24); simpa only [World.size_alloc] using this
  have Ba1 : Blk ((w.alloc (.cells [.slice Aa0_0 na0_0 ca0_0, .int .i64 x0.K].toArray 24)).alloc (.cells [.slice Aa1_0 na1_0 ca1_0, .int .i64 x1.K].toArray 24)) (w.heap.size + 1) [.slice Aa1_0 na1_0 ca1_0, .int .i64 x1.K] 24 := by have := Blk.new (w.alloc (.cells [.slice Aa0_0 na0_0 ca0_0, .int .i64 x0.K].toArray 24)) [.slice Aa1_0 na1_0 ca1_0, .int .i64 x1.K] 24; simpa only [World.size_alloc] using this
  have RW0 := Lib.hid h0
  have RW1 := Lib.hid h1
  clear h0 h1
  by_cases s0 : (spAb.sz x0 : Int) ≤ 1048576
  · have s0' : spAb.sz x0 ≤ 1048576 := by omega
    by_cases s1 : (spAb.sz x1 : Int) ≤ 1048576 - (spAb.sz x0 : Int)
    · have s1' : spAb.sz x1 ≤ 1048576 := by omega
      obtain ⟨ba0l, ba00, ba01⟩ := Ba0.c2
      obtain ⟨ba1l, ba10, ba11⟩ := Ba1.c2
      have HC := Lib.hid (szAb_ok (.agg #[.slice Aa0_0 na0_0 ca0_0, .int .i64 x0.K]) x0 (1048576) ((w.alloc (.cells [.slice Aa0_0 na0_0 ca0_0, .int .i64 x0.K].toArray 24)).alloc (.cells [.slice Aa1_0 na1_0 ca1_0, .int .i64 x1.K].toArray 24)) (spAb.rd_below RW0.out L) (by omega) (by omega))
      rw [szLeft_yes (n := spAb.sz x0) (left := 1048576) (by omega)] at HC
      have g0 : 0 ≤ 1048576 - (spAb.sz x0 : Int) := by omega
      have g0' : 1048576 - (spAb.sz x0 : Int) ≤ 1048576 := by omega
      go_enter Try.func3, Try.ntmps3
      go_wp2_with (fail)
      refine HC.out.mono ?_; rintro e w1 ⟨rfl, hb⟩
      clear ba0l ba00 ba01 ba1l ba10 ba11
      clear HC
      replace Ba0 := Ba0.below hb
      replace Ba1 := Ba1.below hb
      replace L := bstep L L.size hb
      clear hb
      obtain ⟨ba0l, ba00, ba01⟩ := Ba0.c2
      obtain ⟨ba1l, ba10, ba11⟩ := Ba1.c2
      have HC := Lib.hid (szAb_ok (.agg #[.slice Aa1_0 na1_0 ca1_0, .int .i64 x1.K]) x1 (1048576 - (spAb.sz x0 : Int)) w1 (spAb.rd_below RW1.out L) (by omega) (by omega))
      rw [szLeft_yes (n := spAb.sz x1) (left := 1048576 - (spAb.sz x0 : Int)) (by omega)] at HC
      have g1 : 0 ≤ 1048576 - (spAb.sz x0 : Int) - (spAb.sz x1 : Int) := by omega
      have g1' : 1048576 - (spAb.sz x0 : Int) - (spAb.sz x1 : Int) ≤ 1048576 := by omega
      go_wp2_with (fail)
      refine HC.out.mono ?_; rintro e w2 ⟨rfl, hb⟩
      clear ba0l ba00 ba01 ba1l ba10 ba11
      clear HC
      replace Ba0 := Ba0.below hb
      replace Ba1 := Ba1.below hb
      replace L := bstep L L.size hb
      clear hb
      obtain ⟨ba0l, ba00, ba01⟩ := Ba0.c2
      obtain ⟨ba1l, ba10, ba11⟩ := Ba1.c2
      have KC0 : Hid (∀ W', Below w2.heap.size w2 W' → Calls Try.prog 13 #[(.agg #[.slice Aa0_0 na0_0 ca0_0, .int .i64 x0.K])] W' (Made spAb x0 W')) := Lib.hid fun W' hW => toOk_c toAb_ok (.agg #[.slice Aa0_0 na0_0 ca0_0, .int .i64 x0.K]) x0 W' (spAb.rd_below (spAb.rd_below RW0.out L) hW) s0'
      have KC1 : Hid (∀ W', Below w2.heap.size w2 W' → Calls Try.prog 13 #[(.agg #[.slice Aa1_0 na1_0 ca1_0, .int .i64 x1.K])] W' (Made spAb x1 W')) := Lib.hid fun W' hW => toOk_c toAb_ok (.agg #[.slice Aa1_0 na1_0 ca1_0, .int .i64 x1.K]) x1 W' (spAb.rd_below (spAb.rd_below RW1.out L) hW) s1'
      have KF : Hid (∀ (W' : World) (ua ub : Value), spAb.rd W' ua x0 → spAb.rd W' ub x1 → Calls Try.prog 12 #[ua, ub] W' (MadeC spAb (rSumAbelian x0 x1) (cSumAbelian x0 x1) W')) := Lib.hid fun W' ua ub ha hb => sSumAbelian_ok ua x0 ub x1 W' ha hb s0' s1'
      have hszW := L.size
      have ltBa0 := Ba0.lt
      have ltBa1 := Ba1.lt
      go_upto_region 8 with (fail)
      go_cut [6, 7] (fun sB sC wx => ∃ (blk : Nat) (Sw0 : Nat → Prop) (Aw0_0 : Option Addr) (nw0_0 : Nat) (cw0_0 : Nat), sB = .pointer (some ⟨blk, 0, none⟩) ∧ sC = .int .i64 (cSumAbelian x0 x1) ∧ Hid (Below w2.heap.size w2 wx ∧ spAb.own wx Sw0 (.agg #[.slice Aw0_0 nw0_0 cw0_0, .int .i64 (rSumAbelian x0 x1).K]) (rSumAbelian x0 x1) ∧ Blk wx blk [.slice Aw0_0 nw0_0 cw0_0, .int .i64 (rSumAbelian x0 x1).K] 26 ∧ ¬ Sw0 blk ∧ (∀ k, Sw0 k → w2.heap.size ≤ k) ∧ w2.heap.size ≤ blk))
      case first =>
        have LC : Below w2.heap.size w2 w2 := Below.refl _ _
        go_region_held3 (fun wx => wx.cell? ⟨(w.heap.size), 0, none⟩ = some (.slice Aa0_0 na0_0 ca0_0) ∧ wx.cell? ⟨(w.heap.size), 1, none⟩ = some (.int .i64 x0.K) ∧ wx.cell? ⟨(w.heap.size + 1), 0, none⟩ = some (.slice Aa1_0 na1_0 ca1_0) ∧ wx.cell? ⟨(w.heap.size + 1), 1, none⟩ = some (.int .i64 x1.K)) (first | go_keep | assumption) (first | (go_at_call 13; (first | (with_reducible refine (KC0.out _ (LC)).mono ?_) | (with_reducible refine (KC0.out _ (LC.drew)).mono ?_) | (with_reducible refine (KC0.out _ ((LC.alloc LC.size _))).mono ?_) | (with_reducible refine (KC0.out _ ((LC.alloc LC.size _).drew)).mono ?_) | (with_reducible refine (KC0.out _ ((LC.drew.alloc LC.size _))).mono ?_)); rintro e wa ⟨ua, Sa, rfl, owa, hSa, hba⟩; have LC : Below w2.heap.size w2 wa := (by first | exact bstep (LC) (LC).size hba | exact bstep (LC.drew) (LC.drew).size hba | exact bstep ((LC.alloc LC.size _)) ((LC.alloc LC.size _)).size hba | exact bstep ((LC.alloc LC.size _).drew) ((LC.alloc LC.size _).drew).size hba | exact bstep ((LC.drew.alloc LC.size _)) ((LC.drew.alloc LC.size _)).size hba); have hsa := LC.size; obtain ⟨Aya_0, nya_0, cya_0, rfl, -⟩ := spAb_form (spAb.own_rd owa); have SMa : wa.cell? ⟨(w.heap.size), 0, none⟩ = some (.slice Aa0_0 na0_0 ca0_0) ∧ wa.cell? ⟨(w.heap.size), 1, none⟩ = some (.int .i64 x0.K) ∧ wa.cell? ⟨(w.heap.size + 1), 0, none⟩ = some (.slice Aa1_0 na1_0 ca1_0) ∧ wa.cell? ⟨(w.heap.size + 1), 1, none⟩ = some (.int .i64 x1.K) := ⟨(Blk.cell (Ba0.below LC) 0 (by simp)), (Blk.cell (Ba0.below LC) 1 (by simp)), (Blk.cell (Ba1.below LC) 0 (by simp)), (Blk.cell (Ba1.below LC) 1 (by simp))⟩) | (go_at_call 13; (first | (with_reducible refine (KC1.out _ (LC)).mono ?_) | (with_reducible refine (KC1.out _ (LC.drew)).mono ?_) | (with_reducible refine (KC1.out _ ((LC.alloc LC.size _))).mono ?_) | (with_reducible refine (KC1.out _ ((LC.alloc LC.size _).drew)).mono ?_) | (with_reducible refine (KC1.out _ ((LC.drew.alloc LC.size _))).mono ?_)); rintro e wb ⟨ub, Sb, rfl, owb, hSb, hbb⟩; have LC : Below w2.heap.size w2 wb := (by first | exact bstep (LC) (LC).size hbb | exact bstep (LC.drew) (LC.drew).size hbb | exact bstep ((LC.alloc LC.size _)) ((LC.alloc LC.size _)).size hbb | exact bstep ((LC.alloc LC.size _).drew) ((LC.alloc LC.size _).drew).size hbb | exact bstep ((LC.drew.alloc LC.size _)) ((LC.drew.alloc LC.size _)).size hbb); have hsb := LC.size; obtain ⟨Ayb_0, nyb_0, cyb_0, rfl, -⟩ := spAb_form (spAb.own_rd owb); have SMb : wb.cell? ⟨(w.heap.size), 0, none⟩ = some (.slice Aa0_0 na0_0 ca0_0) ∧ wb.cell? ⟨(w.heap.size), 1, none⟩ = some (.int .i64 x0.K) ∧ wb.cell? ⟨(w.heap.size + 1), 0, none⟩ = some (.slice Aa1_0 na1_0 ca1_0) ∧ wb.cell? ⟨(w.heap.size + 1), 1, none⟩ = some (.int .i64 x1.K) := ⟨(Blk.cell (Ba0.below LC) 0 (by simp)), (Blk.cell (Ba0.below LC) 1 (by simp)), (Blk.cell (Ba1.below LC) 0 (by simp)), (Blk.cell (Ba1.below LC) 1 (by simp))⟩) | (go_at_call 12; (with_reducible refine (KF.out _ _ _ (by first | exact (spAb.own_rd owa) | exact spAb.rd_below (spAb.own_rd owa) hbb | exact spAb.rd_below (spAb.rd_below (spAb.own_rd owa) ((Below.refl _ _).alloc (Nat.le_refl _) _)) hbb | exact spAb.rd_below (spAb.own_rd owa) ((Below.refl _ _).alloc (Nat.le_refl _) _) | exact spAb.rd_below (spAb.rd_below (spAb.own_rd owa) hbb) ((Below.refl _ _).alloc (Nat.le_refl _) _)) (by first | exact (spAb.own_rd owb) | exact spAb.rd_below (spAb.own_rd owb) hba | exact spAb.rd_below (spAb.rd_below (spAb.own_rd owb) ((Below.refl _ _).alloc (Nat.le_refl _) _)) hba | exact spAb.rd_below (spAb.own_rd owb) ((Below.refl _ _).alloc (Nat.le_refl _) _) | exact spAb.rd_below (spAb.rd_below (spAb.own_rd owb) hba) ((Below.refl _ _).alloc (Nat.le_refl _) _))).mono ?_); rintro e wf ⟨uf, Sw0, rfl, owf, hSf, hcntf, hbf⟩; have LC : Below w2.heap.size w2 wf := (by first | exact bstep (LC) (LC).size hbf | exact bstep (LC.drew) (LC.drew).size hbf | exact bstep ((LC.alloc LC.size _)) ((LC.alloc LC.size _)).size hbf | exact bstep ((LC.alloc LC.size _).drew) ((LC.alloc LC.size _).drew).size hbf | exact bstep ((LC.drew.alloc LC.size _)) ((LC.drew.alloc LC.size _)).size hbf); obtain ⟨Aw0_0, nw0_0, cw0_0, rfl, -⟩ := spAb_form (spAb.own_rd owf); have SMf : wf.cell? ⟨(w.heap.size), 0, none⟩ = some (.slice Aa0_0 na0_0 ca0_0) ∧ wf.cell? ⟨(w.heap.size), 1, none⟩ = some (.int .i64 x0.K) ∧ wf.cell? ⟨(w.heap.size + 1), 0, none⟩ = some (.slice Aa1_0 na1_0 ca1_0) ∧ wf.cell? ⟨(w.heap.size + 1), 1, none⟩ = some (.int .i64 x1.K) := ⟨(Blk.cell (Ba0.below LC) 0 (by simp)), (Blk.cell (Ba0.below LC) 1 (by simp)), (Blk.cell (Ba1.below LC) 0 (by simp)), (Blk.cell (Ba1.below LC) 1 (by simp))⟩; (try (first | (have BX : Blk wf w2.heap.size [.slice none 0 0, .int .i64 0] 26 := ((((Blk.new w2 [.slice none 0 0, .int .i64 0] 26).drew).below hba).below hbb).below hbf; have hB9 : w2.heap.size ≤ w2.heap.size := Nat.le_refl _; obtain ⟨bxl, bx0, bx1⟩ := BX.c2; have fx0 := BX.free 0; have fx1 := BX.free 1; have nzBa0 : ¬ ((w.heap.size) = w2.heap.size) := (fun g => by omega); have nzBa1 : ¬ ((w.heap.size + 1) = w2.heap.size) := (fun g => by omega); have SK9 : ((wf.setCell ⟨w2.heap.size, 0, none⟩ (.slice Aw0_0 nw0_0 cw0_0)).setCell ⟨w2.heap.size, 1, none⟩ (.int .i64 (rSumAbelian x0 x1).K)).cell? ⟨(w.heap.size), 0, none⟩ = some (.slice Aa0_0 na0_0 ca0_0) ∧ ((wf.setCell ⟨w2.heap.size, 0, none⟩ (.slice Aw0_0 nw0_0 cw0_0)).setCell ⟨w2.heap.size, 1, none⟩ (.int .i64 (rSumAbelian x0 x1).K)).cell? ⟨(w.heap.size), 1, none⟩ = some (.int .i64 x0.K) ∧ ((wf.setCell ⟨w2.heap.size, 0, none⟩ (.slice Aw0_0 nw0_0 cw0_0)).setCell ⟨w2.heap.size, 1, none⟩ (.int .i64 (rSumAbelian x0 x1).K)).cell? ⟨(w.heap.size + 1), 0, none⟩ = some (.slice Aa1_0 na1_0 ca1_0) ∧ ((wf.setCell ⟨w2.heap.size, 0, none⟩ (.slice Aw0_0 nw0_0 cw0_0)).setCell ⟨w2.heap.size, 1, none⟩ (.int .i64 (rSumAbelian x0 x1).K)).cell? ⟨(w.heap.size + 1), 1, none⟩ = some (.int .i64 x1.K) := ⟨(Blk.cell (((Ba0.below LC).other (p := ⟨w2.heap.size, 0, none⟩) nzBa0 (.slice Aw0_0 nw0_0 cw0_0)).other (p := ⟨w2.heap.size, 1, none⟩) nzBa0 (.int .i64 (rSumAbelian x0 x1).K)) 0 (by simp)), (Blk.cell (((Ba0.below LC).other (p := ⟨w2.heap.size, 0, none⟩) nzBa0 (.slice Aw0_0 nw0_0 cw0_0)).other (p := ⟨w2.heap.size, 1, none⟩) nzBa0 (.int .i64 (rSumAbelian x0 x1).K)) 1 (by simp)), (Blk.cell (((Ba1.below LC).other (p := ⟨w2.heap.size, 0, none⟩) nzBa1 (.slice Aw0_0 nw0_0 cw0_0)).other (p := ⟨w2.heap.size, 1, none⟩) nzBa1 (.int .i64 (rSumAbelian x0 x1).K)) 0 (by simp)), (Blk.cell (((Ba1.below LC).other (p := ⟨w2.heap.size, 0, none⟩) nzBa1 (.slice Aw0_0 nw0_0 cw0_0)).other (p := ⟨w2.heap.size, 1, none⟩) nzBa1 (.int .i64 (rSumAbelian x0 x1).K)) 1 (by simp))⟩) | (have BX : Blk wf w2.heap.size [.slice none 0 0, .int .i64 0] 26 := (((Blk.new w2 [.slice none 0 0, .int .i64 0] 26).below hba).below hbb).below hbf; have hB9 : w2.heap.size ≤ w2.heap.size := Nat.le_refl _; obtain ⟨bxl, bx0, bx1⟩ := BX.c2; have fx0 := BX.free 0; have fx1 := BX.free 1; have nzBa0 : ¬ ((w.heap.size) = w2.heap.size) := (fun g => by omega); have nzBa1 : ¬ ((w.heap.size + 1) = w2.heap.size) := (fun g => by omega); have SK9 : ((wf.setCell ⟨w2.heap.size, 0, none⟩ (.slice Aw0_0 nw0_0 cw0_0)).setCell ⟨w2.heap.size, 1, none⟩ (.int .i64 (rSumAbelian x0 x1).K)).cell? ⟨(w.heap.size), 0, none⟩ = some (.slice Aa0_0 na0_0 ca0_0) ∧ ((wf.setCell ⟨w2.heap.size, 0, none⟩ (.slice Aw0_0 nw0_0 cw0_0)).setCell ⟨w2.heap.size, 1, none⟩ (.int .i64 (rSumAbelian x0 x1).K)).cell? ⟨(w.heap.size), 1, none⟩ = some (.int .i64 x0.K) ∧ ((wf.setCell ⟨w2.heap.size, 0, none⟩ (.slice Aw0_0 nw0_0 cw0_0)).setCell ⟨w2.heap.size, 1, none⟩ (.int .i64 (rSumAbelian x0 x1).K)).cell? ⟨(w.heap.size + 1), 0, none⟩ = some (.slice Aa1_0 na1_0 ca1_0) ∧ ((wf.setCell ⟨w2.heap.size, 0, none⟩ (.slice Aw0_0 nw0_0 cw0_0)).setCell ⟨w2.heap.size, 1, none⟩ (.int .i64 (rSumAbelian x0 x1).K)).cell? ⟨(w.heap.size + 1), 1, none⟩ = some (.int .i64 x1.K) := ⟨(Blk.cell (((Ba0.below LC).other (p := ⟨w2.heap.size, 0, none⟩) nzBa0 (.slice Aw0_0 nw0_0 cw0_0)).other (p := ⟨w2.heap.size, 1, none⟩) nzBa0 (.int .i64 (rSumAbelian x0 x1).K)) 0 (by simp)), (Blk.cell (((Ba0.below LC).other (p := ⟨w2.heap.size, 0, none⟩) nzBa0 (.slice Aw0_0 nw0_0 cw0_0)).other (p := ⟨w2.heap.size, 1, none⟩) nzBa0 (.int .i64 (rSumAbelian x0 x1).K)) 1 (by simp)), (Blk.cell (((Ba1.below LC).other (p := ⟨w2.heap.size, 0, none⟩) nzBa1 (.slice Aw0_0 nw0_0 cw0_0)).other (p := ⟨w2.heap.size, 1, none⟩) nzBa1 (.int .i64 (rSumAbelian x0 x1).K)) 0 (by simp)), (Blk.cell (((Ba1.below LC).other (p := ⟨w2.heap.size, 0, none⟩) nzBa1 (.slice Aw0_0 nw0_0 cw0_0)).other (p := ⟨w2.heap.size, 1, none⟩) nzBa1 (.int .i64 (rSumAbelian x0 x1).K)) 1 (by simp))⟩) | (have BX : Blk wf w2.heap.size [.slice none 0 0, .int .i64 0] 26 := ((((Blk.new w2 [.slice none 0 0, .int .i64 0] 26).drew).below hbb).below hba).below hbf; have hB9 : w2.heap.size ≤ w2.heap.size := Nat.le_refl _; obtain ⟨bxl, bx0, bx1⟩ := BX.c2; have fx0 := BX.free 0; have fx1 := BX.free 1; have nzBa0 : ¬ ((w.heap.size) = w2.heap.size) := (fun g => by omega); have nzBa1 : ¬ ((w.heap.size + 1) = w2.heap.size) := (fun g => by omega); have SK9 : ((wf.setCell ⟨w2.heap.size, 0, none⟩ (.slice Aw0_0 nw0_0 cw0_0)).setCell ⟨w2.heap.size, 1, none⟩ (.int .i64 (rSumAbelian x0 x1).K)).cell? ⟨(w.heap.size), 0, none⟩ = some (.slice Aa0_0 na0_0 ca0_0) ∧ ((wf.setCell ⟨w2.heap.size, 0, none⟩ (.slice Aw0_0 nw0_0 cw0_0)).setCell ⟨w2.heap.size, 1, none⟩ (.int .i64 (rSumAbelian x0 x1).K)).cell? ⟨(w.heap.size), 1, none⟩ = some (.int .i64 x0.K) ∧ ((wf.setCell ⟨w2.heap.size, 0, none⟩ (.slice Aw0_0 nw0_0 cw0_0)).setCell ⟨w2.heap.size, 1, none⟩ (.int .i64 (rSumAbelian x0 x1).K)).cell? ⟨(w.heap.size + 1), 0, none⟩ = some (.slice Aa1_0 na1_0 ca1_0) ∧ ((wf.setCell ⟨w2.heap.size, 0, none⟩ (.slice Aw0_0 nw0_0 cw0_0)).setCell ⟨w2.heap.size, 1, none⟩ (.int .i64 (rSumAbelian x0 x1).K)).cell? ⟨(w.heap.size + 1), 1, none⟩ = some (.int .i64 x1.K) := ⟨(Blk.cell (((Ba0.below LC).other (p := ⟨w2.heap.size, 0, none⟩) nzBa0 (.slice Aw0_0 nw0_0 cw0_0)).other (p := ⟨w2.heap.size, 1, none⟩) nzBa0 (.int .i64 (rSumAbelian x0 x1).K)) 0 (by simp)), (Blk.cell (((Ba0.below LC).other (p := ⟨w2.heap.size, 0, none⟩) nzBa0 (.slice Aw0_0 nw0_0 cw0_0)).other (p := ⟨w2.heap.size, 1, none⟩) nzBa0 (.int .i64 (rSumAbelian x0 x1).K)) 1 (by simp)), (Blk.cell (((Ba1.below LC).other (p := ⟨w2.heap.size, 0, none⟩) nzBa1 (.slice Aw0_0 nw0_0 cw0_0)).other (p := ⟨w2.heap.size, 1, none⟩) nzBa1 (.int .i64 (rSumAbelian x0 x1).K)) 0 (by simp)), (Blk.cell (((Ba1.below LC).other (p := ⟨w2.heap.size, 0, none⟩) nzBa1 (.slice Aw0_0 nw0_0 cw0_0)).other (p := ⟨w2.heap.size, 1, none⟩) nzBa1 (.int .i64 (rSumAbelian x0 x1).K)) 1 (by simp))⟩) | (have BX : Blk wf w2.heap.size [.slice none 0 0, .int .i64 0] 26 := (((Blk.new w2 [.slice none 0 0, .int .i64 0] 26).below hbb).below hba).below hbf; have hB9 : w2.heap.size ≤ w2.heap.size := Nat.le_refl _; obtain ⟨bxl, bx0, bx1⟩ := BX.c2; have fx0 := BX.free 0; have fx1 := BX.free 1; have nzBa0 : ¬ ((w.heap.size) = w2.heap.size) := (fun g => by omega); have nzBa1 : ¬ ((w.heap.size + 1) = w2.heap.size) := (fun g => by omega); have SK9 : ((wf.setCell ⟨w2.heap.size, 0, none⟩ (.slice Aw0_0 nw0_0 cw0_0)).setCell ⟨w2.heap.size, 1, none⟩ (.int .i64 (rSumAbelian x0 x1).K)).cell? ⟨(w.heap.size), 0, none⟩ = some (.slice Aa0_0 na0_0 ca0_0) ∧ ((wf.setCell ⟨w2.heap.size, 0, none⟩ (.slice Aw0_0 nw0_0 cw0_0)).setCell ⟨w2.heap.size, 1, none⟩ (.int .i64 (rSumAbelian x0 x1).K)).cell? ⟨(w.heap.size), 1, none⟩ = some (.int .i64 x0.K) ∧ ((wf.setCell ⟨w2.heap.size, 0, none⟩ (.slice Aw0_0 nw0_0 cw0_0)).setCell ⟨w2.heap.size, 1, none⟩ (.int .i64 (rSumAbelian x0 x1).K)).cell? ⟨(w.heap.size + 1), 0, none⟩ = some (.slice Aa1_0 na1_0 ca1_0) ∧ ((wf.setCell ⟨w2.heap.size, 0, none⟩ (.slice Aw0_0 nw0_0 cw0_0)).setCell ⟨w2.heap.size, 1, none⟩ (.int .i64 (rSumAbelian x0 x1).K)).cell? ⟨(w.heap.size + 1), 1, none⟩ = some (.int .i64 x1.K) := ⟨(Blk.cell (((Ba0.below LC).other (p := ⟨w2.heap.size, 0, none⟩) nzBa0 (.slice Aw0_0 nw0_0 cw0_0)).other (p := ⟨w2.heap.size, 1, none⟩) nzBa0 (.int .i64 (rSumAbelian x0 x1).K)) 0 (by simp)), (Blk.cell (((Ba0.below LC).other (p := ⟨w2.heap.size, 0, none⟩) nzBa0 (.slice Aw0_0 nw0_0 cw0_0)).other (p := ⟨w2.heap.size, 1, none⟩) nzBa0 (.int .i64 (rSumAbelian x0 x1).K)) 1 (by simp)), (Blk.cell (((Ba1.below LC).other (p := ⟨w2.heap.size, 0, none⟩) nzBa1 (.slice Aw0_0 nw0_0 cw0_0)).other (p := ⟨w2.heap.size, 1, none⟩) nzBa1 (.int .i64 (rSumAbelian x0 x1).K)) 0 (by simp)), (Blk.cell (((Ba1.below LC).other (p := ⟨w2.heap.size, 0, none⟩) nzBa1 (.slice Aw0_0 nw0_0 cw0_0)).other (p := ⟨w2.heap.size, 1, none⟩) nzBa1 (.int .i64 (rSumAbelian x0 x1).K)) 1 (by simp))⟩) | (have BX : Blk wf wa.heap.size [.slice none 0 0, .int .i64 0] 26 := ((Blk.new wa [.slice none 0 0, .int .i64 0] 26).below hbb).below hbf; have hB9 : w2.heap.size ≤ wa.heap.size := hsa; obtain ⟨bxl, bx0, bx1⟩ := BX.c2; have fx0 := BX.free 0; have fx1 := BX.free 1; have nzBa0 : ¬ ((w.heap.size) = wa.heap.size) := (fun g => by omega); have nzBa1 : ¬ ((w.heap.size + 1) = wa.heap.size) := (fun g => by omega); have SK9 : ((wf.setCell ⟨wa.heap.size, 0, none⟩ (.slice Aw0_0 nw0_0 cw0_0)).setCell ⟨wa.heap.size, 1, none⟩ (.int .i64 (rSumAbelian x0 x1).K)).cell? ⟨(w.heap.size), 0, none⟩ = some (.slice Aa0_0 na0_0 ca0_0) ∧ ((wf.setCell ⟨wa.heap.size, 0, none⟩ (.slice Aw0_0 nw0_0 cw0_0)).setCell ⟨wa.heap.size, 1, none⟩ (.int .i64 (rSumAbelian x0 x1).K)).cell? ⟨(w.heap.size), 1, none⟩ = some (.int .i64 x0.K) ∧ ((wf.setCell ⟨wa.heap.size, 0, none⟩ (.slice Aw0_0 nw0_0 cw0_0)).setCell ⟨wa.heap.size, 1, none⟩ (.int .i64 (rSumAbelian x0 x1).K)).cell? ⟨(w.heap.size + 1), 0, none⟩ = some (.slice Aa1_0 na1_0 ca1_0) ∧ ((wf.setCell ⟨wa.heap.size, 0, none⟩ (.slice Aw0_0 nw0_0 cw0_0)).setCell ⟨wa.heap.size, 1, none⟩ (.int .i64 (rSumAbelian x0 x1).K)).cell? ⟨(w.heap.size + 1), 1, none⟩ = some (.int .i64 x1.K) := ⟨(Blk.cell (((Ba0.below LC).other (p := ⟨wa.heap.size, 0, none⟩) nzBa0 (.slice Aw0_0 nw0_0 cw0_0)).other (p := ⟨wa.heap.size, 1, none⟩) nzBa0 (.int .i64 (rSumAbelian x0 x1).K)) 0 (by simp)), (Blk.cell (((Ba0.below LC).other (p := ⟨wa.heap.size, 0, none⟩) nzBa0 (.slice Aw0_0 nw0_0 cw0_0)).other (p := ⟨wa.heap.size, 1, none⟩) nzBa0 (.int .i64 (rSumAbelian x0 x1).K)) 1 (by simp)), (Blk.cell (((Ba1.below LC).other (p := ⟨wa.heap.size, 0, none⟩) nzBa1 (.slice Aw0_0 nw0_0 cw0_0)).other (p := ⟨wa.heap.size, 1, none⟩) nzBa1 (.int .i64 (rSumAbelian x0 x1).K)) 0 (by simp)), (Blk.cell (((Ba1.below LC).other (p := ⟨wa.heap.size, 0, none⟩) nzBa1 (.slice Aw0_0 nw0_0 cw0_0)).other (p := ⟨wa.heap.size, 1, none⟩) nzBa1 (.int .i64 (rSumAbelian x0 x1).K)) 1 (by simp))⟩) | (have BX : Blk wf wa.heap.size [.slice none 0 0, .int .i64 0] 26 := (Blk.new wa [.slice none 0 0, .int .i64 0] 26).below hbf; have hB9 : w2.heap.size ≤ wa.heap.size := hsa; obtain ⟨bxl, bx0, bx1⟩ := BX.c2; have fx0 := BX.free 0; have fx1 := BX.free 1; have nzBa0 : ¬ ((w.heap.size) = wa.heap.size) := (fun g => by omega); have nzBa1 : ¬ ((w.heap.size + 1) = wa.heap.size) := (fun g => by omega); have SK9 : ((wf.setCell ⟨wa.heap.size, 0, none⟩ (.slice Aw0_0 nw0_0 cw0_0)).setCell ⟨wa.heap.size, 1, none⟩ (.int .i64 (rSumAbelian x0 x1).K)).cell? ⟨(w.heap.size), 0, none⟩ = some (.slice Aa0_0 na0_0 ca0_0) ∧ ((wf.setCell ⟨wa.heap.size, 0, none⟩ (.slice Aw0_0 nw0_0 cw0_0)).setCell ⟨wa.heap.size, 1, none⟩ (.int .i64 (rSumAbelian x0 x1).K)).cell? ⟨(w.heap.size), 1, none⟩ = some (.int .i64 x0.K) ∧ ((wf.setCell ⟨wa.heap.size, 0, none⟩ (.slice Aw0_0 nw0_0 cw0_0)).setCell ⟨wa.heap.size, 1, none⟩ (.int .i64 (rSumAbelian x0 x1).K)).cell? ⟨(w.heap.size + 1), 0, none⟩ = some (.slice Aa1_0 na1_0 ca1_0) ∧ ((wf.setCell ⟨wa.heap.size, 0, none⟩ (.slice Aw0_0 nw0_0 cw0_0)).setCell ⟨wa.heap.size, 1, none⟩ (.int .i64 (rSumAbelian x0 x1).K)).cell? ⟨(w.heap.size + 1), 1, none⟩ = some (.int .i64 x1.K) := ⟨(Blk.cell (((Ba0.below LC).other (p := ⟨wa.heap.size, 0, none⟩) nzBa0 (.slice Aw0_0 nw0_0 cw0_0)).other (p := ⟨wa.heap.size, 1, none⟩) nzBa0 (.int .i64 (rSumAbelian x0 x1).K)) 0 (by simp)), (Blk.cell (((Ba0.below LC).other (p := ⟨wa.heap.size, 0, none⟩) nzBa0 (.slice Aw0_0 nw0_0 cw0_0)).other (p := ⟨wa.heap.size, 1, none⟩) nzBa0 (.int .i64 (rSumAbelian x0 x1).K)) 1 (by simp)), (Blk.cell (((Ba1.below LC).other (p := ⟨wa.heap.size, 0, none⟩) nzBa1 (.slice Aw0_0 nw0_0 cw0_0)).other (p := ⟨wa.heap.size, 1, none⟩) nzBa1 (.int .i64 (rSumAbelian x0 x1).K)) 0 (by simp)), (Blk.cell (((Ba1.below LC).other (p := ⟨wa.heap.size, 0, none⟩) nzBa1 (.slice Aw0_0 nw0_0 cw0_0)).other (p := ⟨wa.heap.size, 1, none⟩) nzBa1 (.int .i64 (rSumAbelian x0 x1).K)) 1 (by simp))⟩) | (have BX : Blk wf wb.heap.size [.slice none 0 0, .int .i64 0] 26 := ((Blk.new wb [.slice none 0 0, .int .i64 0] 26).below hba).below hbf; have hB9 : w2.heap.size ≤ wb.heap.size := hsb; obtain ⟨bxl, bx0, bx1⟩ := BX.c2; have fx0 := BX.free 0; have fx1 := BX.free 1; have nzBa0 : ¬ ((w.heap.size) = wb.heap.size) := (fun g => by omega); have nzBa1 : ¬ ((w.heap.size + 1) = wb.heap.size) := (fun g => by omega); have SK9 : ((wf.setCell ⟨wb.heap.size, 0, none⟩ (.slice Aw0_0 nw0_0 cw0_0)).setCell ⟨wb.heap.size, 1, none⟩ (.int .i64 (rSumAbelian x0 x1).K)).cell? ⟨(w.heap.size), 0, none⟩ = some (.slice Aa0_0 na0_0 ca0_0) ∧ ((wf.setCell ⟨wb.heap.size, 0, none⟩ (.slice Aw0_0 nw0_0 cw0_0)).setCell ⟨wb.heap.size, 1, none⟩ (.int .i64 (rSumAbelian x0 x1).K)).cell? ⟨(w.heap.size), 1, none⟩ = some (.int .i64 x0.K) ∧ ((wf.setCell ⟨wb.heap.size, 0, none⟩ (.slice Aw0_0 nw0_0 cw0_0)).setCell ⟨wb.heap.size, 1, none⟩ (.int .i64 (rSumAbelian x0 x1).K)).cell? ⟨(w.heap.size + 1), 0, none⟩ = some (.slice Aa1_0 na1_0 ca1_0) ∧ ((wf.setCell ⟨wb.heap.size, 0, none⟩ (.slice Aw0_0 nw0_0 cw0_0)).setCell ⟨wb.heap.size, 1, none⟩ (.int .i64 (rSumAbelian x0 x1).K)).cell? ⟨(w.heap.size + 1), 1, none⟩ = some (.int .i64 x1.K) := ⟨(Blk.cell (((Ba0.below LC).other (p := ⟨wb.heap.size, 0, none⟩) nzBa0 (.slice Aw0_0 nw0_0 cw0_0)).other (p := ⟨wb.heap.size, 1, none⟩) nzBa0 (.int .i64 (rSumAbelian x0 x1).K)) 0 (by simp)), (Blk.cell (((Ba0.below LC).other (p := ⟨wb.heap.size, 0, none⟩) nzBa0 (.slice Aw0_0 nw0_0 cw0_0)).other (p := ⟨wb.heap.size, 1, none⟩) nzBa0 (.int .i64 (rSumAbelian x0 x1).K)) 1 (by simp)), (Blk.cell (((Ba1.below LC).other (p := ⟨wb.heap.size, 0, none⟩) nzBa1 (.slice Aw0_0 nw0_0 cw0_0)).other (p := ⟨wb.heap.size, 1, none⟩) nzBa1 (.int .i64 (rSumAbelian x0 x1).K)) 0 (by simp)), (Blk.cell (((Ba1.below LC).other (p := ⟨wb.heap.size, 0, none⟩) nzBa1 (.slice Aw0_0 nw0_0 cw0_0)).other (p := ⟨wb.heap.size, 1, none⟩) nzBa1 (.int .i64 (rSumAbelian x0 x1).K)) 1 (by simp))⟩) | (have BX : Blk wf wb.heap.size [.slice none 0 0, .int .i64 0] 26 := (Blk.new wb [.slice none 0 0, .int .i64 0] 26).below hbf; have hB9 : w2.heap.size ≤ wb.heap.size := hsb; obtain ⟨bxl, bx0, bx1⟩ := BX.c2; have fx0 := BX.free 0; have fx1 := BX.free 1; have nzBa0 : ¬ ((w.heap.size) = wb.heap.size) := (fun g => by omega); have nzBa1 : ¬ ((w.heap.size + 1) = wb.heap.size) := (fun g => by omega); have SK9 : ((wf.setCell ⟨wb.heap.size, 0, none⟩ (.slice Aw0_0 nw0_0 cw0_0)).setCell ⟨wb.heap.size, 1, none⟩ (.int .i64 (rSumAbelian x0 x1).K)).cell? ⟨(w.heap.size), 0, none⟩ = some (.slice Aa0_0 na0_0 ca0_0) ∧ ((wf.setCell ⟨wb.heap.size, 0, none⟩ (.slice Aw0_0 nw0_0 cw0_0)).setCell ⟨wb.heap.size, 1, none⟩ (.int .i64 (rSumAbelian x0 x1).K)).cell? ⟨(w.heap.size), 1, none⟩ = some (.int .i64 x0.K) ∧ ((wf.setCell ⟨wb.heap.size, 0, none⟩ (.slice Aw0_0 nw0_0 cw0_0)).setCell ⟨wb.heap.size, 1, none⟩ (.int .i64 (rSumAbelian x0 x1).K)).cell? ⟨(w.heap.size + 1), 0, none⟩ = some (.slice Aa1_0 na1_0 ca1_0) ∧ ((wf.setCell ⟨wb.heap.size, 0, none⟩ (.slice Aw0_0 nw0_0 cw0_0)).setCell ⟨wb.heap.size, 1, none⟩ (.int .i64 (rSumAbelian x0 x1).K)).cell? ⟨(w.heap.size + 1), 1, none⟩ = some (.int .i64 x1.K) := ⟨(Blk.cell (((Ba0.below LC).other (p := ⟨wb.heap.size, 0, none⟩) nzBa0 (.slice Aw0_0 nw0_0 cw0_0)).other (p := ⟨wb.heap.size, 1, none⟩) nzBa0 (.int .i64 (rSumAbelian x0 x1).K)) 0 (by simp)), (Blk.cell (((Ba0.below LC).other (p := ⟨wb.heap.size, 0, none⟩) nzBa0 (.slice Aw0_0 nw0_0 cw0_0)).other (p := ⟨wb.heap.size, 1, none⟩) nzBa0 (.int .i64 (rSumAbelian x0 x1).K)) 1 (by simp)), (Blk.cell (((Ba1.below LC).other (p := ⟨wb.heap.size, 0, none⟩) nzBa1 (.slice Aw0_0 nw0_0 cw0_0)).other (p := ⟨wb.heap.size, 1, none⟩) nzBa1 (.int .i64 (rSumAbelian x0 x1).K)) 0 (by simp)), (Blk.cell (((Ba1.below LC).other (p := ⟨wb.heap.size, 0, none⟩) nzBa1 (.slice Aw0_0 nw0_0 cw0_0)).other (p := ⟨wb.heap.size, 1, none⟩) nzBa1 (.int .i64 (rSumAbelian x0 x1).K)) 1 (by simp))⟩)))))
        all_goals
          go_wp2_with (fail)
          go_meet
          first
          | exact ⟨_, Sw0, _, _, _, rfl, rfl, Lib.hid ⟨LC.alloc LC.size _, spAb.own_alloc owf _, Blk.new _ _ _, (fun g => by have := spAb.own_lt owf g; omega), (fun k g => by have h1 := hSf k g; first | omega | (simp at h1; omega)), LC.size⟩⟩
          | (have nS9 : ¬ Sw0 w2.heap.size := (fun g => by have h1 := hSf _ g; first | omega | (simp at h1; omega) | (have h2 := hba.size; simp at h1 h2; omega) | (have h2 := hbb.size; simp at h1 h2; omega) | (have h2 := hba.size; have h3 := hbb.size; simp at h1 h2 h3; omega)); exact ⟨w2.heap.size, Sw0, _, _, _, rfl, rfl, Lib.hid ⟨((LC.setCell (p := ⟨w2.heap.size, 0, none⟩) hB9 (.slice Aw0_0 nw0_0 cw0_0)).setCell (p := ⟨w2.heap.size, 1, none⟩) hB9 (.int .i64 (rSumAbelian x0 x1).K)), (spAb.own_set (spAb.own_set owf (p := ⟨w2.heap.size, 0, none⟩) nS9 (.slice Aw0_0 nw0_0 cw0_0)) (p := ⟨w2.heap.size, 1, none⟩) nS9 (.int .i64 (rSumAbelian x0 x1).K)), ((BX.set 0 (.slice Aw0_0 nw0_0 cw0_0)).set 1 (.int .i64 (rSumAbelian x0 x1).K)), nS9, (fun k g => by have h1 := hSf k g; first | omega | (simp at h1; omega)), hB9⟩⟩)
          | (have nS9 : ¬ Sw0 wa.heap.size := (fun g => by have h1 := hSf _ g; first | omega | (simp at h1; omega) | (have h2 := hba.size; simp at h1 h2; omega) | (have h2 := hbb.size; simp at h1 h2; omega) | (have h2 := hba.size; have h3 := hbb.size; simp at h1 h2 h3; omega)); exact ⟨wa.heap.size, Sw0, _, _, _, rfl, rfl, Lib.hid ⟨((LC.setCell (p := ⟨wa.heap.size, 0, none⟩) hB9 (.slice Aw0_0 nw0_0 cw0_0)).setCell (p := ⟨wa.heap.size, 1, none⟩) hB9 (.int .i64 (rSumAbelian x0 x1).K)), (spAb.own_set (spAb.own_set owf (p := ⟨wa.heap.size, 0, none⟩) nS9 (.slice Aw0_0 nw0_0 cw0_0)) (p := ⟨wa.heap.size, 1, none⟩) nS9 (.int .i64 (rSumAbelian x0 x1).K)), ((BX.set 0 (.slice Aw0_0 nw0_0 cw0_0)).set 1 (.int .i64 (rSumAbelian x0 x1).K)), nS9, (fun k g => by have h1 := hSf k g; first | omega | (simp at h1; omega)), hB9⟩⟩)
          | (have nS9 : ¬ Sw0 wb.heap.size := (fun g => by have h1 := hSf _ g; first | omega | (simp at h1; omega) | (have h2 := hba.size; simp at h1 h2; omega) | (have h2 := hbb.size; simp at h1 h2; omega) | (have h2 := hba.size; have h3 := hbb.size; simp at h1 h2 h3; omega)); exact ⟨wb.heap.size, Sw0, _, _, _, rfl, rfl, Lib.hid ⟨((LC.setCell (p := ⟨wb.heap.size, 0, none⟩) hB9 (.slice Aw0_0 nw0_0 cw0_0)).setCell (p := ⟨wb.heap.size, 1, none⟩) hB9 (.int .i64 (rSumAbelian x0 x1).K)), (spAb.own_set (spAb.own_set owf (p := ⟨wb.heap.size, 0, none⟩) nS9 (.slice Aw0_0 nw0_0 cw0_0)) (p := ⟨wb.heap.size, 1, none⟩) nS9 (.int .i64 (rSumAbelian x0 x1).K)), ((BX.set 0 (.slice Aw0_0 nw0_0 cw0_0)).set 1 (.int .i64 (rSumAbelian x0 x1).K)), nS9, (fun k g => by have h1 := hSf k g; first | omega | (simp at h1; omega)), hB9⟩⟩)
      case rest =>
        clear KC0 KC1 KF hszW ltBa0 ltBa1
        obtain ⟨blk1, Sw0, Aw0_0, nw0_0, cw0_0, rfl, rfl, HH0⟩ := hcut
        obtain ⟨hb9, oww0, BX9, nS9, hSw0, hk9⟩ := HH0.out
        clear HH0
        generalize wc = W1 at *
        clear ba0l ba00 ba01 ba1l ba10 ba11
        have Na0_w0 : ¬ Sw0 (w.heap.size) := fun g => by have := hSw0 _ g; have := Ba0.lt; omega
        have Na1_w0 : ¬ Sw0 (w.heap.size + 1) := fun g => by have := hSw0 _ g; have := Ba1.lt; omega
        have Hw0 : Hid (∀ k, Sw0 k → w.heap.size ≤ k) := Lib.hid fun k g => by have := hSw0 k g; have := L.size; omega
        have Nw0_w0 := nS9
        clear nS9 hk9
        replace Ba0 := Ba0.below hb9
        replace Ba1 := Ba1.below hb9
        replace L := bstep L L.size hb9
        clear hb9 hSw0
        have Ow0 := Lib.hid oww0
        clear oww0
        have Bw0 := BX9
        clear BX9
        obtain ⟨ba0l, ba00, ba01⟩ := Ba0.c2
        obtain ⟨ba1l, ba10, ba11⟩ := Ba1.c2
        obtain ⟨bw0l, bw00, bw01⟩ := Bw0.c2
        go_wp2_with (fail)
        refine (toAb_ok (.agg #[.slice Aa0_0 na0_0 ca0_0, .int .i64 x0.K]) x0 W1 (spAb.rd_below RW0.out L) s0').mono ?_; rintro e w3 ⟨uq0, Sq0, rfl, owq0, hSq0, hb⟩
        clear ba0l ba00 ba01 ba1l ba10 ba11 bw0l bw00 bw01
        have Dw0_q0 : Hid (∀ k, Sw0 k → ¬ Sq0 k) := Lib.hid fun k g1 g2 => by have := spAb.own_lt Ow0.out g1; have := hSq0 k g2; omega
        have Na0_q0 : ¬ Sq0 (w.heap.size) := fun g => by have := hSq0 _ g; have := Ba0.lt; omega
        have Na1_q0 : ¬ Sq0 (w.heap.size + 1) := fun g => by have := hSq0 _ g; have := Ba1.lt; omega
        have Nw0_q0 : ¬ Sq0 blk1 := fun g => by have := hSq0 _ g; have := Bw0.lt; omega
        have Hq0 : Hid (∀ k, Sq0 k → w.heap.size ≤ k) := Lib.hid fun k g => by have := hSq0 k g; have := L.size; omega
        replace Ow0 := Lib.hid (spAb.own_below Ow0.out hb)
        replace Ba0 := Ba0.below hb
        replace Ba1 := Ba1.below hb
        replace Bw0 := Bw0.below hb
        replace L := bstep L L.size hb
        clear hb hSq0
        obtain ⟨Aq0_0, nq0_0, cq0_0, rfl, -⟩ := spAb_form (spAb.own_rd owq0)
        have Oq0 := Lib.hid owq0
        clear owq0
        have Bq0 := Blk.new w3 [.slice Aq0_0 nq0_0 cq0_0, .int .i64 x0.K] 26
        have Nq0_w0 : ¬ Sw0 w3.heap.size := fun g => by have := spAb.own_lt Ow0.out g; omega
        have Nq0_q0 : ¬ Sq0 w3.heap.size := fun g => by have := spAb.own_lt Oq0.out g; omega
        have hbx : Below w3.heap.size w3 (w3.alloc (.cells [.slice Aq0_0 nq0_0 cq0_0, .int .i64 x0.K].toArray 26)) := (Below.refl _ _).alloc (Nat.le_refl _) _
        replace Ow0 := Lib.hid (spAb.own_below Ow0.out hbx)
        replace Oq0 := Lib.hid (spAb.own_below Oq0.out hbx)
        replace Ba0 := Ba0.below hbx
        replace Ba1 := Ba1.below hbx
        replace Bw0 := Bw0.below hbx
        replace L := bstep L L.size hbx
        clear hbx
        obtain ⟨ba0l, ba00, ba01⟩ := Ba0.c2
        obtain ⟨ba1l, ba10, ba11⟩ := Ba1.c2
        obtain ⟨bw0l, bw00, bw01⟩ := Bw0.c2
        obtain ⟨bq0l, bq00, bq01⟩ := Bq0.c2
        go_wp2_with (fail)
        refine (toAb_ok (.agg #[.slice Aa1_0 na1_0 ca1_0, .int .i64 x1.K]) x1 (w3.alloc (.cells [.slice Aq0_0 nq0_0 cq0_0, .int .i64 x0.K].toArray 26)) (spAb.rd_below RW1.out L) s1').mono ?_; rintro e w4 ⟨uq1, Sq1, rfl, owq1, hSq1, hb⟩
        clear ba0l ba00 ba01 ba1l ba10 ba11 bw0l bw00 bw01 bq0l bq00 bq01
        have Dw0_q1 : Hid (∀ k, Sw0 k → ¬ Sq1 k) := Lib.hid fun k g1 g2 => by have := spAb.own_lt Ow0.out g1; have := hSq1 k g2; omega
        have Dq0_q1 : Hid (∀ k, Sq0 k → ¬ Sq1 k) := Lib.hid fun k g1 g2 => by have := spAb.own_lt Oq0.out g1; have := hSq1 k g2; omega
        have Na0_q1 : ¬ Sq1 (w.heap.size) := fun g => by have := hSq1 _ g; have := Ba0.lt; omega
        have Na1_q1 : ¬ Sq1 (w.heap.size + 1) := fun g => by have := hSq1 _ g; have := Ba1.lt; omega
        have Nw0_q1 : ¬ Sq1 blk1 := fun g => by have := hSq1 _ g; have := Bw0.lt; omega
        have Nq0_q1 : ¬ Sq1 w3.heap.size := fun g => by have := hSq1 _ g; have := Bq0.lt; omega
        have Hq1 : Hid (∀ k, Sq1 k → w.heap.size ≤ k) := Lib.hid fun k g => by have := hSq1 k g; have := L.size; omega
        replace Ow0 := Lib.hid (spAb.own_below Ow0.out hb)
        replace Oq0 := Lib.hid (spAb.own_below Oq0.out hb)
        replace Ba0 := Ba0.below hb
        replace Ba1 := Ba1.below hb
        replace Bw0 := Bw0.below hb
        replace Bq0 := Bq0.below hb
        replace L := bstep L L.size hb
        clear hb hSq1
        obtain ⟨Aq1_0, nq1_0, cq1_0, rfl, -⟩ := spAb_form (spAb.own_rd owq1)
        have Oq1 := Lib.hid owq1
        clear owq1
        have Bq1 := Blk.new w4 [.slice Aq1_0 nq1_0 cq1_0, .int .i64 x1.K] 26
        have Nq1_w0 : ¬ Sw0 w4.heap.size := fun g => by have := spAb.own_lt Ow0.out g; omega
        have Nq1_q0 : ¬ Sq0 w4.heap.size := fun g => by have := spAb.own_lt Oq0.out g; omega
        have Nq1_q1 : ¬ Sq1 w4.heap.size := fun g => by have := spAb.own_lt Oq1.out g; omega
        have hbx : Below w4.heap.size w4 (w4.alloc (.cells [.slice Aq1_0 nq1_0 cq1_0, .int .i64 x1.K].toArray 26)) := (Below.refl _ _).alloc (Nat.le_refl _) _
        replace Ow0 := Lib.hid (spAb.own_below Ow0.out hbx)
        replace Oq0 := Lib.hid (spAb.own_below Oq0.out hbx)
        replace Oq1 := Lib.hid (spAb.own_below Oq1.out hbx)
        replace Ba0 := Ba0.below hbx
        replace Ba1 := Ba1.below hbx
        replace Bw0 := Bw0.below hbx
        replace Bq0 := Bq0.below hbx
        replace L := bstep L L.size hbx
        clear hbx
        obtain ⟨ba0l, ba00, ba01⟩ := Ba0.c2
        obtain ⟨ba1l, ba10, ba11⟩ := Ba1.c2
        obtain ⟨bw0l, bw00, bw01⟩ := Bw0.c2
        obtain ⟨bq0l, bq00, bq01⟩ := Bq0.c2
        obtain ⟨bq1l, bq10, bq11⟩ := Bq1.c2
        go_wp2_with (fail)
        refine (iSumAbelian_ok (.agg #[.slice Aq0_0 nq0_0 cq0_0, .int .i64 x0.K]) x0 (.agg #[.slice Aq1_0 nq1_0 cq1_0, .int .i64 x1.K]) x1 (w4.alloc (.cells [.slice Aq1_0 nq1_0 cq1_0, .int .i64 x1.K].toArray 26)) (spAb.own_rd Oq0.out) (spAb.own_rd Oq1.out) s0' s1').mono ?_; rintro e w5 ⟨ug0, Sg0, rfl, owg0, hSg0, hcnt, hb⟩
        clear ba0l ba00 ba01 ba1l ba10 ba11 bw0l bw00 bw01 bq0l bq00 bq01 bq1l bq10 bq11
        have Dw0_g0 : Hid (∀ k, Sw0 k → ¬ Sg0 k) := Lib.hid fun k g1 g2 => by have := spAb.own_lt Ow0.out g1; have := hSg0 k g2; omega
        have Dq0_g0 : Hid (∀ k, Sq0 k → ¬ Sg0 k) := Lib.hid fun k g1 g2 => by have := spAb.own_lt Oq0.out g1; have := hSg0 k g2; omega
        have Dq1_g0 : Hid (∀ k, Sq1 k → ¬ Sg0 k) := Lib.hid fun k g1 g2 => by have := spAb.own_lt Oq1.out g1; have := hSg0 k g2; omega
        have Na0_g0 : ¬ Sg0 (w.heap.size) := fun g => by have := hSg0 _ g; have := Ba0.lt; omega
        have Na1_g0 : ¬ Sg0 (w.heap.size + 1) := fun g => by have := hSg0 _ g; have := Ba1.lt; omega
        have Nw0_g0 : ¬ Sg0 blk1 := fun g => by have := hSg0 _ g; have := Bw0.lt; omega
        have Nq0_g0 : ¬ Sg0 w3.heap.size := fun g => by have := hSg0 _ g; have := Bq0.lt; omega
        have Nq1_g0 : ¬ Sg0 w4.heap.size := fun g => by have := hSg0 _ g; have := Bq1.lt; omega
        have Hg0 : Hid (∀ k, Sg0 k → w.heap.size ≤ k) := Lib.hid fun k g => by have := hSg0 k g; have := L.size; omega
        replace Ow0 := Lib.hid (spAb.own_below Ow0.out hb)
        replace Oq0 := Lib.hid (spAb.own_below Oq0.out hb)
        replace Oq1 := Lib.hid (spAb.own_below Oq1.out hb)
        replace Ba0 := Ba0.below hb
        replace Ba1 := Ba1.below hb
        replace Bw0 := Bw0.below hb
        replace Bq0 := Bq0.below hb
        replace Bq1 := Bq1.below hb
        replace L := bstep L L.size hb
        clear hb hSg0
        obtain ⟨Ag0_0, ng0_0, cg0_0, rfl, -⟩ := spAb_form (spAb.own_rd owg0)
        have Og0 := Lib.hid owg0
        clear owg0
        have Bg0 := Blk.new w5 [.slice Ag0_0 ng0_0 cg0_0, .int .i64 ((rSumAbelian x0 x1)).K] 26
        have Ng0_w0 : ¬ Sw0 w5.heap.size := fun g => by have := spAb.own_lt Ow0.out g; omega
        have Ng0_q0 : ¬ Sq0 w5.heap.size := fun g => by have := spAb.own_lt Oq0.out g; omega
        have Ng0_q1 : ¬ Sq1 w5.heap.size := fun g => by have := spAb.own_lt Oq1.out g; omega
        have Ng0_g0 : ¬ Sg0 w5.heap.size := fun g => by have := spAb.own_lt Og0.out g; omega
        have hbx : Below w5.heap.size w5 (w5.alloc (.cells [.slice Ag0_0 ng0_0 cg0_0, .int .i64 ((rSumAbelian x0 x1)).K].toArray 26)) := (Below.refl _ _).alloc (Nat.le_refl _) _
        replace Ow0 := Lib.hid (spAb.own_below Ow0.out hbx)
        replace Oq0 := Lib.hid (spAb.own_below Oq0.out hbx)
        replace Oq1 := Lib.hid (spAb.own_below Oq1.out hbx)
        replace Og0 := Lib.hid (spAb.own_below Og0.out hbx)
        replace Ba0 := Ba0.below hbx
        replace Ba1 := Ba1.below hbx
        replace Bw0 := Bw0.below hbx
        replace Bq0 := Bq0.below hbx
        replace Bq1 := Bq1.below hbx
        replace L := bstep L L.size hbx
        clear hbx
        obtain ⟨ba0l, ba00, ba01⟩ := Ba0.c2
        obtain ⟨ba1l, ba10, ba11⟩ := Ba1.c2
        obtain ⟨bw0l, bw00, bw01⟩ := Bw0.c2
        obtain ⟨bq0l, bq00, bq01⟩ := Bq0.c2
        obtain ⟨bq1l, bq10, bq11⟩ := Bq1.c2
        obtain ⟨bg0l, bg00, bg01⟩ := Bg0.c2
        go_wp2_with (fail)
        refine (eqAb_ok (.agg #[.slice Ag0_0 ng0_0 cg0_0, .int .i64 ((rSumAbelian x0 x1)).K]) (.agg #[.slice Aw0_0 nw0_0 cw0_0, .int .i64 (rSumAbelian x0 x1).K]) (rSumAbelian x0 x1) (w5.alloc (.cells [.slice Ag0_0 ng0_0 cg0_0, .int .i64 ((rSumAbelian x0 x1)).K].toArray 26)) (spAb.own_rd Og0.out) (spAb.own_rd Ow0.out)).mono ?_; rintro e w6 ⟨rfl, hb⟩
        clear ba0l ba00 ba01 ba1l ba10 ba11 bw0l bw00 bw01 bq0l bq00 bq01 bq1l bq10 bq11 bg0l bg00 bg01
        replace Ow0 := Lib.hid (spAb.own_below Ow0.out hb)
        replace Oq0 := Lib.hid (spAb.own_below Oq0.out hb)
        replace Oq1 := Lib.hid (spAb.own_below Oq1.out hb)
        replace Og0 := Lib.hid (spAb.own_below Og0.out hb)
        replace Ba0 := Ba0.below hb
        replace Ba1 := Ba1.below hb
        replace Bw0 := Bw0.below hb
        replace Bq0 := Bq0.below hb
        replace Bq1 := Bq1.below hb
        replace Bg0 := Bg0.below hb
        replace L := bstep L L.size hb
        clear hb
        obtain ⟨ba0l, ba00, ba01⟩ := Ba0.c2
        obtain ⟨ba1l, ba10, ba11⟩ := Ba1.c2
        obtain ⟨bw0l, bw00, bw01⟩ := Bw0.c2
        obtain ⟨bq0l, bq00, bq01⟩ := Bq0.c2
        obtain ⟨bq1l, bq10, bq11⟩ := Bq1.c2
        obtain ⟨bg0l, bg00, bg01⟩ := Bg0.c2
        have HT := Lib.hid (toAb_ok (.agg #[.slice Aa0_0 na0_0 ca0_0, .int .i64 x0.K]) x0 w6.drew (spAb.rd_drew (spAb.rd_below RW0.out L)) s0')
        go_wp2_with (fail)
        go_region_held3 (fun wx => wx.cell? ⟨w3.heap.size, 0, none⟩ = some (.slice Aq0_0 nq0_0 cq0_0) ∧ wx.cell? ⟨w3.heap.size, 1, none⟩ = some (.int .i64 x0.K) ∧ wx.cell? ⟨(w.heap.size), 0, none⟩ = some (.slice Aa0_0 na0_0 ca0_0) ∧ wx.cell? ⟨(w.heap.size), 1, none⟩ = some (.int .i64 x0.K)) (first | go_keep | assumption) (first | (go_at_call 13; refine HT.out.mono ?_; rintro e w7 ⟨ut0, St0, rfl, owt0, hSt0, hb⟩; have SM : w7.cell? ⟨w3.heap.size, 0, none⟩ = some (.slice Aq0_0 nq0_0 cq0_0) ∧ w7.cell? ⟨w3.heap.size, 1, none⟩ = some (.int .i64 x0.K) ∧ w7.cell? ⟨(w.heap.size), 0, none⟩ = some (.slice Aa0_0 na0_0 ca0_0) ∧ w7.cell? ⟨(w.heap.size), 1, none⟩ = some (.int .i64 x0.K) := ⟨(Blk.cell (Bq0.drew.below hb) 0 (by simp)), (Blk.cell (Bq0.drew.below hb) 1 (by simp)), (Blk.cell (Ba0.drew.below hb) 0 (by simp)), (Blk.cell (Ba0.drew.below hb) 1 (by simp))⟩) | (go_at_call 15; refine (eqAb_ok (.agg #[.slice Aq0_0 nq0_0 cq0_0, .int .i64 x0.K]) _ x0 _ (spAb.rd_below (spAb.rd_drew (spAb.own_rd Oq0.out)) hb) (spAb.own_rd owt0)).mono ?_; rintro e w8 ⟨rfl, hb2⟩; have SM2 : w8.cell? ⟨w3.heap.size, 0, none⟩ = some (.slice Aq0_0 nq0_0 cq0_0) ∧ w8.cell? ⟨w3.heap.size, 1, none⟩ = some (.int .i64 x0.K) ∧ w8.cell? ⟨(w.heap.size), 0, none⟩ = some (.slice Aa0_0 na0_0 ca0_0) ∧ w8.cell? ⟨(w.heap.size), 1, none⟩ = some (.int .i64 x0.K) := ⟨(Blk.cell ((Bq0.drew.below hb).below hb2) 0 (by simp)), (Blk.cell ((Bq0.drew.below hb).below hb2) 1 (by simp)), (Blk.cell ((Ba0.drew.below hb).below hb2) 0 (by simp)), (Blk.cell ((Ba0.drew.below hb).below hb2) 1 (by simp))⟩))
        clear ba0l ba00 ba01 ba1l ba10 ba11 bw0l bw00 bw01 bq0l bq00 bq01 bq1l bq10 bq11 bg0l bg00 bg01
        have hd : Below w6.heap.size w6 w6.drew := (Below.refl _ _).drew
        replace Ow0 := Lib.hid (spAb.own_below Ow0.out hd)
        replace Oq0 := Lib.hid (spAb.own_below Oq0.out hd)
        replace Oq1 := Lib.hid (spAb.own_below Oq1.out hd)
        replace Og0 := Lib.hid (spAb.own_below Og0.out hd)
        replace Ba0 := Ba0.below hd
        replace Ba1 := Ba1.below hd
        replace Bw0 := Bw0.below hd
        replace Bq0 := Bq0.below hd
        replace Bq1 := Bq1.below hd
        replace Bg0 := Bg0.below hd
        replace L := bstep L L.size hd
        replace Ow0 := Lib.hid (spAb.own_below Ow0.out hb)
        replace Oq0 := Lib.hid (spAb.own_below Oq0.out hb)
        replace Oq1 := Lib.hid (spAb.own_below Oq1.out hb)
        replace Og0 := Lib.hid (spAb.own_below Og0.out hb)
        replace Ba0 := Ba0.below hb
        replace Ba1 := Ba1.below hb
        replace Bw0 := Bw0.below hb
        replace Bq0 := Bq0.below hb
        replace Bq1 := Bq1.below hb
        replace Bg0 := Bg0.below hb
        replace L := bstep L L.size hb
        replace Ow0 := Lib.hid (spAb.own_below Ow0.out hb2)
        replace Oq0 := Lib.hid (spAb.own_below Oq0.out hb2)
        replace Oq1 := Lib.hid (spAb.own_below Oq1.out hb2)
        replace Og0 := Lib.hid (spAb.own_below Og0.out hb2)
        replace Ba0 := Ba0.below hb2
        replace Ba1 := Ba1.below hb2
        replace Bw0 := Bw0.below hb2
        replace Bq0 := Bq0.below hb2
        replace Bq1 := Bq1.below hb2
        replace Bg0 := Bg0.below hb2
        replace L := bstep L L.size hb2
        clear hd hb hb2 HT SM SM2 owt0 hSt0
        obtain ⟨ba0l, ba00, ba01⟩ := Ba0.c2
        obtain ⟨ba1l, ba10, ba11⟩ := Ba1.c2
        obtain ⟨bw0l, bw00, bw01⟩ := Bw0.c2
        obtain ⟨bq0l, bq00, bq01⟩ := Bq0.c2
        obtain ⟨bq1l, bq10, bq11⟩ := Bq1.c2
        obtain ⟨bg0l, bg00, bg01⟩ := Bg0.c2
        have HT := Lib.hid (toAb_ok (.agg #[.slice Aa1_0 na1_0 ca1_0, .int .i64 x1.K]) x1 w8.drew (spAb.rd_drew (spAb.rd_below RW1.out L)) s1')
        go_wp2_with (fail)
        go_region_held3 (fun wx => wx.cell? ⟨w4.heap.size, 0, none⟩ = some (.slice Aq1_0 nq1_0 cq1_0) ∧ wx.cell? ⟨w4.heap.size, 1, none⟩ = some (.int .i64 x1.K) ∧ wx.cell? ⟨(w.heap.size + 1), 0, none⟩ = some (.slice Aa1_0 na1_0 ca1_0) ∧ wx.cell? ⟨(w.heap.size + 1), 1, none⟩ = some (.int .i64 x1.K)) (first | go_keep | assumption) (first | (go_at_call 13; refine HT.out.mono ?_; rintro e w9 ⟨ut1, St1, rfl, owt1, hSt1, hb⟩; have SM : w9.cell? ⟨w4.heap.size, 0, none⟩ = some (.slice Aq1_0 nq1_0 cq1_0) ∧ w9.cell? ⟨w4.heap.size, 1, none⟩ = some (.int .i64 x1.K) ∧ w9.cell? ⟨(w.heap.size + 1), 0, none⟩ = some (.slice Aa1_0 na1_0 ca1_0) ∧ w9.cell? ⟨(w.heap.size + 1), 1, none⟩ = some (.int .i64 x1.K) := ⟨(Blk.cell (Bq1.drew.below hb) 0 (by simp)), (Blk.cell (Bq1.drew.below hb) 1 (by simp)), (Blk.cell (Ba1.drew.below hb) 0 (by simp)), (Blk.cell (Ba1.drew.below hb) 1 (by simp))⟩) | (go_at_call 15; refine (eqAb_ok (.agg #[.slice Aq1_0 nq1_0 cq1_0, .int .i64 x1.K]) _ x1 _ (spAb.rd_below (spAb.rd_drew (spAb.own_rd Oq1.out)) hb) (spAb.own_rd owt1)).mono ?_; rintro e w10 ⟨rfl, hb2⟩; have SM2 : w10.cell? ⟨w4.heap.size, 0, none⟩ = some (.slice Aq1_0 nq1_0 cq1_0) ∧ w10.cell? ⟨w4.heap.size, 1, none⟩ = some (.int .i64 x1.K) ∧ w10.cell? ⟨(w.heap.size + 1), 0, none⟩ = some (.slice Aa1_0 na1_0 ca1_0) ∧ w10.cell? ⟨(w.heap.size + 1), 1, none⟩ = some (.int .i64 x1.K) := ⟨(Blk.cell ((Bq1.drew.below hb).below hb2) 0 (by simp)), (Blk.cell ((Bq1.drew.below hb).below hb2) 1 (by simp)), (Blk.cell ((Ba1.drew.below hb).below hb2) 0 (by simp)), (Blk.cell ((Ba1.drew.below hb).below hb2) 1 (by simp))⟩))
        clear ba0l ba00 ba01 ba1l ba10 ba11 bw0l bw00 bw01 bq0l bq00 bq01 bq1l bq10 bq11 bg0l bg00 bg01
        have hd : Below w8.heap.size w8 w8.drew := (Below.refl _ _).drew
        replace Ow0 := Lib.hid (spAb.own_below Ow0.out hd)
        replace Oq0 := Lib.hid (spAb.own_below Oq0.out hd)
        replace Oq1 := Lib.hid (spAb.own_below Oq1.out hd)
        replace Og0 := Lib.hid (spAb.own_below Og0.out hd)
        replace Ba0 := Ba0.below hd
        replace Ba1 := Ba1.below hd
        replace Bw0 := Bw0.below hd
        replace Bq0 := Bq0.below hd
        replace Bq1 := Bq1.below hd
        replace Bg0 := Bg0.below hd
        replace L := bstep L L.size hd
        replace Ow0 := Lib.hid (spAb.own_below Ow0.out hb)
        replace Oq0 := Lib.hid (spAb.own_below Oq0.out hb)
        replace Oq1 := Lib.hid (spAb.own_below Oq1.out hb)
        replace Og0 := Lib.hid (spAb.own_below Og0.out hb)
        replace Ba0 := Ba0.below hb
        replace Ba1 := Ba1.below hb
        replace Bw0 := Bw0.below hb
        replace Bq0 := Bq0.below hb
        replace Bq1 := Bq1.below hb
        replace Bg0 := Bg0.below hb
        replace L := bstep L L.size hb
        replace Ow0 := Lib.hid (spAb.own_below Ow0.out hb2)
        replace Oq0 := Lib.hid (spAb.own_below Oq0.out hb2)
        replace Oq1 := Lib.hid (spAb.own_below Oq1.out hb2)
        replace Og0 := Lib.hid (spAb.own_below Og0.out hb2)
        replace Ba0 := Ba0.below hb2
        replace Ba1 := Ba1.below hb2
        replace Bw0 := Bw0.below hb2
        replace Bq0 := Bq0.below hb2
        replace Bq1 := Bq1.below hb2
        replace Bg0 := Bg0.below hb2
        replace L := bstep L L.size hb2
        clear hd hb hb2 HT SM SM2 owt1 hSt1
        have e0 := spAb_cnt x0
        have e1 := spAb_cnt x1
        obtain ⟨ba0l, ba00, ba01⟩ := Ba0.c2
        obtain ⟨ba1l, ba10, ba11⟩ := Ba1.c2
        obtain ⟨bw0l, bw00, bw01⟩ := Bw0.c2
        obtain ⟨bq0l, bq00, bq01⟩ := Bq0.c2
        obtain ⟨bq1l, bq10, bq11⟩ := Bq1.c2
        obtain ⟨bg0l, bg00, bg01⟩ := Bg0.c2
        go_wp2_with (fail)
        refine (markAb_ok Sq0 (.agg #[.slice Aq0_0 nq0_0 cq0_0, .int .i64 x0.K]) x0 (1) w10 Oq0.out (by omega) (by omega)).mono ?_; rintro e w11 ⟨rfl, ow, ch⟩
        clear ba0l ba00 ba01 ba1l ba10 ba11 bw0l bw00 bw01 bq0l bq00 bq01 bq1l bq10 bq11 bg0l bg00 bg01
        replace Ow0 := Lib.hid (spAb.own_chg Ow0.out ch Dw0_q0.out)
        replace Oq1 := Lib.hid (spAb.own_chg Oq1.out ch (fun k g1 g2 => Dq0_q1.out k g2 g1))
        replace Og0 := Lib.hid (spAb.own_chg Og0.out ch (fun k g1 g2 => Dq0_g0.out k g2 g1))
        replace Ba0 := Ba0.chg ch Na0_q0
        replace Ba1 := Ba1.chg ch Na1_q0
        replace Bw0 := Bw0.chg ch Nw0_q0
        replace Bq0 := Bq0.chg ch Nq0_q0
        replace Bq1 := Bq1.chg ch Nq1_q0
        replace Bg0 := Bg0.chg ch Ng0_q0
        replace L := bstepS L L.size Hq0.out ch
        replace Oq0 := Lib.hid ow
        clear ow ch
        have kp0 : 0 ≤ 1 + (spAb.cnt x0 : Int) := by omega
        obtain ⟨ba0l, ba00, ba01⟩ := Ba0.c2
        obtain ⟨ba1l, ba10, ba11⟩ := Ba1.c2
        obtain ⟨bw0l, bw00, bw01⟩ := Bw0.c2
        obtain ⟨bq0l, bq00, bq01⟩ := Bq0.c2
        obtain ⟨bq1l, bq10, bq11⟩ := Bq1.c2
        obtain ⟨bg0l, bg00, bg01⟩ := Bg0.c2
        go_wp2_with (fail)
        refine (markAb_ok Sq1 (.agg #[.slice Aq1_0 nq1_0 cq1_0, .int .i64 x1.K]) x1 (1 + (spAb.cnt x0 : Int)) w11 Oq1.out (by omega) (by omega)).mono ?_; rintro e w12 ⟨rfl, ow, ch⟩
        clear ba0l ba00 ba01 ba1l ba10 ba11 bw0l bw00 bw01 bq0l bq00 bq01 bq1l bq10 bq11 bg0l bg00 bg01
        replace Ow0 := Lib.hid (spAb.own_chg Ow0.out ch Dw0_q1.out)
        replace Oq0 := Lib.hid (spAb.own_chg Oq0.out ch Dq0_q1.out)
        replace Og0 := Lib.hid (spAb.own_chg Og0.out ch (fun k g1 g2 => Dq1_g0.out k g2 g1))
        replace Ba0 := Ba0.chg ch Na0_q1
        replace Ba1 := Ba1.chg ch Na1_q1
        replace Bw0 := Bw0.chg ch Nw0_q1
        replace Bq0 := Bq0.chg ch Nq0_q1
        replace Bq1 := Bq1.chg ch Nq1_q1
        replace Bg0 := Bg0.chg ch Ng0_q1
        replace L := bstepS L L.size Hq1.out ch
        replace Oq1 := Lib.hid ow
        clear ow ch
        have kp1 : 0 ≤ 1 + (spAb.cnt x0 : Int) + (spAb.cnt x1 : Int) := by omega
        obtain ⟨ba0l, ba00, ba01⟩ := Ba0.c2
        obtain ⟨ba1l, ba10, ba11⟩ := Ba1.c2
        obtain ⟨bw0l, bw00, bw01⟩ := Bw0.c2
        obtain ⟨bq0l, bq00, bq01⟩ := Bq0.c2
        obtain ⟨bq1l, bq10, bq11⟩ := Bq1.c2
        obtain ⟨bg0l, bg00, bg01⟩ := Bg0.c2
        go_wp2_with (fail)
        refine (eqAb_ok (.agg #[.slice Ag0_0 ng0_0 cg0_0, .int .i64 ((rSumAbelian x0 x1)).K]) (.agg #[.slice Aw0_0 nw0_0 cw0_0, .int .i64 (rSumAbelian x0 x1).K]) (rSumAbelian x0 x1) w12 (spAb.own_rd Og0.out) (spAb.own_rd Ow0.out)).mono ?_; rintro e w13 ⟨rfl, hb⟩
        clear ba0l ba00 ba01 ba1l ba10 ba11 bw0l bw00 bw01 bq0l bq00 bq01 bq1l bq10 bq11 bg0l bg00 bg01
        replace Ow0 := Lib.hid (spAb.own_below Ow0.out hb)
        replace Oq0 := Lib.hid (spAb.own_below Oq0.out hb)
        replace Oq1 := Lib.hid (spAb.own_below Oq1.out hb)
        replace Og0 := Lib.hid (spAb.own_below Og0.out hb)
        replace Ba0 := Ba0.below hb
        replace Ba1 := Ba1.below hb
        replace Bw0 := Bw0.below hb
        replace Bq0 := Bq0.below hb
        replace Bq1 := Bq1.below hb
        replace Bg0 := Bg0.below hb
        replace L := bstep L L.size hb
        clear hb
        obtain ⟨ba0l, ba00, ba01⟩ := Ba0.c2
        obtain ⟨ba1l, ba10, ba11⟩ := Ba1.c2
        obtain ⟨bw0l, bw00, bw01⟩ := Bw0.c2
        obtain ⟨bg0l, bg00, bg01⟩ := Bg0.c2
        go_wp2_with (fail)
        refine (markAb_ok Sg0 (.agg #[.slice Ag0_0 ng0_0 cg0_0, .int .i64 ((rSumAbelian x0 x1)).K]) (rSumAbelian x0 x1) (1) w13 Og0.out (by omega) (by omega)).mono ?_; rintro e w14 ⟨rfl, ow, ch⟩
        clear ba0l ba00 ba01 ba1l ba10 ba11 bw0l bw00 bw01 bg0l bg00 bg01
        replace Ow0 := Lib.hid (spAb.own_chg Ow0.out ch Dw0_g0.out)
        replace Ba0 := Ba0.chg ch Na0_g0
        replace Ba1 := Ba1.chg ch Na1_g0
        replace Bw0 := Bw0.chg ch Nw0_g0
        replace Bg0 := Bg0.chg ch Ng0_g0
        replace L := bstepS L L.size Hg0.out ch
        replace Og0 := Lib.hid ow
        clear ow ch
        have km : 0 ≤ 1 + (spAb.cnt (rSumAbelian x0 x1) : Int) := by omega
        obtain ⟨ba0l, ba00, ba01⟩ := Ba0.c2
        obtain ⟨ba1l, ba10, ba11⟩ := Ba1.c2
        obtain ⟨bw0l, bw00, bw01⟩ := Bw0.c2
        obtain ⟨bg0l, bg00, bg01⟩ := Bg0.c2
        go_wp2_with (fail)
        refine (heldAb_ok (.agg #[.slice Ag0_0 ng0_0 cg0_0, .int .i64 ((rSumAbelian x0 x1)).K]) (rSumAbelian x0 x1) 1 w14 (spAb.own_rd Og0.out) (by omega) (by omega)).mono ?_; rintro e w15 ⟨rfl, hb⟩
        clear ba0l ba00 ba01 ba1l ba10 ba11 bw0l bw00 bw01 bg0l bg00 bg01
        replace Ow0 := Lib.hid (spAb.own_below Ow0.out hb)
        replace Og0 := Lib.hid (spAb.own_below Og0.out hb)
        replace Ba0 := Ba0.below hb
        replace Ba1 := Ba1.below hb
        replace Bw0 := Bw0.below hb
        replace Bg0 := Bg0.below hb
        replace L := bstep L L.size hb
        clear hb
        obtain ⟨ba0l, ba00, ba01⟩ := Ba0.c2
        obtain ⟨ba1l, ba10, ba11⟩ := Ba1.c2
        obtain ⟨bw0l, bw00, bw01⟩ := Bw0.c2
        obtain ⟨bg0l, bg00, bg01⟩ := Bg0.c2
        have KC0 : Hid (∀ W', Below w15.heap.size w15 W' → Calls Try.prog 13 #[(.agg #[.slice Aa0_0 na0_0 ca0_0, .int .i64 x0.K])] W' (Made spAb x0 W')) := Lib.hid fun W' hW => toOk_c toAb_ok (.agg #[.slice Aa0_0 na0_0 ca0_0, .int .i64 x0.K]) x0 W' (spAb.rd_below (spAb.rd_below RW0.out L) hW) s0'
        have KC1 : Hid (∀ W', Below w15.heap.size w15 W' → Calls Try.prog 13 #[(.agg #[.slice Aa1_0 na1_0 ca1_0, .int .i64 x1.K])] W' (Made spAb x1 W')) := Lib.hid fun W' hW => toOk_c toAb_ok (.agg #[.slice Aa1_0 na1_0 ca1_0, .int .i64 x1.K]) x1 W' (spAb.rd_below (spAb.rd_below RW1.out L) hW) s1'
        have KF : Hid (∀ (W' : World) (ua ub : Value), spAb.rd W' ua x0 → spAb.rd W' ub x1 → Calls Try.prog 14 #[ua, ub] W' (MadeC spAb (rSumAbelian x0 x1) (cSumAbelian x0 x1) W')) := Lib.hid fun W' ua ub ha hb => iSumAbelian_ok ua x0 ub x1 W' ha hb s0' s1'
        have hszW := L.size
        have ltBa0 := Ba0.lt
        have ltBa1 := Ba1.lt
        go_upto_region 31 with (fail)
        go_cut [15, 16] (fun sB sC wx => ∃ (blk : Nat) (Sh0 : Nat → Prop) (Ah0_0 : Option Addr) (nh0_0 : Nat) (ch0_0 : Nat), sB = .pointer (some ⟨blk, 0, none⟩) ∧ sC = .int .i64 (cSumAbelian x0 x1) ∧ Hid (Below w15.heap.size w15 wx ∧ spAb.own wx Sh0 (.agg #[.slice Ah0_0 nh0_0 ch0_0, .int .i64 (rSumAbelian x0 x1).K]) (rSumAbelian x0 x1) ∧ Blk wx blk [.slice Ah0_0 nh0_0 ch0_0, .int .i64 (rSumAbelian x0 x1).K] 26 ∧ ¬ Sh0 blk ∧ (∀ k, Sh0 k → w15.heap.size ≤ k) ∧ w15.heap.size ≤ blk))
        case first =>
          have LC : Below w15.heap.size w15 w15 := Below.refl _ _
          go_region_held3 (fun wx => wx.cell? ⟨(w.heap.size), 0, none⟩ = some (.slice Aa0_0 na0_0 ca0_0) ∧ wx.cell? ⟨(w.heap.size), 1, none⟩ = some (.int .i64 x0.K) ∧ wx.cell? ⟨(w.heap.size + 1), 0, none⟩ = some (.slice Aa1_0 na1_0 ca1_0) ∧ wx.cell? ⟨(w.heap.size + 1), 1, none⟩ = some (.int .i64 x1.K)) (first | go_keep | assumption) (first | (go_at_call 13; (first | (with_reducible refine (KC0.out _ (LC)).mono ?_) | (with_reducible refine (KC0.out _ (LC.drew)).mono ?_) | (with_reducible refine (KC0.out _ ((LC.alloc LC.size _))).mono ?_) | (with_reducible refine (KC0.out _ ((LC.alloc LC.size _).drew)).mono ?_) | (with_reducible refine (KC0.out _ ((LC.drew.alloc LC.size _))).mono ?_)); rintro e wa ⟨ua, Sa, rfl, owa, hSa, hba⟩; have LC : Below w15.heap.size w15 wa := (by first | exact bstep (LC) (LC).size hba | exact bstep (LC.drew) (LC.drew).size hba | exact bstep ((LC.alloc LC.size _)) ((LC.alloc LC.size _)).size hba | exact bstep ((LC.alloc LC.size _).drew) ((LC.alloc LC.size _).drew).size hba | exact bstep ((LC.drew.alloc LC.size _)) ((LC.drew.alloc LC.size _)).size hba); have hsa := LC.size; obtain ⟨Aya_0, nya_0, cya_0, rfl, -⟩ := spAb_form (spAb.own_rd owa); have SMa : wa.cell? ⟨(w.heap.size), 0, none⟩ = some (.slice Aa0_0 na0_0 ca0_0) ∧ wa.cell? ⟨(w.heap.size), 1, none⟩ = some (.int .i64 x0.K) ∧ wa.cell? ⟨(w.heap.size + 1), 0, none⟩ = some (.slice Aa1_0 na1_0 ca1_0) ∧ wa.cell? ⟨(w.heap.size + 1), 1, none⟩ = some (.int .i64 x1.K) := ⟨(Blk.cell (Ba0.below LC) 0 (by simp)), (Blk.cell (Ba0.below LC) 1 (by simp)), (Blk.cell (Ba1.below LC) 0 (by simp)), (Blk.cell (Ba1.below LC) 1 (by simp))⟩) | (go_at_call 13; (first | (with_reducible refine (KC1.out _ (LC)).mono ?_) | (with_reducible refine (KC1.out _ (LC.drew)).mono ?_) | (with_reducible refine (KC1.out _ ((LC.alloc LC.size _))).mono ?_) | (with_reducible refine (KC1.out _ ((LC.alloc LC.size _).drew)).mono ?_) | (with_reducible refine (KC1.out _ ((LC.drew.alloc LC.size _))).mono ?_)); rintro e wb ⟨ub, Sb, rfl, owb, hSb, hbb⟩; have LC : Below w15.heap.size w15 wb := (by first | exact bstep (LC) (LC).size hbb | exact bstep (LC.drew) (LC.drew).size hbb | exact bstep ((LC.alloc LC.size _)) ((LC.alloc LC.size _)).size hbb | exact bstep ((LC.alloc LC.size _).drew) ((LC.alloc LC.size _).drew).size hbb | exact bstep ((LC.drew.alloc LC.size _)) ((LC.drew.alloc LC.size _)).size hbb); have hsb := LC.size; obtain ⟨Ayb_0, nyb_0, cyb_0, rfl, -⟩ := spAb_form (spAb.own_rd owb); have SMb : wb.cell? ⟨(w.heap.size), 0, none⟩ = some (.slice Aa0_0 na0_0 ca0_0) ∧ wb.cell? ⟨(w.heap.size), 1, none⟩ = some (.int .i64 x0.K) ∧ wb.cell? ⟨(w.heap.size + 1), 0, none⟩ = some (.slice Aa1_0 na1_0 ca1_0) ∧ wb.cell? ⟨(w.heap.size + 1), 1, none⟩ = some (.int .i64 x1.K) := ⟨(Blk.cell (Ba0.below LC) 0 (by simp)), (Blk.cell (Ba0.below LC) 1 (by simp)), (Blk.cell (Ba1.below LC) 0 (by simp)), (Blk.cell (Ba1.below LC) 1 (by simp))⟩) | (go_at_call 14; (with_reducible refine (KF.out _ _ _ (by first | exact (spAb.own_rd owa) | exact spAb.rd_below (spAb.own_rd owa) hbb | exact spAb.rd_below (spAb.rd_below (spAb.own_rd owa) ((Below.refl _ _).alloc (Nat.le_refl _) _)) hbb | exact spAb.rd_below (spAb.own_rd owa) ((Below.refl _ _).alloc (Nat.le_refl _) _) | exact spAb.rd_below (spAb.rd_below (spAb.own_rd owa) hbb) ((Below.refl _ _).alloc (Nat.le_refl _) _)) (by first | exact (spAb.own_rd owb) | exact spAb.rd_below (spAb.own_rd owb) hba | exact spAb.rd_below (spAb.rd_below (spAb.own_rd owb) ((Below.refl _ _).alloc (Nat.le_refl _) _)) hba | exact spAb.rd_below (spAb.own_rd owb) ((Below.refl _ _).alloc (Nat.le_refl _) _) | exact spAb.rd_below (spAb.rd_below (spAb.own_rd owb) hba) ((Below.refl _ _).alloc (Nat.le_refl _) _))).mono ?_); rintro e wf ⟨uf, Sh0, rfl, owf, hSf, hcntf, hbf⟩; have LC : Below w15.heap.size w15 wf := (by first | exact bstep (LC) (LC).size hbf | exact bstep (LC.drew) (LC.drew).size hbf | exact bstep ((LC.alloc LC.size _)) ((LC.alloc LC.size _)).size hbf | exact bstep ((LC.alloc LC.size _).drew) ((LC.alloc LC.size _).drew).size hbf | exact bstep ((LC.drew.alloc LC.size _)) ((LC.drew.alloc LC.size _)).size hbf); obtain ⟨Ah0_0, nh0_0, ch0_0, rfl, -⟩ := spAb_form (spAb.own_rd owf); have SMf : wf.cell? ⟨(w.heap.size), 0, none⟩ = some (.slice Aa0_0 na0_0 ca0_0) ∧ wf.cell? ⟨(w.heap.size), 1, none⟩ = some (.int .i64 x0.K) ∧ wf.cell? ⟨(w.heap.size + 1), 0, none⟩ = some (.slice Aa1_0 na1_0 ca1_0) ∧ wf.cell? ⟨(w.heap.size + 1), 1, none⟩ = some (.int .i64 x1.K) := ⟨(Blk.cell (Ba0.below LC) 0 (by simp)), (Blk.cell (Ba0.below LC) 1 (by simp)), (Blk.cell (Ba1.below LC) 0 (by simp)), (Blk.cell (Ba1.below LC) 1 (by simp))⟩; (try (first | (have BX : Blk wf w15.heap.size [.slice none 0 0, .int .i64 0] 26 := ((((Blk.new w15 [.slice none 0 0, .int .i64 0] 26).drew).below hba).below hbb).below hbf; have hB9 : w15.heap.size ≤ w15.heap.size := Nat.le_refl _; obtain ⟨bxl, bx0, bx1⟩ := BX.c2; have fx0 := BX.free 0; have fx1 := BX.free 1; have nzBa0 : ¬ ((w.heap.size) = w15.heap.size) := (fun g => by omega); have nzBa1 : ¬ ((w.heap.size + 1) = w15.heap.size) := (fun g => by omega); have SK9 : ((wf.setCell ⟨w15.heap.size, 0, none⟩ (.slice Ah0_0 nh0_0 ch0_0)).setCell ⟨w15.heap.size, 1, none⟩ (.int .i64 (rSumAbelian x0 x1).K)).cell? ⟨(w.heap.size), 0, none⟩ = some (.slice Aa0_0 na0_0 ca0_0) ∧ ((wf.setCell ⟨w15.heap.size, 0, none⟩ (.slice Ah0_0 nh0_0 ch0_0)).setCell ⟨w15.heap.size, 1, none⟩ (.int .i64 (rSumAbelian x0 x1).K)).cell? ⟨(w.heap.size), 1, none⟩ = some (.int .i64 x0.K) ∧ ((wf.setCell ⟨w15.heap.size, 0, none⟩ (.slice Ah0_0 nh0_0 ch0_0)).setCell ⟨w15.heap.size, 1, none⟩ (.int .i64 (rSumAbelian x0 x1).K)).cell? ⟨(w.heap.size + 1), 0, none⟩ = some (.slice Aa1_0 na1_0 ca1_0) ∧ ((wf.setCell ⟨w15.heap.size, 0, none⟩ (.slice Ah0_0 nh0_0 ch0_0)).setCell ⟨w15.heap.size, 1, none⟩ (.int .i64 (rSumAbelian x0 x1).K)).cell? ⟨(w.heap.size + 1), 1, none⟩ = some (.int .i64 x1.K) := ⟨(Blk.cell (((Ba0.below LC).other (p := ⟨w15.heap.size, 0, none⟩) nzBa0 (.slice Ah0_0 nh0_0 ch0_0)).other (p := ⟨w15.heap.size, 1, none⟩) nzBa0 (.int .i64 (rSumAbelian x0 x1).K)) 0 (by simp)), (Blk.cell (((Ba0.below LC).other (p := ⟨w15.heap.size, 0, none⟩) nzBa0 (.slice Ah0_0 nh0_0 ch0_0)).other (p := ⟨w15.heap.size, 1, none⟩) nzBa0 (.int .i64 (rSumAbelian x0 x1).K)) 1 (by simp)), (Blk.cell (((Ba1.below LC).other (p := ⟨w15.heap.size, 0, none⟩) nzBa1 (.slice Ah0_0 nh0_0 ch0_0)).other (p := ⟨w15.heap.size, 1, none⟩) nzBa1 (.int .i64 (rSumAbelian x0 x1).K)) 0 (by simp)), (Blk.cell (((Ba1.below LC).other (p := ⟨w15.heap.size, 0, none⟩) nzBa1 (.slice Ah0_0 nh0_0 ch0_0)).other (p := ⟨w15.heap.size, 1, none⟩) nzBa1 (.int .i64 (rSumAbelian x0 x1).K)) 1 (by simp))⟩) | (have BX : Blk wf w15.heap.size [.slice none 0 0, .int .i64 0] 26 := (((Blk.new w15 [.slice none 0 0, .int .i64 0] 26).below hba).below hbb).below hbf; have hB9 : w15.heap.size ≤ w15.heap.size := Nat.le_refl _; obtain ⟨bxl, bx0, bx1⟩ := BX.c2; have fx0 := BX.free 0; have fx1 := BX.free 1; have nzBa0 : ¬ ((w.heap.size) = w15.heap.size) := (fun g => by omega); have nzBa1 : ¬ ((w.heap.size + 1) = w15.heap.size) := (fun g => by omega); have SK9 : ((wf.setCell ⟨w15.heap.size, 0, none⟩ (.slice Ah0_0 nh0_0 ch0_0)).setCell ⟨w15.heap.size, 1, none⟩ (.int .i64 (rSumAbelian x0 x1).K)).cell? ⟨(w.heap.size), 0, none⟩ = some (.slice Aa0_0 na0_0 ca0_0) ∧ ((wf.setCell ⟨w15.heap.size, 0, none⟩ (.slice Ah0_0 nh0_0 ch0_0)).setCell ⟨w15.heap.size, 1, none⟩ (.int .i64 (rSumAbelian x0 x1).K)).cell? ⟨(w.heap.size), 1, none⟩ = some (.int .i64 x0.K) ∧ ((wf.setCell ⟨w15.heap.size, 0, none⟩ (.slice Ah0_0 nh0_0 ch0_0)).setCell ⟨w15.heap.size, 1, none⟩ (.int .i64 (rSumAbelian x0 x1).K)).cell? ⟨(w.heap.size + 1), 0, none⟩ = some (.slice Aa1_0 na1_0 ca1_0) ∧ ((wf.setCell ⟨w15.heap.size, 0, none⟩ (.slice Ah0_0 nh0_0 ch0_0)).setCell ⟨w15.heap.size, 1, none⟩ (.int .i64 (rSumAbelian x0 x1).K)).cell? ⟨(w.heap.size + 1), 1, none⟩ = some (.int .i64 x1.K) := ⟨(Blk.cell (((Ba0.below LC).other (p := ⟨w15.heap.size, 0, none⟩) nzBa0 (.slice Ah0_0 nh0_0 ch0_0)).other (p := ⟨w15.heap.size, 1, none⟩) nzBa0 (.int .i64 (rSumAbelian x0 x1).K)) 0 (by simp)), (Blk.cell (((Ba0.below LC).other (p := ⟨w15.heap.size, 0, none⟩) nzBa0 (.slice Ah0_0 nh0_0 ch0_0)).other (p := ⟨w15.heap.size, 1, none⟩) nzBa0 (.int .i64 (rSumAbelian x0 x1).K)) 1 (by simp)), (Blk.cell (((Ba1.below LC).other (p := ⟨w15.heap.size, 0, none⟩) nzBa1 (.slice Ah0_0 nh0_0 ch0_0)).other (p := ⟨w15.heap.size, 1, none⟩) nzBa1 (.int .i64 (rSumAbelian x0 x1).K)) 0 (by simp)), (Blk.cell (((Ba1.below LC).other (p := ⟨w15.heap.size, 0, none⟩) nzBa1 (.slice Ah0_0 nh0_0 ch0_0)).other (p := ⟨w15.heap.size, 1, none⟩) nzBa1 (.int .i64 (rSumAbelian x0 x1).K)) 1 (by simp))⟩) | (have BX : Blk wf w15.heap.size [.slice none 0 0, .int .i64 0] 26 := ((((Blk.new w15 [.slice none 0 0, .int .i64 0] 26).drew).below hbb).below hba).below hbf; have hB9 : w15.heap.size ≤ w15.heap.size := Nat.le_refl _; obtain ⟨bxl, bx0, bx1⟩ := BX.c2; have fx0 := BX.free 0; have fx1 := BX.free 1; have nzBa0 : ¬ ((w.heap.size) = w15.heap.size) := (fun g => by omega); have nzBa1 : ¬ ((w.heap.size + 1) = w15.heap.size) := (fun g => by omega); have SK9 : ((wf.setCell ⟨w15.heap.size, 0, none⟩ (.slice Ah0_0 nh0_0 ch0_0)).setCell ⟨w15.heap.size, 1, none⟩ (.int .i64 (rSumAbelian x0 x1).K)).cell? ⟨(w.heap.size), 0, none⟩ = some (.slice Aa0_0 na0_0 ca0_0) ∧ ((wf.setCell ⟨w15.heap.size, 0, none⟩ (.slice Ah0_0 nh0_0 ch0_0)).setCell ⟨w15.heap.size, 1, none⟩ (.int .i64 (rSumAbelian x0 x1).K)).cell? ⟨(w.heap.size), 1, none⟩ = some (.int .i64 x0.K) ∧ ((wf.setCell ⟨w15.heap.size, 0, none⟩ (.slice Ah0_0 nh0_0 ch0_0)).setCell ⟨w15.heap.size, 1, none⟩ (.int .i64 (rSumAbelian x0 x1).K)).cell? ⟨(w.heap.size + 1), 0, none⟩ = some (.slice Aa1_0 na1_0 ca1_0) ∧ ((wf.setCell ⟨w15.heap.size, 0, none⟩ (.slice Ah0_0 nh0_0 ch0_0)).setCell ⟨w15.heap.size, 1, none⟩ (.int .i64 (rSumAbelian x0 x1).K)).cell? ⟨(w.heap.size + 1), 1, none⟩ = some (.int .i64 x1.K) := ⟨(Blk.cell (((Ba0.below LC).other (p := ⟨w15.heap.size, 0, none⟩) nzBa0 (.slice Ah0_0 nh0_0 ch0_0)).other (p := ⟨w15.heap.size, 1, none⟩) nzBa0 (.int .i64 (rSumAbelian x0 x1).K)) 0 (by simp)), (Blk.cell (((Ba0.below LC).other (p := ⟨w15.heap.size, 0, none⟩) nzBa0 (.slice Ah0_0 nh0_0 ch0_0)).other (p := ⟨w15.heap.size, 1, none⟩) nzBa0 (.int .i64 (rSumAbelian x0 x1).K)) 1 (by simp)), (Blk.cell (((Ba1.below LC).other (p := ⟨w15.heap.size, 0, none⟩) nzBa1 (.slice Ah0_0 nh0_0 ch0_0)).other (p := ⟨w15.heap.size, 1, none⟩) nzBa1 (.int .i64 (rSumAbelian x0 x1).K)) 0 (by simp)), (Blk.cell (((Ba1.below LC).other (p := ⟨w15.heap.size, 0, none⟩) nzBa1 (.slice Ah0_0 nh0_0 ch0_0)).other (p := ⟨w15.heap.size, 1, none⟩) nzBa1 (.int .i64 (rSumAbelian x0 x1).K)) 1 (by simp))⟩) | (have BX : Blk wf w15.heap.size [.slice none 0 0, .int .i64 0] 26 := (((Blk.new w15 [.slice none 0 0, .int .i64 0] 26).below hbb).below hba).below hbf; have hB9 : w15.heap.size ≤ w15.heap.size := Nat.le_refl _; obtain ⟨bxl, bx0, bx1⟩ := BX.c2; have fx0 := BX.free 0; have fx1 := BX.free 1; have nzBa0 : ¬ ((w.heap.size) = w15.heap.size) := (fun g => by omega); have nzBa1 : ¬ ((w.heap.size + 1) = w15.heap.size) := (fun g => by omega); have SK9 : ((wf.setCell ⟨w15.heap.size, 0, none⟩ (.slice Ah0_0 nh0_0 ch0_0)).setCell ⟨w15.heap.size, 1, none⟩ (.int .i64 (rSumAbelian x0 x1).K)).cell? ⟨(w.heap.size), 0, none⟩ = some (.slice Aa0_0 na0_0 ca0_0) ∧ ((wf.setCell ⟨w15.heap.size, 0, none⟩ (.slice Ah0_0 nh0_0 ch0_0)).setCell ⟨w15.heap.size, 1, none⟩ (.int .i64 (rSumAbelian x0 x1).K)).cell? ⟨(w.heap.size), 1, none⟩ = some (.int .i64 x0.K) ∧ ((wf.setCell ⟨w15.heap.size, 0, none⟩ (.slice Ah0_0 nh0_0 ch0_0)).setCell ⟨w15.heap.size, 1, none⟩ (.int .i64 (rSumAbelian x0 x1).K)).cell? ⟨(w.heap.size + 1), 0, none⟩ = some (.slice Aa1_0 na1_0 ca1_0) ∧ ((wf.setCell ⟨w15.heap.size, 0, none⟩ (.slice Ah0_0 nh0_0 ch0_0)).setCell ⟨w15.heap.size, 1, none⟩ (.int .i64 (rSumAbelian x0 x1).K)).cell? ⟨(w.heap.size + 1), 1, none⟩ = some (.int .i64 x1.K) := ⟨(Blk.cell (((Ba0.below LC).other (p := ⟨w15.heap.size, 0, none⟩) nzBa0 (.slice Ah0_0 nh0_0 ch0_0)).other (p := ⟨w15.heap.size, 1, none⟩) nzBa0 (.int .i64 (rSumAbelian x0 x1).K)) 0 (by simp)), (Blk.cell (((Ba0.below LC).other (p := ⟨w15.heap.size, 0, none⟩) nzBa0 (.slice Ah0_0 nh0_0 ch0_0)).other (p := ⟨w15.heap.size, 1, none⟩) nzBa0 (.int .i64 (rSumAbelian x0 x1).K)) 1 (by simp)), (Blk.cell (((Ba1.below LC).other (p := ⟨w15.heap.size, 0, none⟩) nzBa1 (.slice Ah0_0 nh0_0 ch0_0)).other (p := ⟨w15.heap.size, 1, none⟩) nzBa1 (.int .i64 (rSumAbelian x0 x1).K)) 0 (by simp)), (Blk.cell (((Ba1.below LC).other (p := ⟨w15.heap.size, 0, none⟩) nzBa1 (.slice Ah0_0 nh0_0 ch0_0)).other (p := ⟨w15.heap.size, 1, none⟩) nzBa1 (.int .i64 (rSumAbelian x0 x1).K)) 1 (by simp))⟩) | (have BX : Blk wf wa.heap.size [.slice none 0 0, .int .i64 0] 26 := ((Blk.new wa [.slice none 0 0, .int .i64 0] 26).below hbb).below hbf; have hB9 : w15.heap.size ≤ wa.heap.size := hsa; obtain ⟨bxl, bx0, bx1⟩ := BX.c2; have fx0 := BX.free 0; have fx1 := BX.free 1; have nzBa0 : ¬ ((w.heap.size) = wa.heap.size) := (fun g => by omega); have nzBa1 : ¬ ((w.heap.size + 1) = wa.heap.size) := (fun g => by omega); have SK9 : ((wf.setCell ⟨wa.heap.size, 0, none⟩ (.slice Ah0_0 nh0_0 ch0_0)).setCell ⟨wa.heap.size, 1, none⟩ (.int .i64 (rSumAbelian x0 x1).K)).cell? ⟨(w.heap.size), 0, none⟩ = some (.slice Aa0_0 na0_0 ca0_0) ∧ ((wf.setCell ⟨wa.heap.size, 0, none⟩ (.slice Ah0_0 nh0_0 ch0_0)).setCell ⟨wa.heap.size, 1, none⟩ (.int .i64 (rSumAbelian x0 x1).K)).cell? ⟨(w.heap.size), 1, none⟩ = some (.int .i64 x0.K) ∧ ((wf.setCell ⟨wa.heap.size, 0, none⟩ (.slice Ah0_0 nh0_0 ch0_0)).setCell ⟨wa.heap.size, 1, none⟩ (.int .i64 (rSumAbelian x0 x1).K)).cell? ⟨(w.heap.size + 1), 0, none⟩ = some (.slice Aa1_0 na1_0 ca1_0) ∧ ((wf.setCell ⟨wa.heap.size, 0, none⟩ (.slice Ah0_0 nh0_0 ch0_0)).setCell ⟨wa.heap.size, 1, none⟩ (.int .i64 (rSumAbelian x0 x1).K)).cell? ⟨(w.heap.size + 1), 1, none⟩ = some (.int .i64 x1.K) := ⟨(Blk.cell (((Ba0.below LC).other (p := ⟨wa.heap.size, 0, none⟩) nzBa0 (.slice Ah0_0 nh0_0 ch0_0)).other (p := ⟨wa.heap.size, 1, none⟩) nzBa0 (.int .i64 (rSumAbelian x0 x1).K)) 0 (by simp)), (Blk.cell (((Ba0.below LC).other (p := ⟨wa.heap.size, 0, none⟩) nzBa0 (.slice Ah0_0 nh0_0 ch0_0)).other (p := ⟨wa.heap.size, 1, none⟩) nzBa0 (.int .i64 (rSumAbelian x0 x1).K)) 1 (by simp)), (Blk.cell (((Ba1.below LC).other (p := ⟨wa.heap.size, 0, none⟩) nzBa1 (.slice Ah0_0 nh0_0 ch0_0)).other (p := ⟨wa.heap.size, 1, none⟩) nzBa1 (.int .i64 (rSumAbelian x0 x1).K)) 0 (by simp)), (Blk.cell (((Ba1.below LC).other (p := ⟨wa.heap.size, 0, none⟩) nzBa1 (.slice Ah0_0 nh0_0 ch0_0)).other (p := ⟨wa.heap.size, 1, none⟩) nzBa1 (.int .i64 (rSumAbelian x0 x1).K)) 1 (by simp))⟩) | (have BX : Blk wf wa.heap.size [.slice none 0 0, .int .i64 0] 26 := (Blk.new wa [.slice none 0 0, .int .i64 0] 26).below hbf; have hB9 : w15.heap.size ≤ wa.heap.size := hsa; obtain ⟨bxl, bx0, bx1⟩ := BX.c2; have fx0 := BX.free 0; have fx1 := BX.free 1; have nzBa0 : ¬ ((w.heap.size) = wa.heap.size) := (fun g => by omega); have nzBa1 : ¬ ((w.heap.size + 1) = wa.heap.size) := (fun g => by omega); have SK9 : ((wf.setCell ⟨wa.heap.size, 0, none⟩ (.slice Ah0_0 nh0_0 ch0_0)).setCell ⟨wa.heap.size, 1, none⟩ (.int .i64 (rSumAbelian x0 x1).K)).cell? ⟨(w.heap.size), 0, none⟩ = some (.slice Aa0_0 na0_0 ca0_0) ∧ ((wf.setCell ⟨wa.heap.size, 0, none⟩ (.slice Ah0_0 nh0_0 ch0_0)).setCell ⟨wa.heap.size, 1, none⟩ (.int .i64 (rSumAbelian x0 x1).K)).cell? ⟨(w.heap.size), 1, none⟩ = some (.int .i64 x0.K) ∧ ((wf.setCell ⟨wa.heap.size, 0, none⟩ (.slice Ah0_0 nh0_0 ch0_0)).setCell ⟨wa.heap.size, 1, none⟩ (.int .i64 (rSumAbelian x0 x1).K)).cell? ⟨(w.heap.size + 1), 0, none⟩ = some (.slice Aa1_0 na1_0 ca1_0) ∧ ((wf.setCell ⟨wa.heap.size, 0, none⟩ (.slice Ah0_0 nh0_0 ch0_0)).setCell ⟨wa.heap.size, 1, none⟩ (.int .i64 (rSumAbelian x0 x1).K)).cell? ⟨(w.heap.size + 1), 1, none⟩ = some (.int .i64 x1.K) := ⟨(Blk.cell (((Ba0.below LC).other (p := ⟨wa.heap.size, 0, none⟩) nzBa0 (.slice Ah0_0 nh0_0 ch0_0)).other (p := ⟨wa.heap.size, 1, none⟩) nzBa0 (.int .i64 (rSumAbelian x0 x1).K)) 0 (by simp)), (Blk.cell (((Ba0.below LC).other (p := ⟨wa.heap.size, 0, none⟩) nzBa0 (.slice Ah0_0 nh0_0 ch0_0)).other (p := ⟨wa.heap.size, 1, none⟩) nzBa0 (.int .i64 (rSumAbelian x0 x1).K)) 1 (by simp)), (Blk.cell (((Ba1.below LC).other (p := ⟨wa.heap.size, 0, none⟩) nzBa1 (.slice Ah0_0 nh0_0 ch0_0)).other (p := ⟨wa.heap.size, 1, none⟩) nzBa1 (.int .i64 (rSumAbelian x0 x1).K)) 0 (by simp)), (Blk.cell (((Ba1.below LC).other (p := ⟨wa.heap.size, 0, none⟩) nzBa1 (.slice Ah0_0 nh0_0 ch0_0)).other (p := ⟨wa.heap.size, 1, none⟩) nzBa1 (.int .i64 (rSumAbelian x0 x1).K)) 1 (by simp))⟩) | (have BX : Blk wf wb.heap.size [.slice none 0 0, .int .i64 0] 26 := ((Blk.new wb [.slice none 0 0, .int .i64 0] 26).below hba).below hbf; have hB9 : w15.heap.size ≤ wb.heap.size := hsb; obtain ⟨bxl, bx0, bx1⟩ := BX.c2; have fx0 := BX.free 0; have fx1 := BX.free 1; have nzBa0 : ¬ ((w.heap.size) = wb.heap.size) := (fun g => by omega); have nzBa1 : ¬ ((w.heap.size + 1) = wb.heap.size) := (fun g => by omega); have SK9 : ((wf.setCell ⟨wb.heap.size, 0, none⟩ (.slice Ah0_0 nh0_0 ch0_0)).setCell ⟨wb.heap.size, 1, none⟩ (.int .i64 (rSumAbelian x0 x1).K)).cell? ⟨(w.heap.size), 0, none⟩ = some (.slice Aa0_0 na0_0 ca0_0) ∧ ((wf.setCell ⟨wb.heap.size, 0, none⟩ (.slice Ah0_0 nh0_0 ch0_0)).setCell ⟨wb.heap.size, 1, none⟩ (.int .i64 (rSumAbelian x0 x1).K)).cell? ⟨(w.heap.size), 1, none⟩ = some (.int .i64 x0.K) ∧ ((wf.setCell ⟨wb.heap.size, 0, none⟩ (.slice Ah0_0 nh0_0 ch0_0)).setCell ⟨wb.heap.size, 1, none⟩ (.int .i64 (rSumAbelian x0 x1).K)).cell? ⟨(w.heap.size + 1), 0, none⟩ = some (.slice Aa1_0 na1_0 ca1_0) ∧ ((wf.setCell ⟨wb.heap.size, 0, none⟩ (.slice Ah0_0 nh0_0 ch0_0)).setCell ⟨wb.heap.size, 1, none⟩ (.int .i64 (rSumAbelian x0 x1).K)).cell? ⟨(w.heap.size + 1), 1, none⟩ = some (.int .i64 x1.K) := ⟨(Blk.cell (((Ba0.below LC).other (p := ⟨wb.heap.size, 0, none⟩) nzBa0 (.slice Ah0_0 nh0_0 ch0_0)).other (p := ⟨wb.heap.size, 1, none⟩) nzBa0 (.int .i64 (rSumAbelian x0 x1).K)) 0 (by simp)), (Blk.cell (((Ba0.below LC).other (p := ⟨wb.heap.size, 0, none⟩) nzBa0 (.slice Ah0_0 nh0_0 ch0_0)).other (p := ⟨wb.heap.size, 1, none⟩) nzBa0 (.int .i64 (rSumAbelian x0 x1).K)) 1 (by simp)), (Blk.cell (((Ba1.below LC).other (p := ⟨wb.heap.size, 0, none⟩) nzBa1 (.slice Ah0_0 nh0_0 ch0_0)).other (p := ⟨wb.heap.size, 1, none⟩) nzBa1 (.int .i64 (rSumAbelian x0 x1).K)) 0 (by simp)), (Blk.cell (((Ba1.below LC).other (p := ⟨wb.heap.size, 0, none⟩) nzBa1 (.slice Ah0_0 nh0_0 ch0_0)).other (p := ⟨wb.heap.size, 1, none⟩) nzBa1 (.int .i64 (rSumAbelian x0 x1).K)) 1 (by simp))⟩) | (have BX : Blk wf wb.heap.size [.slice none 0 0, .int .i64 0] 26 := (Blk.new wb [.slice none 0 0, .int .i64 0] 26).below hbf; have hB9 : w15.heap.size ≤ wb.heap.size := hsb; obtain ⟨bxl, bx0, bx1⟩ := BX.c2; have fx0 := BX.free 0; have fx1 := BX.free 1; have nzBa0 : ¬ ((w.heap.size) = wb.heap.size) := (fun g => by omega); have nzBa1 : ¬ ((w.heap.size + 1) = wb.heap.size) := (fun g => by omega); have SK9 : ((wf.setCell ⟨wb.heap.size, 0, none⟩ (.slice Ah0_0 nh0_0 ch0_0)).setCell ⟨wb.heap.size, 1, none⟩ (.int .i64 (rSumAbelian x0 x1).K)).cell? ⟨(w.heap.size), 0, none⟩ = some (.slice Aa0_0 na0_0 ca0_0) ∧ ((wf.setCell ⟨wb.heap.size, 0, none⟩ (.slice Ah0_0 nh0_0 ch0_0)).setCell ⟨wb.heap.size, 1, none⟩ (.int .i64 (rSumAbelian x0 x1).K)).cell? ⟨(w.heap.size), 1, none⟩ = some (.int .i64 x0.K) ∧ ((wf.setCell ⟨wb.heap.size, 0, none⟩ (.slice Ah0_0 nh0_0 ch0_0)).setCell ⟨wb.heap.size, 1, none⟩ (.int .i64 (rSumAbelian x0 x1).K)).cell? ⟨(w.heap.size + 1), 0, none⟩ = some (.slice Aa1_0 na1_0 ca1_0) ∧ ((wf.setCell ⟨wb.heap.size, 0, none⟩ (.slice Ah0_0 nh0_0 ch0_0)).setCell ⟨wb.heap.size, 1, none⟩ (.int .i64 (rSumAbelian x0 x1).K)).cell? ⟨(w.heap.size + 1), 1, none⟩ = some (.int .i64 x1.K) := ⟨(Blk.cell (((Ba0.below LC).other (p := ⟨wb.heap.size, 0, none⟩) nzBa0 (.slice Ah0_0 nh0_0 ch0_0)).other (p := ⟨wb.heap.size, 1, none⟩) nzBa0 (.int .i64 (rSumAbelian x0 x1).K)) 0 (by simp)), (Blk.cell (((Ba0.below LC).other (p := ⟨wb.heap.size, 0, none⟩) nzBa0 (.slice Ah0_0 nh0_0 ch0_0)).other (p := ⟨wb.heap.size, 1, none⟩) nzBa0 (.int .i64 (rSumAbelian x0 x1).K)) 1 (by simp)), (Blk.cell (((Ba1.below LC).other (p := ⟨wb.heap.size, 0, none⟩) nzBa1 (.slice Ah0_0 nh0_0 ch0_0)).other (p := ⟨wb.heap.size, 1, none⟩) nzBa1 (.int .i64 (rSumAbelian x0 x1).K)) 0 (by simp)), (Blk.cell (((Ba1.below LC).other (p := ⟨wb.heap.size, 0, none⟩) nzBa1 (.slice Ah0_0 nh0_0 ch0_0)).other (p := ⟨wb.heap.size, 1, none⟩) nzBa1 (.int .i64 (rSumAbelian x0 x1).K)) 1 (by simp))⟩)))))
          all_goals
            go_wp2_with (fail)
            go_meet
            first
            | exact ⟨_, Sh0, _, _, _, rfl, rfl, Lib.hid ⟨LC.alloc LC.size _, spAb.own_alloc owf _, Blk.new _ _ _, (fun g => by have := spAb.own_lt owf g; omega), (fun k g => by have h1 := hSf k g; first | omega | (simp at h1; omega)), LC.size⟩⟩
            | (have nS9 : ¬ Sh0 w15.heap.size := (fun g => by have h1 := hSf _ g; first | omega | (simp at h1; omega) | (have h2 := hba.size; simp at h1 h2; omega) | (have h2 := hbb.size; simp at h1 h2; omega) | (have h2 := hba.size; have h3 := hbb.size; simp at h1 h2 h3; omega)); exact ⟨w15.heap.size, Sh0, _, _, _, rfl, rfl, Lib.hid ⟨((LC.setCell (p := ⟨w15.heap.size, 0, none⟩) hB9 (.slice Ah0_0 nh0_0 ch0_0)).setCell (p := ⟨w15.heap.size, 1, none⟩) hB9 (.int .i64 (rSumAbelian x0 x1).K)), (spAb.own_set (spAb.own_set owf (p := ⟨w15.heap.size, 0, none⟩) nS9 (.slice Ah0_0 nh0_0 ch0_0)) (p := ⟨w15.heap.size, 1, none⟩) nS9 (.int .i64 (rSumAbelian x0 x1).K)), ((BX.set 0 (.slice Ah0_0 nh0_0 ch0_0)).set 1 (.int .i64 (rSumAbelian x0 x1).K)), nS9, (fun k g => by have h1 := hSf k g; first | omega | (simp at h1; omega)), hB9⟩⟩)
            | (have nS9 : ¬ Sh0 wa.heap.size := (fun g => by have h1 := hSf _ g; first | omega | (simp at h1; omega) | (have h2 := hba.size; simp at h1 h2; omega) | (have h2 := hbb.size; simp at h1 h2; omega) | (have h2 := hba.size; have h3 := hbb.size; simp at h1 h2 h3; omega)); exact ⟨wa.heap.size, Sh0, _, _, _, rfl, rfl, Lib.hid ⟨((LC.setCell (p := ⟨wa.heap.size, 0, none⟩) hB9 (.slice Ah0_0 nh0_0 ch0_0)).setCell (p := ⟨wa.heap.size, 1, none⟩) hB9 (.int .i64 (rSumAbelian x0 x1).K)), (spAb.own_set (spAb.own_set owf (p := ⟨wa.heap.size, 0, none⟩) nS9 (.slice Ah0_0 nh0_0 ch0_0)) (p := ⟨wa.heap.size, 1, none⟩) nS9 (.int .i64 (rSumAbelian x0 x1).K)), ((BX.set 0 (.slice Ah0_0 nh0_0 ch0_0)).set 1 (.int .i64 (rSumAbelian x0 x1).K)), nS9, (fun k g => by have h1 := hSf k g; first | omega | (simp at h1; omega)), hB9⟩⟩)
            | (have nS9 : ¬ Sh0 wb.heap.size := (fun g => by have h1 := hSf _ g; first | omega | (simp at h1; omega) | (have h2 := hba.size; simp at h1 h2; omega) | (have h2 := hbb.size; simp at h1 h2; omega) | (have h2 := hba.size; have h3 := hbb.size; simp at h1 h2 h3; omega)); exact ⟨wb.heap.size, Sh0, _, _, _, rfl, rfl, Lib.hid ⟨((LC.setCell (p := ⟨wb.heap.size, 0, none⟩) hB9 (.slice Ah0_0 nh0_0 ch0_0)).setCell (p := ⟨wb.heap.size, 1, none⟩) hB9 (.int .i64 (rSumAbelian x0 x1).K)), (spAb.own_set (spAb.own_set owf (p := ⟨wb.heap.size, 0, none⟩) nS9 (.slice Ah0_0 nh0_0 ch0_0)) (p := ⟨wb.heap.size, 1, none⟩) nS9 (.int .i64 (rSumAbelian x0 x1).K)), ((BX.set 0 (.slice Ah0_0 nh0_0 ch0_0)).set 1 (.int .i64 (rSumAbelian x0 x1).K)), nS9, (fun k g => by have h1 := hSf k g; first | omega | (simp at h1; omega)), hB9⟩⟩)
        case rest =>
          clear KC0 KC1 KF hszW ltBa0 ltBa1
          obtain ⟨blk2, Sh0, Ah0_0, nh0_0, ch0_0, rfl, rfl, HH0⟩ := hcut
          obtain ⟨hb9, owh0, BX9, nS9, hSh0, hk9⟩ := HH0.out
          clear HH0
          generalize wc = W2 at *
          clear ba0l ba00 ba01 ba1l ba10 ba11 bw0l bw00 bw01 bg0l bg00 bg01
          have Dw0_h0 : Hid (∀ k, Sw0 k → ¬ Sh0 k) := Lib.hid fun k g1 g2 => by have := spAb.own_lt Ow0.out g1; have := hSh0 k g2; omega
          have Dg0_h0 : Hid (∀ k, Sg0 k → ¬ Sh0 k) := Lib.hid fun k g1 g2 => by have := spAb.own_lt Og0.out g1; have := hSh0 k g2; omega
          have Na0_h0 : ¬ Sh0 (w.heap.size) := fun g => by have := hSh0 _ g; have := Ba0.lt; omega
          have Na1_h0 : ¬ Sh0 (w.heap.size + 1) := fun g => by have := hSh0 _ g; have := Ba1.lt; omega
          have Nw0_h0 : ¬ Sh0 blk1 := fun g => by have := hSh0 _ g; have := Bw0.lt; omega
          have Ng0_h0 : ¬ Sh0 w5.heap.size := fun g => by have := hSh0 _ g; have := Bg0.lt; omega
          have Hh0 : Hid (∀ k, Sh0 k → w.heap.size ≤ k) := Lib.hid fun k g => by have := hSh0 k g; have := L.size; omega
          have Nh0_w0 : ¬ Sw0 blk2 := fun g => by have := spAb.own_lt Ow0.out g; omega
          have Nh0_g0 : ¬ Sg0 blk2 := fun g => by have := spAb.own_lt Og0.out g; omega
          have Nh0_h0 := nS9
          clear nS9 hk9
          replace Ow0 := Lib.hid (spAb.own_below Ow0.out hb9)
          replace Og0 := Lib.hid (spAb.own_below Og0.out hb9)
          replace Ba0 := Ba0.below hb9
          replace Ba1 := Ba1.below hb9
          replace Bw0 := Bw0.below hb9
          replace Bg0 := Bg0.below hb9
          replace L := bstep L L.size hb9
          clear hb9 hSh0
          have Oh0 := Lib.hid owh0
          clear owh0
          have Bh0 := BX9
          clear BX9
          obtain ⟨ba0l, ba00, ba01⟩ := Ba0.c2
          obtain ⟨ba1l, ba10, ba11⟩ := Ba1.c2
          obtain ⟨bw0l, bw00, bw01⟩ := Bw0.c2
          obtain ⟨bg0l, bg00, bg01⟩ := Bg0.c2
          obtain ⟨bh0l, bh00, bh01⟩ := Bh0.c2
          go_wp2_with (fail)
          refine (eqAb_ok (.agg #[.slice Ah0_0 nh0_0 ch0_0, .int .i64 (rSumAbelian x0 x1).K]) (.agg #[.slice Aw0_0 nw0_0 cw0_0, .int .i64 (rSumAbelian x0 x1).K]) (rSumAbelian x0 x1) W2 (spAb.own_rd Oh0.out) (spAb.own_rd Ow0.out)).mono ?_; rintro e w16 ⟨rfl, hb⟩
          clear ba0l ba00 ba01 ba1l ba10 ba11 bw0l bw00 bw01 bg0l bg00 bg01 bh0l bh00 bh01
          replace Ow0 := Lib.hid (spAb.own_below Ow0.out hb)
          replace Og0 := Lib.hid (spAb.own_below Og0.out hb)
          replace Oh0 := Lib.hid (spAb.own_below Oh0.out hb)
          replace Ba0 := Ba0.below hb
          replace Ba1 := Ba1.below hb
          replace Bw0 := Bw0.below hb
          replace Bg0 := Bg0.below hb
          replace Bh0 := Bh0.below hb
          replace L := bstep L L.size hb
          clear hb
          obtain ⟨ba0l, ba00, ba01⟩ := Ba0.c2
          obtain ⟨ba1l, ba10, ba11⟩ := Ba1.c2
          obtain ⟨bw0l, bw00, bw01⟩ := Bw0.c2
          obtain ⟨bg0l, bg00, bg01⟩ := Bg0.c2
          obtain ⟨bh0l, bh00, bh01⟩ := Bh0.c2
          go_wp2_with (fail)
          refine (heldAb_ok (.agg #[.slice Ag0_0 ng0_0 cg0_0, .int .i64 ((rSumAbelian x0 x1)).K]) (rSumAbelian x0 x1) 1 w16 (spAb.own_rd Og0.out) (by omega) (by omega)).mono ?_; rintro e w17 ⟨rfl, hb⟩
          clear ba0l ba00 ba01 ba1l ba10 ba11 bw0l bw00 bw01 bg0l bg00 bg01 bh0l bh00 bh01
          replace Ow0 := Lib.hid (spAb.own_below Ow0.out hb)
          replace Og0 := Lib.hid (spAb.own_below Og0.out hb)
          replace Oh0 := Lib.hid (spAb.own_below Oh0.out hb)
          replace Ba0 := Ba0.below hb
          replace Ba1 := Ba1.below hb
          replace Bw0 := Bw0.below hb
          replace Bg0 := Bg0.below hb
          replace Bh0 := Bh0.below hb
          replace L := bstep L L.size hb
          clear hb
          obtain ⟨ba0l, ba00, ba01⟩ := Ba0.c2
          obtain ⟨ba1l, ba10, ba11⟩ := Ba1.c2
          obtain ⟨bw0l, bw00, bw01⟩ := Bw0.c2
          obtain ⟨bg0l, bg00, bg01⟩ := Bg0.c2
          obtain ⟨bh0l, bh00, bh01⟩ := Bh0.c2
          go_wp2_with (fail)
          go_ret
          exact ⟨rfl, L⟩
    · obtain ⟨ba0l, ba00, ba01⟩ := Ba0.c2
      obtain ⟨ba1l, ba10, ba11⟩ := Ba1.c2
      have HC := Lib.hid (szAb_ok (.agg #[.slice Aa0_0 na0_0 ca0_0, .int .i64 x0.K]) x0 (1048576) ((w.alloc (.cells [.slice Aa0_0 na0_0 ca0_0, .int .i64 x0.K].toArray 24)).alloc (.cells [.slice Aa1_0 na1_0 ca1_0, .int .i64 x1.K].toArray 24)) (spAb.rd_below RW0.out L) (by omega) (by omega))
      rw [szLeft_yes (n := spAb.sz x0) (left := 1048576) (by omega)] at HC
      have g0 : 0 ≤ 1048576 - (spAb.sz x0 : Int) := by omega
      have g0' : 1048576 - (spAb.sz x0 : Int) ≤ 1048576 := by omega
      go_enter Try.func3, Try.ntmps3
      go_wp2_with (fail)
      refine HC.out.mono ?_; rintro e w1 ⟨rfl, hb⟩
      clear ba0l ba00 ba01 ba1l ba10 ba11
      clear HC
      replace Ba0 := Ba0.below hb
      replace Ba1 := Ba1.below hb
      replace L := bstep L L.size hb
      clear hb
      obtain ⟨ba0l, ba00, ba01⟩ := Ba0.c2
      obtain ⟨ba1l, ba10, ba11⟩ := Ba1.c2
      have HC := Lib.hid (szAb_ok (.agg #[.slice Aa1_0 na1_0 ca1_0, .int .i64 x1.K]) x1 (1048576 - (spAb.sz x0 : Int)) w1 (spAb.rd_below RW1.out L) (by omega) (by omega))
      rw [szLeft_no (n := spAb.sz x1) (left := 1048576 - (spAb.sz x0 : Int)) (by omega)] at HC
      go_wp2_with (fail)
      refine HC.out.mono ?_; rintro e w2 ⟨rfl, hb⟩
      clear ba0l ba00 ba01 ba1l ba10 ba11
      clear HC
      replace Ba0 := Ba0.below hb
      replace Ba1 := Ba1.below hb
      replace L := bstep L L.size hb
      clear hb
      obtain ⟨ba0l, ba00, ba01⟩ := Ba0.c2
      obtain ⟨ba1l, ba10, ba11⟩ := Ba1.c2
      go_wp2_with (fail)
      go_ret
      exact ⟨rfl, L⟩
  · obtain ⟨ba0l, ba00, ba01⟩ := Ba0.c2
    obtain ⟨ba1l, ba10, ba11⟩ := Ba1.c2
    have HC := Lib.hid (szAb_ok (.agg #[.slice Aa0_0 na0_0 ca0_0, .int .i64 x0.K]) x0 (1048576) ((w.alloc (.cells [.slice Aa0_0 na0_0 ca0_0, .int .i64 x0.K].toArray 24)).alloc (.cells [.slice Aa1_0 na1_0 ca1_0, .int .i64 x1.K].toArray 24)) (spAb.rd_below RW0.out L) (by omega) (by omega))
    rw [szLeft_no (n := spAb.sz x0) (left := 1048576) (by omega)] at HC
    go_enter Try.func3, Try.ntmps3
    go_wp2_with (fail)
    refine HC.out.mono ?_; rintro e w1 ⟨rfl, hb⟩
    clear ba0l ba00 ba01 ba1l ba10 ba11
    clear HC
    replace Ba0 := Ba0.below hb
    replace Ba1 := Ba1.below hb
    replace L := bstep L L.size hb
    clear hb
    obtain ⟨ba0l, ba00, ba01⟩ := Ba0.c2
    obtain ⟨ba1l, ba10, ba11⟩ := Ba1.c2
    go_wp2_with (fail)
    go_ret
    exact ⟨rfl, L⟩
theorem fnExactSumAbelian_walk (A0 : Option Addr) (c0 : Nat) (xs0 : List Int) (K0 : Int) (A1 : Option Addr) (c1 : Nat) (xs1 : List Int) (K1 : Int) (w : World) (w0 : RdI w A0 xs0 ∧ xs0.length ≤ maxLen) (w1 : RdI w A1 xs1 ∧ xs1.length ≤ maxLen) :
    Calls Try.prog 3 #[.agg #[.slice A0 xs0.length c0, .int .i64 K0], .agg #[.slice A1 xs1.length c1, .int .i64 K1]] w fun e w' => e = .returned (.bool true) ∧ Below w.heap.size w w' :=
  fnExactSumAbelian_run (.agg #[.slice A0 xs0.length c0, .int .i64 K0]) ⟨xs0, K0⟩ (.agg #[.slice A1 xs1.length c1, .int .i64 K1]) ⟨xs1, K1⟩ w (rdAb_of w0) (rdAb_of w1)
end Go.Proofs.Ytndldgmejmephaa
